/- Rows of the call's own, and what addr's joined answers. -/
import Derived.Test.YtoijfnkbjdekoaaDoorNum
namespace Go.Proofs.YtoijfnkbjdekoaaDoor
open Go.ChangeShapes Go.WideShapes Go.ChangeAt Go.RowKit
set_option linter.unusedVariables false
set_option linter.unusedSimpArgs false

theorem own_below {w w' : World} {base : Nat} {e : TypeId} {size : Nat} {v : Value} {n : Nat} {xs : List Value} (h : w.ownsRow base e size v n xs) (hb : Below w.heap.size w w') : w'.ownsRow base e size v n xs := by
  refine ⟨h.1, ?_⟩
  rcases h.2 with hn | ⟨g, cap, cur, rfl, hbb, hgg, rest⟩
  · exact .inl hn
  · exact .inr ⟨g, cap, cur, rfl, hbb, by rw [hb.block g (Array.getElem?_eq_some_iff.1 hgg).1]; exact hgg, rest⟩
theorem own_as {w : World} {base : Nat} {e : TypeId} {size : Nat} {v : Value} {n m : Nat} {xs ys : List Value} (h : w.ownsRow base e size v n xs) (hn : n = m) (hx : xs = ys) : w.ownsRow base e size v m ys := by subst hn; subst hx; exact h
theorem own_low {w : World} {base base' : Nat} {e : TypeId} {size : Nat} {v : Value} {n : Nat} {xs : List Value} (h : w.ownsRow base e size v n xs) (hb : base' ≤ base) : w.ownsRow base' e size v n xs := by
  refine ⟨h.1, ?_⟩
  rcases h.2 with hn | ⟨g, cap, cur, rfl, hbb, rest⟩
  · exact .inl hn
  · exact .inr ⟨g, cap, cur, rfl, Nat.le_trans hb hbb, rest⟩

/-- What a row of the call's own holds. -/
theorem own_cells {w : World} {base : Nat} {e : TypeId} {v : Value} {n : Nat} {xs : List Value} (h : w.ownsRow base e 1 v n xs) (hn : xs.length = n) :
    (v = .slice none 0 0 ∧ n = 0) ∨ ∃ g cap, v = .slice (some ⟨g, 0, none⟩) n cap ∧ n ≤ cap ∧ base ≤ g ∧ g < w.heap.size ∧ ∀ j x, xs[j]? = some x → w.cell? ⟨g, j, none⟩ = some x := by
  rcases h.2 with ⟨rfl, hz⟩ | ⟨g, cap, cur, rfl, hb, hg, hnc, hcm, hcs, hx⟩
  · exact Or.inl ⟨rfl, hz⟩
  · refine Or.inr ⟨g, cap, rfl, hnc, hb, (Array.getElem?_eq_some_iff.1 hg).1, fun j x hj => ?_⟩
    rw [cell_of_row w g j cur e (0, 0) hg]
    have hjl : j < n := by rw [← hn]; exact (List.getElem?_eq_some_iff.1 hj).1
    rw [← hx, List.getElem?_take, if_pos (by omega)] at hj
    simpa using hj

/-- One cell is put behind a row of the call's own. -/
theorem wp_push {ops : Array Oper} {rest : List Oper} {o : Oper} {a : Act} {Q : Exit → Act → World → Prop} {w : World} {x : Value} {base m : Nat} {v : Value} {xs : List Value} (hgd : o.guard = none) (s y : Operand) (t e : TypeId) (z : Value) (bytes : Nat)
    (ho : o.op = .call { callee := .builtin .append, args := #[s, y], argTypes := #[t, t] }) (hs : a.eval s = v) (hx : a.eval y = .slice (some ⟨w.heap.size, 0, none⟩) 1 1)
    (ht : Tryd.prog.underlying t = some (.slice e)) (hi : (Tryd.prog.info? e).map (fun i => (i.zero, i.size, i.bytes)) = some (some z, 1, bytes)) (hz1 : z.cells.size = 1) (hby : bytes ≤ 1000)
    (hown : w.ownsRow base e 1 v m xs) (h1 : x.oneCell' = true) (hb : base ≤ w.heap.size) (hm : m ≤ 200000)
    (h : ∀ v' w', w'.ownsRow base e 1 v' (m + 1) (xs ++ [x]) → Below base w w' → wpList Tryd.prog ops Q rest (a.put o.dst v') w') :
    wpList Tryd.prog ops Q (o :: rest) a (w.alloc (.cells #[x] e)) := by
  obtain ⟨i0, hi, hz0, hz1', hz2⟩ := info_parts hi
  refine wpList_append_own _ hgd s y t ho base e i0 z 1 bytes ht hi hz0 hz1' hz2 hz1 (by decide) v m xs hs (hown.alloc _) ⟨w.heap.size, 0, none⟩ 1 1 [x] hx (by simp) ?_ (by simpa using h1) (by unfold maxLen; omega) ?_ (by simp; omega) ?_
  · exact cell_one_new _ _ _
  · have : (m + 1) * bytes ≤ 200001 * 1000 := Nat.mul_le_mul (by omega) hby
    omega
  · intro v' w' h2 h3 _
    refine h v' w' h2 (Below.grown ((Below.refl _ _).alloc hb _) h3 (by simp; omega) ?_)
    intro k hk
    exact (hown.lt k hk).1

theorem row9 : (Tryd.prog.info? 9).map (fun i => (i.zero, i.size, i.bytes)) = some (some (.string ⟨#[]⟩), 1, 16) := by kernel_rfl
theorem row3 : (Tryd.prog.info? 3).map (fun i => (i.zero, i.size, i.bytes)) = some (some (.int .i64 0), 1, 8) := by kernel_rfl

/-- The groups' texts. -/
def strs (l : List Int) : List ByteArray := l.map fun x => ⟨(hexT x.toNat).toArray⟩
/-- Some groups' text. -/
def jn (l : List Int) : List UInt8 := Lib.join (l.map fun x => hexT x.toNat) [58]
theorem strs_map (l : List Int) : (strs l).map (·.data.toList) = l.map fun x => hexT x.toNat := by simp [strs]
theorem take_snoc (zs : List Int) (k : Nat) (h : k < zs.length) : zs.take (k + 1) = zs.take k ++ [zs.getD k 0] := by
  rw [List.take_succ_eq_append_getElem h]; simp [h]

theorem tail_len (r : List (List UInt8)) (h : ∀ x ∈ r, x.length ≤ 4) : (Lib.joinTail [58] r).length ≤ 5 * r.length := by
  induction r with
  | nil => simp [Lib.joinTail]
  | cons y r ih =>
    have h1 := ih (fun x hx => h x (by simp [hx]))
    have h2 := h y (by simp)
    simp only [Lib.joinTail, List.map_cons, List.flatten_cons, List.length_append, List.length_cons, List.length_nil] at h1 ⊢
    omega
theorem jn_len (l : List Int) (h : l.length ≤ 100) : (jn l).length ≤ 1000 := by
  cases l with
  | nil => simp [jn, Lib.join_nil]
  | cons x r =>
    rw [jn, List.map_cons, Lib.join_cons, List.length_append]
    have h1 := tail_len (r.map fun x => hexT x.toNat) (by intro y hy; simp only [List.mem_map] at hy; obtain ⟨z, _, rfl⟩ := hy; exact (hexT_len _).2)
    have h2 := (hexT_len x.toNat).2
    simp at h h1
    omega

theorem join_own (w : World) (base : Nat) (v : Value) (l : List Int) (h : w.ownsRow base 9 1 v l.length ((strs l).map Value.string)) (hl : l.length ≤ 100) :
    Calls Tryd.prog 40 #[v, .string ⟨#[58]⟩] w fun e w' => e = .returned (.string ⟨(jn l).toArray⟩) ∧ Below w.heap.size w w' := by
  rcases own_cells h (by simp [strs]) with ⟨rfl, hn⟩ | ⟨g, cap, rfl, hnc, hb, hg, hc⟩
  · have : l = [] := List.eq_nil_of_length_eq_zero hn
    subst this
    refine (Tryd.strings_Join_none none 0 _ w).mono ?_
    rintro e w' ⟨rfl, rfl⟩
    exact ⟨rfl, Below.refl _ _⟩
  · have hj : Lib.join ((strs l).map (·.data.toList)) [58] = jn l := by rw [strs_map]; rfl
    have hlen : (strs l).length = l.length := by simp [strs]
    rw [← hlen]
    refine (Tryd.strings_Join g 0 cap (strs l) ⟨#[58]⟩ w ?_ hg (by omega) (by omega) ?_).mono ?_
    · intro j x hx
      rw [Nat.zero_add]
      exact hc j (.string x) (by rw [List.getElem?_map, hx]; rfl)
    · show (Lib.join ((strs l).map (·.data.toList)) [58]).length ≤ _
      rw [hj]
      have := jn_len l hl
      omega
    · rintro e w' ⟨rfl, hb⟩
      refine ⟨?_, hb⟩
      show Ending.returned (.string ⟨(Lib.join ((strs l).map (·.data.toList)) [58]).toArray⟩) = _
      rw [hj]

set_option maxRecDepth 100000 in
set_option maxHeartbeats 1600000 in
theorem joined_any (a : Option Addr) (len cap : Nat) (l : List Int) (w : World) (h : Lies w a len l) (hm : len ≤ 8) (hv : ∀ x ∈ l, 0 ≤ x ∧ x < 65536) (hV : Vars w) :
    Calls Tryd.prog 31 #[.slice a len cap] w fun e w' => e = .returned (.string ⟨(jn l).toArray⟩) ∧ Below w.heap.size w w' := by
  obtain ⟨hl, hc⟩ := h
  have HL : Hid (l.length = len) := hl
  have HC : Hid _ := hc
  have HV : Hid (∀ x ∈ l, 0 ≤ x ∧ x < 65536) := hv
  clear hl hc hv
  go_enter Tryd.func31, Tryd.ntmps31
  go_wp2
  go_loopw [3, 8] (fun v i wr => ∃ k : Nat, k ≤ len ∧ i = .int .i64 k ∧ Hid (wr.ownsRow w.heap.size 9 1 v k ((strs (l.take k)).map Value.string)) ∧ Hid (Below w.heap.size w wr))
    (fun _ i _ => len - (intOf i).toNat)
  case atStart => exact ⟨0, Nat.zero_le _, rfl, World.ownsRow_nil _ _ _ _, Below.refl _ _⟩
  case round =>
    obtain ⟨k, hk, rfl, HO, HB⟩ := hrel
    by_cases hlt : k < len
    · obtain ⟨b, off, rfl, hcell, hbw⟩ := HC.out k hlt
      have hcell : wr.cell? ⟨b, off + k, none⟩ = some (.int .i64 (l.getD k 0)) := (HB.out.cell (p := ⟨b, off + k, none⟩) hbw).trans hcell
      have hx := HV.out _ (getD_mem (k := k) (by rw [HL.out]; exact hlt))
      have HT : Hid ((strs (l.take (k + 1))).map Value.string = (strs (l.take k)).map Value.string ++ [.string ⟨(hexT (l.getD k 0).toNat).toArray⟩]) := by
        show _ = _; rw [take_snoc l k (by rw [HL.out]; exact hlt)]; simp [strs]
      generalize l.getD k 0 = x at *
      obtain ⟨n, rfl⟩ := Int.eq_ofNat_of_zero_le hx.1
      have hn : n < 65536 := by omega
      have HVr : Hid (Vars wr) := hV.grow HB.out
      clear hx
      go_wp2_with (first
        | (go_at_call 39; refine (formatInt_any n _ hn HVr.out.2.2.2.1 HVr.out.2.2.2.2).mono ?_; rintro e w1 ⟨rfl, hb1⟩; have B1 : Hid (Below w.heap.size w w1) := HB.out.trans (hb1.mono HB.out.size); have O1 : Hid (w1.ownsRow _ 9 1 _ k ((strs (l.take k)).map Value.string)) := own_below HO.out hb1; clear hb1)
        | (at_builtin; refine wp_push rfl _ _ 75 9 _ 16 rfl rfl rfl Tryd.underlying75 row9 rfl (by decide) O1.out rfl ?_ ?_ ?_))
      case refine_1 => exact B1.out.size
      case refine_2 => omega
      intro v2 w2 hO2 hb2
      have B2 : Hid (Below w.heap.size w w2) := B1.out.trans hb2
      have O2 : Hid (w2.ownsRow w.heap.size 9 1 v2 (k + 1) ((strs (l.take (k + 1))).map Value.string)) := own_as hO2 rfl HT.out.symm
      clear hO2 hb2
      go_wp2
      go_roundw
      case rel => exact ⟨k + 1, by omega, by go_num, O2, B2⟩
      case measure => simp [intOf]; omega
    · obtain rfl : k = len := by omega
      have O1 : Hid (wr.ownsRow w.heap.size 9 1 _ l.length ((strs l).map Value.string)) := own_as HO.out HL.out.symm (by rw [List.take_of_length_le (by rw [HL.out]; omega)])
      go_wp2_with (go_at_call 40; refine (join_own _ _ _ l O1.out (by rw [HL.out]; omega)).mono ?_; rintro e w1 ⟨rfl, hb1⟩)
      go_ret
      exact ⟨rfl, HB.out.trans (hb1.mono HB.out.size)⟩
end Go.Proofs.YtoijfnkbjdekoaaDoor

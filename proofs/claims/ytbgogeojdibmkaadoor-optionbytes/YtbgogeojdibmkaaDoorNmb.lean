/- The numbers of a kind: isAddress, numbers. -/
import Derived.Test.YtbgogeojdibmkaaDoorVar
namespace Go.Proofs.YtbgogeojdibmkaaDoor
open Go.ChangeShapes Go.WideShapes Go.ChangeAt Go.RowKit Go.Deep
set_option linter.unusedVariables false
set_option linter.unusedSimpArgs false

/-- An append of what was just laid down onto a row of the call's own, elements of any size. -/
theorem wpList_pushE {ops : Array Oper} {rest : List Oper} {o : Oper} {a : Act} {Q : Exit → Act → World → Prop} {w : World} {cs : Array Value} {base m : Nat} {v : Value} {xs : List Value} (hgd : o.guard = none) (s x : Operand)
    (t e : TypeId) (z : Value) (size bytes n : Nat) (ho : o.op = .call { callee := .builtin .append, args := #[s, x], argTypes := #[t, t] }) (hs : a.eval s = v) (hx : a.eval x = .slice (some ⟨w.heap.size, 0, none⟩) n n)
    (ht : Tryd.prog.underlying t = some (.slice e)) (hinf : (Tryd.prog.info? e).map (fun i => (i.zero, i.size, i.bytes)) = some (some z, size, bytes)) (hzs : z.cells.size = size) (hsz : 0 < size) (hby : bytes ≤ 100) (hcs : cs.size = n * size)
    (hown : w.ownsRow base e size v m xs) (h1 : ∀ u ∈ cs.toList, u.oneCell' = true) (hb : base ≤ w.heap.size) (hm : m + n ≤ 200000)
    (h : ∀ v' w', w'.ownsRow base e size v' (m + n) (xs ++ cs.toList) → Below base w w' → wpList Tryd.prog ops Q rest (a.put o.dst v') w') :
    wpList Tryd.prog ops Q (o :: rest) a (w.alloc (.cells cs e)) := by
  obtain ⟨i0, hi, hz0, hz1, hz2⟩ := info_parts hinf
  refine wpList_append_own _ hgd s x t ho base e i0 z size bytes ht hi hz0 hz1 hz2 hzs hsz v m xs hs (hown.alloc _) ⟨w.heap.size, 0, none⟩ n n cs.toList hx (by simpa using hcs) ?_ h1 (by unfold maxLen; omega) ?_ (by simp; omega) ?_
  · intro j u hj
    exact World.news_of_block (heap_alloc_new w _) j u hj
  · have : (m + n) * bytes ≤ 200000 * 100 := Nat.mul_le_mul hm hby
    omega
  · intro v' w' h2 h3 _
    refine h v' w' h2 (Below.grown ((Below.refl _ _).alloc hb _) h3 (by simp; omega) ?_)
    intro k hk
    exact (hown.lt k hk).1

theorem isAddress_any (x y : Int) (w : World) : Calls Tryd.prog 61 #[.agg #[.int .i64 x, .int .i64 y]] w fun e w' => e = .returned (.bool (x == 16)) ∧ Below w.heap.size w w' := by
  have B := hid (balloc (Below.refl w.heap.size w) (.cells #[.int .i64 x, .int .i64 y] 87))
  go_enter Tryd.func61, Tryd.ntmps61
  go_wp2
  go_ret
  exact ⟨rfl, B.out⟩

/-- The parts of a kind that are numbers. -/
def nmb (l : List (Int × Int)) : List (Int × Int) := l.filter (fun p => !(p.1 == 16))
def pcs (l : List (Int × Int)) : List Value := l.flatMap (fun p => [.int .i64 p.1, .int .i64 p.2])
theorem pcs_length (l : List (Int × Int)) : (pcs l).length = l.length * 2 := by
  induction l with
  | nil => rfl
  | cons p l ih => simp only [pcs, List.flatMap_cons, List.length_append, List.length_cons] at ih ⊢; rw [ih]; simp; omega
theorem nmb_yes (l : List (Int × Int)) (i : Nat) (h : i < l.length) (hx : ((l.getD i (0, 0)).1 == 16) = false) : nmb (l.take (i + 1)) = nmb (l.take i) ++ [l.getD i (0, 0)] := by
  unfold nmb
  rw [List.take_succ_eq_append_getElem h, List.filter_append]
  simp [h] at hx ⊢
  simp [hx]
theorem nmb_no (l : List (Int × Int)) (i : Nat) (h : i < l.length) (hx : ((l.getD i (0, 0)).1 == 16) = true) : nmb (l.take (i + 1)) = nmb (l.take i) := by
  unfold nmb
  rw [List.take_succ_eq_append_getElem h, List.filter_append]
  simp [h] at hx ⊢
  simp [hx]
theorem nmb_le (l : List (Int × Int)) : (nmb l).length ≤ l.length := List.length_filter_le _ _
theorem info87 : (Tryd.prog.info? 87).map (fun i => (i.zero, i.size, i.bytes)) = some (some (.agg #[.int .i64 0, .int .i64 0]), 2, 16) := by kernel_rfl
theorem pcs_snoc (l : List (Int × Int)) (p : Int × Int) : pcs (l ++ [p]) = pcs l ++ [.int .i64 p.1, .int .i64 p.2] := by simp [pcs]
set_option maxHeartbeats 800000 in
theorem numbers_any {B : Nat} (k : Nat) (hk : k < 10) (w : World) (hV : Vars B w) : Calls Tryd.prog 47 #[.int .i64 k] w fun e w' => ∃ v, e = .returned v ∧ w'.ownsRow w.heap.size 87 2 v (nmb (prt k)).length (pcs (nmb (prt k))) ∧ Below w.heap.size w w' := by
  obtain ⟨a, n, cap, c1, hP⟩ := hV.parts k hk
  have hsm := (prt_small k hk).1
  have hn10 : n ≤ 10 := by rw [← hP.len]; exact hsm
  have HV := hid hV
  have HP := hid hP
  generalize prt k = l at *
  clear hV hP hsm
  go_enter Tryd.func47, Tryd.ntmps47
  go_wp2
  go_loopw [3, 11] (fun v i wr => ∃ j : Nat, j ≤ n ∧ i = .int .i64 j ∧ Hid (wr.ownsRow w.heap.size 87 2 v (nmb (l.take j)).length (pcs (nmb (l.take j)))) ∧ Hid (Below w.heap.size w wr)) (fun _ i _ => n - (intOf i).toNat)
  case atStart => exact ⟨0, Nat.zero_le _, rfl, World.ownsRow_nil _ _ _ _, Below.refl _ _⟩
  case round =>
    obtain ⟨j, hj, rfl, ho, hb⟩ := hrel
    by_cases hlt : j < n
    · obtain ⟨b, off, rfl, hbB, hc0, hc1⟩ := (HP.out.same (fun b o hlt => hb.out.cell (p := ⟨b, o, none⟩) (Nat.lt_of_lt_of_le hlt HV.out.le))).cell j hlt
      have HY := hid (nmb_yes l j (by rw [HP.out.len]; exact hlt))
      have HN := hid (nmb_no l j (by rw [HP.out.len]; exact hlt))
      have HL := hid (nmb_le (l.take j))
      have HE : Hid (pcs (nmb (l.take j) ++ [l.getD j (0, 0)]) = _) := pcs_snoc _ _
      generalize hp : l.getD j (0, 0) = p at *
      generalize hx : p.1 = x at *
      generalize hy : p.2 = y at *
      have hm : (nmb (l.take j)).length ≤ 10 := by have := HL.out; simp at this; omega
      have R0 := hid (Row.new wr 87 #[.int .i64 x, .int .i64 y])
      have B0 := hid (balloc hb.out (.cells #[.int .i64 x, .int .i64 y] 87))
      have O0 := hid (ho.out.alloc (.cells #[.int .i64 x, .int .i64 y] 87))
      cases h16 : (x == 16)
      · go_wp2_with fail
        refine (isAddress_any _ _ _).mono ?_
        rintro e w1 ⟨rfl, hb1⟩
        have hc0 := (R0.out.below hb1).cell 0
        have hc1 := (R0.out.below hb1).cell 1
        simp only [List.getElem?_toArray, List.getElem?_cons_zero, List.getElem?_cons_succ] at hc0 hc1
        have O1 := hid (own_below O0.out hb1)
        have B1 := hid (bthen B0.out hb1)
        clear hb1
        rw [h16]
        go_wp2_with (at_builtin; refine wpList_pushE rfl _ _ 60 87 (.agg #[.int .i64 0, .int .i64 0]) 2 16 1 rfl rfl rfl Tryd.underlying60 info87 rfl (by decide) (by decide) rfl O1.out ?c1 ?c2 ?c3 ?_)
        case c1 => first | rfl | exact ⟨rfl, rfl⟩
        case c2 => exact B1.out.size
        case c3 => omega
        intro v1 w2 ho1 hb2
        have HB := hid (B1.out.trans hb2)
        have HO := hid ho1
        clear ho1 hb2
        go_wp2
        go_roundw
        case rel =>
          refine ⟨j + 1, by omega, by go_num, ?_, HB.out⟩
          rw [Hid, HY.out h16, List.length_append, HE.out]
          exact HO.out
        case measure => simp [intOf]; omega
      · go_wp2_with fail
        refine (isAddress_any _ _ _).mono ?_
        rintro e w1 ⟨rfl, hb1⟩
        have O1 := hid (own_below O0.out hb1)
        have B1 := hid (bthen B0.out hb1)
        clear hb1
        rw [h16]
        go_wp2
        go_roundw
        case rel => exact ⟨j + 1, by omega, by go_num, by rw [Hid, HN.out h16]; exact O1.out, B1.out⟩
        case measure => simp [intOf]; omega
    · obtain rfl : j = n := by omega
      go_wp2
      go_ret
      refine ⟨_, rfl, ?_, hb.out⟩
      have := ho.out
      rwa [List.take_of_length_le (by rw [HP.out.len]; omega)] at this
end Go.Proofs.YtbgogeojdibmkaaDoor

/- What the methods of pack's cursor answer: contracts. -/
import Derived.Test.YtinfkjnneibklaaPackPut
namespace Go.Proofs.Ytinfkjnneibklaa
open Go.ChangeShapes Go.WideShapes Go.ChangeAt Go.RowKit
set_option linter.unusedVariables false
set_option linter.unusedSimpArgs false

theorem clone_nil (w : World) : Calls Try.prog 22 #[.slice none 0 0] w fun e w' => e = .returned (.slice none 0 0) ∧ w' = w := by
  have he := fun w => Lib.run_eql_slice_nil (P := Try.prog) w 27 5 none 0 0 0 0 Try.underlying27
  go_enter Try.func22, Try.ntmps22
  go_wp2
  go_ret
  exact ⟨rfl, rfl⟩

theorem clone_some (ad : Addr) (len cap : Nat) (l : List Int) (w : World) (h : Lies .u8 w (some ad) len cap l) (hl : len ≤ 100000) :
    Calls Try.prog 22 #[.slice (some ad) len cap] w fun e w' => ∃ v, e = .returned v ∧ w'.ownsRow w.heap.size 5 1 v l.length (u8s l) ∧ Below w.heap.size w w' := by
  have he := fun w => Lib.run_eql_slice_nil (P := Try.prog) w 27 5 (some ad) len cap 0 0 Try.underlying27
  obtain ⟨i0, hi, hz0, hz1, hz2⟩ := info_parts info5
  have HB : Hid (Lies .u8 w (some ad) len cap l) := h
  have hb1 : Below w.heap.size w (w.alloc (.cells #[] 5)) := (Below.refl _ _).alloc (Nat.le_refl _) _
  have hl1 := HB.out.below hb1
  have hown := World.ownsRow_made (e := 5) (size := 1) (base := w.heap.size) w #[] 0 (Nat.le_refl _) (by decide) (by simp)
  have HO : Hid _ := hown
  have HL1 : Hid _ := hl1
  clear h hown hl1 hb1
  go_enter Try.func22, Try.ntmps22
  go_wp2_with (at_builtin; refine wpList_append_own _ rfl _ _ 27 rfl w.heap.size 5 i0 (.int .u8 0) 1 1 Try.underlying27 hi hz0 hz1 hz2 rfl (by decide) _ _ _ rfl HO.out ad len cap (u8s l) rfl ?c1 (Lies.cells HL1.out ad rfl) (ints_oneCell8 _ _) ?c3 ?c4 ?c5 ?_)
  case c1 => have := HB.out.1; simp [u8s]; omega
  case c3 => unfold maxLen; omega
  case c4 => omega
  intro v1 w1 hown1 hg1 _
  have hb2 : Below w.heap.size w w1 := Below.grown ((Below.refl _ _).alloc (Nat.le_refl _) _) hg1 (by simp) (fun k hk => by cases hk; exact Nat.le_refl _)
  have hln := HB.out.1
  have HW : Hid _ := hown1
  clear hown1 hg1
  go_wp2
  go_ret
  exact ⟨_, rfl, ownsRow_u8 HW.out (by omega) (by simp), hb2⟩

theorem clone_any (a : Option Addr) (len cap : Nat) (l : List Int) (w : World) (h : Lies .u8 w a len cap l) (hl : len ≤ 100000) :
    Calls Try.prog 22 #[.slice a len cap] w fun e w' => ∃ v, e = .returned v ∧ w'.ownsRow w.heap.size 5 1 v l.length (u8s l) ∧ Below w.heap.size w w' := by
  cases a with
  | some ad => exact clone_some ad len cap l w h hl
  | none =>
    obtain ⟨rfl, rfl⟩ := h.isNil rfl
    have : l = [] := List.eq_nil_of_length_eq_zero h.1
    subst this
    refine (clone_nil w).mono ?_
    rintro e w' ⟨rfl, rfl⟩
    exact ⟨_, rfl, World.ownsRow_nil _ _ _ _, Below.refl _ _⟩

/-- A row of the call's own, as a slice of bytes. -/
theorem owns_lies {w : World} {base : Nat} {v : Value} {l : List Int} (h : w.ownsRow base 5 1 v l.length (u8s l)) : ∃ a cap, v = .slice a l.length cap ∧ Lies .u8 w a l.length cap l ∧ (∀ ad, a = some ad → base ≤ ad.block ∧ ad.off = 0 ∧ ad.block < w.heap.size ∧ ∀ k, k < cap → w.frozen? ⟨ad.block, k, none⟩ = false) := by
  rcases h.2 with ⟨rfl, hn⟩ | ⟨g, cap, cur, rfl, hb, hg, hnc, hcm, hcs, hx⟩
  · exact ⟨none, 0, by rw [hn], ⟨rfl, by omega, by decide, fun _ => rfl, fun k hk => by omega⟩, fun ad h => by cases h⟩
  · refine ⟨_, cap, rfl, ⟨rfl, hnc, hcm, (fun h => by cases h), fun k hk => ⟨g, 0, rfl, ?_⟩⟩, ?_⟩
    · rw [Nat.zero_add, cell_of_row w g k cur 5 (0, 0) hg]
      have h1 : (cur.toList.take (l.length * 1))[k]? = (u8s l)[k]? := by rw [hx]
      rw [List.getElem?_take, if_pos (by omega)] at h1
      simp [u8s, hk] at h1
      simp [h1, hk]
    · intro ad had
      obtain rfl := Option.some.inj had
      refine ⟨hb, rfl, (Array.getElem?_eq_some_iff.1 hg).1, fun k hk => ?_⟩
      simp [World.frozen?, hg]

theorem hid {p : Prop} (h : p) : Hid p := h

/-- A part of a slice. -/
theorem Lies.cut {kd : IntKind} {w : World} {a : Option Addr} {len cap : Nat} {l : List Int} (h : Lies kd w a len cap l) (lo n mx : Nat) (h1 : lo + n ≤ len) (h2 : lo + n ≤ mx) (h3 : mx ≤ cap) {a' : Option Addr} (ha : ¬ mx = lo → a' = a.map (·.add lo)) (ha' : mx = lo → a' = a) :
    Lies kd w a' n (mx - lo) ((l.drop lo).take n) := by
  obtain ⟨hl, hlc, hcm, hn, hc⟩ := h
  refine ⟨by simp; omega, by omega, by omega, ?_, fun k hk => ?_⟩
  · intro h0
    by_cases hm : mx = lo
    · omega
    · rw [ha hm] at h0
      have : a = none := by cases a <;> simp_all
      have := hn this; omega
  · obtain ⟨b, off, he, hcell⟩ := hc (lo + k) (by omega)
    refine ⟨b, off + lo, ?_, ?_⟩
    · rw [ha (by omega), he]; simp [Addr.add_lit]
    · rw [Nat.add_assoc, hcell]
      have hk2 : lo + k < l.length := by omega
      simp [List.getD, List.getElem?_take, hk, List.getElem?_drop]

/-- A block that holds none of a row's bytes. -/
def NoU8 (w : World) (d : Nat) : Prop := ∀ o x, w.cell? ⟨d, o, none⟩ ≠ some (.int .u8 x)
theorem noU8_of {w : World} {d : Nat} {a : Option Addr} {len cap : Nat} {x y : Int} {t : TypeId} {fr : Nat × Nat} (h : w.heap[d]? = some (.cells #[.slice a len cap, .int .i64 x, .int .i64 y] t fr)) : NoU8 w d := by
  intro o z hz
  rw [cell_of_row w d o _ _ _ h] at hz
  match o, hz with
  | 0, hz => simp at hz
  | 1, hz => simp at hz
  | 2, hz => simp at hz
  | o + 3, hz => simp at hz
theorem Lies.grown {w w' : World} {d : Nat} {a : Option Addr} {len cap : Nat} {l : List Int} (h : Lies .u8 w a len cap l) (hn : NoU8 w d) (hg : w.grownBy w' (some d)) : Lies .u8 w' a len cap l := by
  refine ⟨h.1, h.2.1, h.2.2.1, h.2.2.2.1, fun k hk => ?_⟩
  obtain ⟨b, off, he, hc⟩ := h.2.2.2.2 k hk
  refine ⟨b, off, he, hg.cell hc ?_⟩
  intro e
  obtain rfl := Option.some.inj e
  exact hn _ _ hc
theorem Lies.drewN {kd : IntKind} {w : World} {a : Option Addr} {len cap : Nat} {l : List Int} (h : Lies kd w a len cap l) (q : Nat) : Lies kd (w.drewN q) a len cap l := h
theorem grownBy_drewN (w : World) (q : Nat) (row : Option Nat) : w.grownBy (w.drewN q) row := ⟨rfl, rfl, rfl, Nat.le_refl _, fun _ _ _ => rfl⟩
theorem grownBy_setCell (w : World) (c j : Nat) (v : Value) : w.grownBy (w.setCell ⟨c, j, none⟩ v) (some c) :=
  ⟨rfl, rfl, rfl, by simp, fun k _ hne => heap_setCell_other w _ k v (fun e => hne (by rw [e]))⟩

/-- Where a part of a slice lies. -/
def cutA (a : Option Addr) (lo n : Nat) : Option Addr := if n = 0 then a else a.map (·.add lo)

theorem Lies.part {kd : IntKind} {w : World} {a : Option Addr} {len cap : Nat} {l : List Int} (h : Lies kd w a len cap l) (lo n : Nat) (h1 : lo + n ≤ len) :
    Lies kd w (cutA a lo n) n n ((l.drop lo).take n) := by
  have := h.cut lo n (lo + n) h1 (Nat.le_refl _) (Nat.le_trans h1 h.2.1) (a' := cutA a lo n) (fun hn => by simp [cutA, show ¬ n = 0 by omega]) (fun hn => by simp [cutA, show n = 0 by omega])
  rwa [Nat.add_sub_cancel_left] at this

theorem ret_slice {a a' : Option Addr} {n n' c c' : Nat} (h : a = a') (hn : n = n') (hc : c = c') : Ending.returned (.slice a n c) = .returned (.slice a' n' c') := by rw [h, hn, hc]

end Go.Proofs.Ytinfkjnneibklaa

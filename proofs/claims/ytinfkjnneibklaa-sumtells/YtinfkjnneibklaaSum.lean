/- What the small functions of package sum answer: contracts. -/
import Derived.Test.YtinfkjnneibklaaPure
namespace Go.Proofs.Ytinfkjnneibklaa
open Go.ChangeShapes Go.WideShapes Go.ChangeAt Go.RowKit
set_option linter.unusedVariables false
set_option linter.unusedSimpArgs false

/-- A Sum in memory, to which the bytes l were added. -/
structure SumAt (w : World) (c : Nat) (l : List Int) : Prop where
  block : w.heap[c]? = some (.cells #[.int .i64 (sumV l), .int .i64 l.length] 26)
  oct : Oct l
  small : l.length ≤ 10000000
theorem SumAt.cell0 {w : World} {c : Nat} {l : List Int} (h : SumAt w c l) : w.cell? ⟨c, 0, none⟩ = some (.int .i64 (sumV l)) := by
  rw [cell_of_row w c 0 _ 26 (0, 0) h.block]; rfl
theorem SumAt.cell1 {w : World} {c : Nat} {l : List Int} (h : SumAt w c l) : w.cell? ⟨c, 1, none⟩ = some (.int .i64 l.length) := by
  rw [cell_of_row w c 1 _ 26 (0, 0) h.block]; rfl

theorem value_nil (w : World) : Calls Try.prog 8 #[.pointer none] w fun e w' => e = .returned (.int .i64 0) ∧ w' = w := by
  go_enter Try.func8, Try.ntmps8
  go_wp2
  go_ret
  exact ⟨rfl, rfl⟩
theorem len_nil (w : World) : Calls Try.prog 10 #[.pointer none] w fun e w' => e = .returned (.int .i64 0) ∧ w' = w := by
  go_enter Try.func10, Try.ntmps10
  go_wp2
  go_ret
  exact ⟨rfl, rfl⟩
theorem add_nil (w : World) (a : Option Addr) (n cap : Nat) : Calls Try.prog 7 #[.pointer none, .slice a n cap] w fun e w' => e = .returned (.tuple #[]) ∧ w' = w := by
  go_enter Try.func7, Try.ntmps7
  go_wp2
  go_returns
  exact ⟨rfl, rfl⟩
theorem value_any (w : World) (c : Nat) (l : List Int) (h : SumAt w c l) : Calls Try.prog 8 #[.pointer (some ⟨c, 0, none⟩)] w fun e w' => e = .returned (.int .i64 (sumV l)) ∧ w' = w := by
  have h0 := h.cell0
  clear h
  generalize sumV l = s at *
  go_enter Try.func8, Try.ntmps8
  go_wp2
  go_ret
  exact ⟨rfl, rfl⟩
theorem len_any (w : World) (c : Nat) (l : List Int) (h : SumAt w c l) : Calls Try.prog 10 #[.pointer (some ⟨c, 0, none⟩)] w fun e w' => e = .returned (.int .i64 l.length) ∧ w' = w := by
  have h1 := h.cell1
  clear h
  generalize l.length = s at *
  go_enter Try.func10, Try.ntmps10
  go_wp2
  go_ret
  exact ⟨rfl, rfl⟩
/-- Two numbers in a block of their own. -/
def Row2 (w : World) (c : Nat) (t n : Int) : Prop := w.heap[c]? = some (.cells #[.int .i64 t, .int .i64 n] 26)
theorem Row2.cell0 {w : World} {c : Nat} {t n : Int} (h : Row2 w c t n) : w.cell? ⟨c, 0, none⟩ = some (.int .i64 t) := by rw [cell_of_row w c 0 _ 26 (0, 0) h]; rfl
theorem Row2.cell1 {w : World} {c : Nat} {t n : Int} (h : Row2 w c t n) : w.cell? ⟨c, 1, none⟩ = some (.int .i64 n) := by rw [cell_of_row w c 1 _ 26 (0, 0) h]; rfl
theorem Row2.soft {w : World} {c : Nat} {t n : Int} (h : Row2 w c t n) (j : Nat) : w.frozen? ⟨c, j, none⟩ = false := by
  unfold Row2 at h; simp [World.frozen?, h]
theorem Row2.set0 {w : World} {c : Nat} {t n : Int} (h : Row2 w c t n) (x : Int) : Row2 (w.setCell ⟨c, 0, none⟩ (.int .i64 x)) c x n := by unfold Row2 at *; rw [heap_setCell_same w c 0 _ _ _ h]; rfl
theorem Row2.set1 {w : World} {c : Nat} {t n : Int} (h : Row2 w c t n) (x : Int) : Row2 (w.setCell ⟨c, 1, none⟩ (.int .i64 x)) c t x := by unfold Row2 at *; rw [heap_setCell_same w c 1 _ _ _ h]; rfl
theorem set_eq {w : World} {c j : Nat} {x y : Int} (h : x = y) : w.setCell ⟨c, j, none⟩ (.int .i64 x) = w.setCell ⟨c, j, none⟩ (.int .i64 y) := by rw [h]
theorem wrap64_small (n : Int) (h₀ : 0 ≤ n) (h₁ : n < 4611686018427387904) : wrap64 n = n := by unfold wrap64; omega

theorem plus_any (w : World) (c : Nat) (t m n : Int) (h : Row2 w c t m) (ht : 0 ≤ t ∧ t ≤ 65535) (hn : 0 ≤ n ∧ n ≤ 65535) :
    Calls Try.prog 23 #[.pointer (some ⟨c, 0, none⟩), .int .i64 n] w fun e w' => e = .returned (.tuple #[]) ∧ Row2 w' c ((n + t) / 65536 + (n + t) % 65536) m ∧ w.grownBy w' (some c) ∧ w'.heap.size = w.heap.size := by
  have h0 := h.cell0
  have hf := h.soft 0
  have H := hid h
  have hm : bits .and .i64 (n + t) 65535 = (n + t) % 65536 := bits_mask .i64 62 (by decide) wraps_i64 16 (by decide) (n + t) (by omega) (by omega)
  have HM := hid hm
  clear h hm
  go_enter Try.func23, Try.ntmps23
  go_wp2
  go_returns
  rw [HM.out, wrap64_small _ (by omega) (by omega)]
  exact ⟨rfl, H.out.set0 _, grownBy_setCell .., by simp⟩

theorem sumAt_row {w : World} {c : Nat} {l : List Int} (h : SumAt w c l) : Row2 w c (sumV l) l.length := h.block

set_option maxHeartbeats 400000 in
theorem addByte_any (w : World) (c : Nat) (l : List Int) (b : Int) (h : SumAt w c l) (hb : 0 ≤ b ∧ b < 256) (hl : l.length < 10000000) :
    Calls Try.prog 18 #[.pointer (some ⟨c, 0, none⟩), .int .u8 b] w fun e w' => e = .returned (.tuple #[]) ∧ SumAt w' c (l ++ [b]) ∧ w.grownBy w' (some c) ∧ w'.heap.size = w.heap.size := by
  have H := hid (sumAt_row h)
  have HE := hid (sumV_snoc l b h.oct hb)
  have HO := hid (oct_snoc h.oct hb)
  have HB := sumV_bd l
  have h1 := h.cell1
  have HN : Hid ((l ++ [b]).length = l.length + 1) := by simp [Hid]
  clear h
  generalize sumV l = t at *
  by_cases hp : l.length % 2 = 0
  · have hw : wt l.length b = b * 256 := by simp [wt, hp]
    rw [hw] at HE
    have hq : (((l.length : Int) % 2) == 0) = true := by simp; omega
    clear hw
    generalize hk : l.length = k at *
    go_enter Try.func18, Try.ntmps18
    go_wp2_with (go_at_call 23; refine (plus_any _ c t k _ H.out HB (by omega)).mono ?_; rintro e w1 ⟨rfl, hr1, hg1, hs1⟩; have R1 := hid hr1; have G1 := hid hg1; have S1 := hid hs1; have hc1 := hr1.cell1; have hf1 := hr1.soft 1; clear hr1 hg1 hs1)
    go_returns
    refine ⟨rfl, ⟨?_, HO.out, by rw [HN.out]; omega⟩, G1.out.trans (grownBy_setCell ..), by simp [S1.out]⟩
    have := R1.out.set1 (k + 1)
    rw [HE.out] at this
    rw [HN.out]
    exact this
  · have hw : wt l.length b = b := by simp [wt, hp]
    rw [hw] at HE
    have hq : (((l.length : Int) % 2) == 0) = false := by simp; omega
    clear hw
    generalize hk : l.length = k at *
    go_enter Try.func18, Try.ntmps18
    go_wp2_with (go_at_call 23; refine (plus_any _ c t k _ H.out HB (by omega)).mono ?_; rintro e w1 ⟨rfl, hr1, hg1, hs1⟩; have R1 := hid hr1; have G1 := hid hg1; have S1 := hid hs1; have hc1 := hr1.cell1; have hf1 := hr1.soft 1; clear hr1 hg1 hs1)
    go_returns
    refine ⟨rfl, ⟨?_, HO.out, by rw [HN.out]; omega⟩, G1.out.trans (grownBy_setCell ..), by simp [S1.out]⟩
    have := R1.out.set1 (k + 1)
    rw [HE.out] at this
    rw [HN.out]
    exact this
end Go.Proofs.Ytinfkjnneibklaa

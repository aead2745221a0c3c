/- What header's Check answers: a contract. -/
import Derived.Test.YtmpkemlnpmephaaToOf
namespace Go.Proofs.Ytmpkemlnpmephaa
open Go.ChangeShapes Go.WideShapes Go.ChangeAt Go.RowKit
set_option linter.unusedVariables false
set_option linter.unusedSimpArgs false

/-- Are all numbers of a header as they must be? -/
def okH (h : Hd) : Bool := decide ((0 ≤ h.c ∧ h.c ≤ 255) ∧ (0 ≤ h.fl ∧ h.fl ≤ 1048575) ∧ (0 ≤ h.ln ∧ h.ln ≤ 65535) ∧ (0 ≤ h.nx ∧ h.nx ≤ 255) ∧ (0 ≤ h.hp ∧ h.hp ≤ 255))
def chkV (h : Hd) : Int := if okH h = true then 0 else 1
theorem okH_yes {h : Hd} (k : okH h = true) : (0 ≤ h.c ∧ h.c ≤ 255) ∧ (0 ≤ h.fl ∧ h.fl ≤ 1048575) ∧ (0 ≤ h.ln ∧ h.ln ≤ 65535) ∧ (0 ≤ h.nx ∧ h.nx ≤ 255) ∧ (0 ≤ h.hp ∧ h.hp ≤ 255) := by simpa [okH] using k

theorem fits1 (a b c : Int) : fitsB 1 [a, b, c] = decide ((0 ≤ a ∧ a ≤ 255) ∧ (0 ≤ b ∧ b ≤ 255) ∧ (0 ≤ c ∧ c ≤ 255)) := by
  rw [Bool.eq_iff_iff]; simp [fitsB, okB, top, sizeB]; omega
theorem fits2 (a : Int) : fitsB 2 [a] = decide (0 ≤ a ∧ a ≤ 65535) := by
  rw [Bool.eq_iff_iff]; simp [fitsB, okB, top, sizeB]; omega
theorem okH_eq (h : Hd) : okH h = (fitsB 1 [h.c, h.nx, h.hp] && (fitsB 2 [h.ln] && (decide (0 ≤ h.fl) && decide (h.fl ≤ 1048575)))) := by
  rw [fits1, fits2, Bool.eq_iff_iff]; simp [okH]; omega

set_option maxHeartbeats 800000 in
theorem check_any (h : Hd) (k : h.ok) (w : World) :
    Calls Try.prog 10 #[.agg h.cs] w fun e w' => e = .returned (.int .i64 (chkV h)) ∧ Below w.heap.size w w' := by
  have R0 : Row (w.alloc (.cells h.cs 28)) w.heap.size 28 h.cs := Row.new w 28 _
  have B0 := hid (balloc (Below.refl w.heap.size w) (.cells h.cs 28))
  have HR0 := hid R0
  have HE := hid (okH_eq h)
  have HV : Hid (chkV h = if okH h = true then 0 else 1) := rfl
  clear R0
  generalize chkV h = cv at *
  generalize okH h = ob at *
  go_enter Try.func10, Try.ntmps10
  go_upto_region 1 with fail
  generalize hw1 : w.alloc (.cells h.cs 28) = w1 at *
  have c0 := (HR0.out.cell 0).trans h.at0
  have c1 := (HR0.out.cell 1).trans h.at1
  have c2 := (HR0.out.cell 2).trans h.at2
  have c3 := (HR0.out.cell 3).trans h.at3
  have c4 := (HR0.out.cell 4).trans h.at4
  clear hw1
  have L1 := hid (lies_new .i64 w1 #[.int .i64 h.c, .int .i64 h.nx, .int .i64 h.hp] 3 [h.c, h.nx, h.hp] rfl (by simp))
  have HR1 := hid (HR0.out.alloc (.cells #[.int .i64 h.c, .int .i64 h.nx, .int .i64 h.hp] 3))
  have B1 := hid (balloc B0.out (.cells #[.int .i64 h.c, .int .i64 h.nx, .int .i64 h.hp] 3))
  go_wp2_with fail
  generalize w1.alloc (.cells #[.int .i64 h.c, .int .i64 h.nx, .int .i64 h.hp] 3) = w2 at *
  refine (fits_any 1 _ 3 3 [h.c, h.nx, h.hp] _ L1.out).mono ?_
  rintro e w2 ⟨rfl, rfl⟩
  have HF1 : Hid (fitsB 1 [h.c, h.nx, h.hp] = fitsB 1 [h.c, h.nx, h.hp]) := rfl
  generalize fitsB 1 [h.c, h.nx, h.hp] = b1 at *
  cases b1
  · go_wp2_with fail
    go_ret
    exact ⟨ret_int (by rw [HV.out, HE.out]; rfl), B1.out⟩
  · have d1 := (HR1.out.cell 1).trans h.at1
    have d2 := (HR1.out.cell 2).trans h.at2
    clear c0 c1 c2 c3 c4 HF1
    have L2 := hid (lies_new .i64 w2 #[.int .i64 h.ln] 3 [h.ln] rfl (by simp))
    have HR2 := hid (HR1.out.alloc (.cells #[.int .i64 h.ln] 3))
    have B2 := hid (balloc B1.out (.cells #[.int .i64 h.ln] 3))
    go_wp2_with fail
    generalize w2.alloc (.cells #[.int .i64 h.ln] 3) = w4 at *
    refine (fits_any 2 _ 1 1 [h.ln] _ L2.out).mono ?_
    rintro e w4 ⟨rfl, rfl⟩
    generalize fitsB 2 [h.ln] = b2 at *
    have d3 := (HR2.out.cell 1).trans h.at1
    clear d1 d2
    cases b2
    · go_wp2_with fail
      go_ret
      exact ⟨ret_int (by rw [HV.out, HE.out]; rfl), B2.out⟩
    · generalize h.fl = fl at *
      by_cases h0 : fl < 0
      · go_wp2_with fail
        go_ret
        exact ⟨ret_int (by rw [HV.out, HE.out]; simp; omega), B2.out⟩
      · have e0 : decide (fl < 0) = false := by simp; omega
        by_cases h1 : 1048575 < fl
        · go_wp2_with fail
          go_ret
          exact ⟨ret_int (by rw [HV.out, HE.out]; simp; omega), B2.out⟩
        · have e1 : decide (1048575 < fl) = false := by simp; omega
          go_wp2_with fail
          go_ret
          exact ⟨ret_int (by rw [HV.out, HE.out]; simp; omega), B2.out⟩
end Go.Proofs.Ytmpkemlnpmephaa

/- The walks of LolliWindow, LolliSteps and LolliCompares. -/
import Derived.Test.YtlhlihphhmiflaaAddsWalk
namespace Go.Proofs.Ytlhlihphhmiflaa
open Go.ChangeShapes Go.WideShapes Go.ChangeAt Go.RowKit
set_option linter.unusedVariables false
set_option linter.unusedSimpArgs false

theorem newer_eq (a b : Int) (ha0 : 0 ≤ a) (ha : a < 256) (hb0 : 0 ≤ b) (hb : b < 256) : newerB a b = decide (rel a b = 2) := by
  simp [newerB, vB_mk ha0 ha, vB_mk hb0 hb]

theorem steps_cases (a n : Int) : (128 ≤ a ∧ n < 256 - a ∧ steps a n = a + n) ∨ (128 ≤ a ∧ 256 - a ≤ n ∧ steps a n = (n - (256 - a)) % 128) ∨ (a < 128 ∧ steps a n = (a + n % 128) % 128) := by
  unfold steps; split <;> (try split) <;> omega

/-- What two are, by the four places where they can stand. -/
theorem rel_cases (a b : Int) : rel a b = 2 ↔ a ≠ b ∧ ((128 ≤ a ∧ 128 ≤ b ∧ 1 ≤ a - b ∧ a - b ≤ 16) ∨ (128 ≤ a ∧ b < 128 ∧ ¬ (1 ≤ 256 - a + b ∧ 256 - a + b ≤ 16)) ∨ (a < 128 ∧ 128 ≤ b ∧ 1 ≤ 256 - b + a ∧ 256 - b + a ≤ 16) ∨
    (a < 128 ∧ b < 128 ∧ ¬ (1 ≤ (b - a + 128) % 128 ∧ (b - a + 128) % 128 ≤ 16) ∧ 1 ≤ (a - b + 128) % 128 ∧ (a - b + 128) % 128 ≤ 16)) := by
  by_cases hab : a = b
  · simp [rel, hab]
  · by_cases h1 : 128 ≤ a <;> by_cases h2 : 128 ≤ b <;> simp [rel, far, inWin, hab, h1, h2]
    all_goals (repeat' split) <;> omega

theorem up_near (a n : Int) (ha0 : 0 ≤ a) (ha : a < 256) (h1 : 1 ≤ n) (h2 : n ≤ 16) : newerB (steps a n) a = true ∧ newerB a (steps a n) = false := by
  have hb := steps_bd a n ha0 ha (by omega)
  have hs := steps_cases a n
  rw [newer_eq _ _ hb.1 hb.2 ha0 ha, newer_eq _ _ ha0 ha hb.1 hb.2]
  simp only [decide_eq_true_eq, decide_eq_false_iff_not, rel_cases]
  generalize steps a n = b at *
  constructor <;> omega

theorem up_cross (a n : Int) (ha0 : 128 ≤ a) (ha : a < 256) (h1 : 16 < n) (h2 : n ≤ 40) (hc : steps a n < 128) : newerB a (steps a n) = true := by
  have hb := steps_bd a n (by omega) ha (by omega)
  have hs := steps_cases a n
  rw [newer_eq _ _ (by omega) ha hb.1 hb.2]
  simp only [decide_eq_true_eq, decide_eq_false_iff_not, rel_cases]
  generalize steps a n = b at *
  omega

theorem up_far (a n : Int) (ha0 : 0 ≤ a) (ha : a < 256) (h1 : 16 < n) (h2 : n ≤ 40) (hc : ¬ (128 ≤ a ∧ steps a n < 128)) : newerB (steps a n) a = false ∧ newerB a (steps a n) = false := by
  have hb := steps_bd a n ha0 ha (by omega)
  have hs := steps_cases a n
  rw [newer_eq _ _ hb.1 hb.2 ha0 ha, newer_eq _ _ ha0 ha hb.1 hb.2]
  simp only [decide_eq_true_eq, decide_eq_false_iff_not, rel_cases]
  generalize steps a n = b at *
  constructor <;> omega

theorem rel_flip (a b : Int) (ha0 : 0 ≤ a) (ha : a < 256) (hb0 : 0 ≤ b) (hb : b < 256) :
    rel b a = (if rel a b = 0 then 0 else if rel a b = 1 then 2 else if rel a b = 2 then 1 else 3) := by
  by_cases hab : a = b
  · simp [rel, hab]
  · have hba : ¬ b = a := fun h => hab h.symm
    by_cases h1 : 128 ≤ a <;> by_cases h2 : 128 ≤ b <;> simp [rel, far, inWin, hab, hba, h1, h2]
    all_goals (repeat' split) <;> omega

theorem rel_range (a b : Int) : 0 ≤ rel a b ∧ rel a b ≤ 3 := by
  unfold rel; repeat' split
  all_goals omega

end Go.Proofs.Ytlhlihphhmiflaa

/- What lolli's relation, Compare, Newer, Steps and Next answer: contracts, one a function. -/
import Derived.Test.YtlhlihphhmiflaaBase
namespace Go.Proofs.Ytlhlihphhmiflaa
open Go.ChangeShapes Go.WideShapes Go.ChangeAt Go.RowKit
set_option linter.unusedVariables false
set_option linter.unusedSimpArgs false

def rel (a b : Int) : Int :=
  if a = b then 0 else if inWin (far a b) = true then 1 else if inWin (far b a) = true then 2
  else if decide (128 ≤ a) = decide (128 ≤ b) then 3 else if 128 ≤ a then 2 else 1

theorem far_a (a b : Int) (h : 128 ≤ a) : far a b = (if 128 ≤ b then b - a else 256 - a + b) := by simp [far, h]
theorem far_b (a b : Int) (h : ¬ 128 ≤ a) : far a b = (if 128 ≤ b then -1 else (b - a + 128) % 128) := by simp [far, h]

set_option maxHeartbeats 1600000 in
theorem relation_any (a b : Int) (w : World) (ha0 : 0 ≤ a) (ha : a < 256) (hb0 : 0 ≤ b) (hb : b < 256) :
    Calls Try.prog 19 #[.int .i64 a, .int .i64 b] w fun e w' => e = .returned (.int .i64 (rel a b)) ∧ w' = (w.alloc (.cells #[.int .i64 a] 3)).alloc (.cells #[.int .i64 b] 3) := by
  have hmf : ∀ (fn : Fn) (first cap : Array Value) (w : World), (Instr.makeFunc fn first cap).run Try.prog w = .ok (.func fn first cap) w := fun _ _ _ _ => rfl
  by_cases hab : a = b
  · subst hab
    by_cases h1 : 128 ≤ a
    all_goals
      go_enter Try.func19, Try.ntmps19
      go_wp2
      go_ret
      exact ⟨ret_int (by simp [rel]), rfl⟩
  · have hne : (a == b) = false := by simp [hab]
    by_cases h1 : 128 ≤ a
    · by_cases h2 : 128 ≤ b
      · have Hr : Hid (rel a b = if inWin (b - a) = true then 1 else if inWin (a - b) = true then 2 else 3) := by simp [Hid, rel, far, hab, h1, h2]
        clear hab
        go_enter Try.func19, Try.ntmps19
        go_wp2
        all_goals
          go_ret
          exact ⟨ret_int (by rw [Hr.out]; simp [inWin]; omega), rfl⟩
      · have Hr : Hid (rel a b = if inWin (256 - a + b) = true then 1 else 2) := by simp [Hid, rel, far, hab, h1, h2, inWin]
        clear hab
        go_enter Try.func19, Try.ntmps19
        go_wp2
        all_goals
          go_ret
          exact ⟨ret_int (by rw [Hr.out]; simp [inWin]; omega), rfl⟩
    · by_cases h2 : 128 ≤ b
      · have Hr : Hid (rel a b = if inWin (256 - b + a) = true then 2 else 1) := by simp [Hid, rel, far, hab, h1, h2, inWin]
        clear hab
        go_enter Try.func19, Try.ntmps19
        go_wp2
        all_goals
          go_ret
          exact ⟨ret_int (by rw [Hr.out]; simp [inWin]; omega), rfl⟩
      · have Hr : Hid (rel a b = if inWin ((b - a + 128) % 128) = true then 1 else if inWin ((a - b + 128) % 128) = true then 2 else 3) := by simp [Hid, rel, far, hab, h1, h2]
        clear hab
        go_enter Try.func19, Try.ntmps19
        go_wp2
        all_goals
          go_ret
          exact ⟨ret_int (by rw [Hr.out]; simp [inWin]; omega), rfl⟩

end Go.Proofs.Ytlhlihphhmiflaa

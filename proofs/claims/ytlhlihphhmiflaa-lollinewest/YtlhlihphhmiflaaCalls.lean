/- What lolli's Compare, Newer, Steps and Next answer: contracts, one a function. -/
import Derived.Test.YtlhlihphhmiflaaRel
namespace Go.Proofs.Ytlhlihphhmiflaa
open Go.ChangeShapes Go.WideShapes Go.ChangeAt Go.RowKit
set_option linter.unusedVariables false
set_option linter.unusedSimpArgs false

theorem ret_ii {a b c : Int} (h : a = b) : Ending.returned (.tuple #[.int .i64 a, .int .i64 c]) = .returned (.tuple #[.int .i64 b, .int .i64 c]) := by rw [h]

theorem vB_true {a : Int} (h : vB a = true) : 0 ≤ a ∧ a < 256 := by simpa [vB] using h
theorem vB_false {a : Int} (h : vB a = false) : a < 0 ∨ 256 ≤ a := by simp [vB] at h; omega

theorem valid_one (a : Int) (w : World) :
    Calls Try.prog 15 #[.slice (some ⟨w.heap.size, 0, none⟩) 1 1] (w.alloc (.cells #[.int .i64 a] 3)) fun e w' => e = .returned (.bool (vB a)) ∧ w' = w.alloc (.cells #[.int .i64 a] 3) := by
  refine (valid_any w.heap.size 0 1 1 [a] _ rfl (by decide) ?_).mono ?_
  · intro k hk; obtain rfl : k = 0 := by omega
    simp
  · rintro e w' ⟨rfl, rfl⟩; exact ⟨by simp, rfl⟩

theorem valid_two (a c : Int) (w : World) :
    Calls Try.prog 15 #[.slice (some ⟨w.heap.size, 0, none⟩) 2 2] (w.alloc (.cells #[.int .i64 a, .int .i64 c] 3)) fun e w' => e = .returned (.bool (vB a && vB c)) ∧ w' = w.alloc (.cells #[.int .i64 a, .int .i64 c] 3) := by
  refine (valid_any w.heap.size 0 2 2 [a, c] _ rfl (by decide) ?_).mono ?_
  · intro k hk
    match k, hk with
    | 0, _ => simp
    | 1, _ => simp
  · rintro e w' ⟨rfl, rfl⟩; exact ⟨by simp, rfl⟩

theorem compare_ok (a b : Int) (w : World) (ha : vB a = true) (hb : vB b = true) :
    Calls Try.prog 8 #[.int .i64 a, .int .i64 b] w fun e w' => e = .returned (.tuple #[.int .i64 (rel a b), .int .i64 0]) ∧ Below w.heap.size w w' := by
  have ha' := vB_true ha
  have hb' := vB_true hb
  go_enter Try.func8, Try.ntmps8
  go_wp2_with (first | (go_at_call 15; refine (valid_two a b _).mono ?_; rintro e w1 ⟨rfl, rfl⟩) | (go_at_call 19; refine (relation_any a b _ (by omega) (by omega) (by omega) (by omega)).mono ?_; rintro e w1 ⟨rfl, rfl⟩))
  go_ret2
  exact ⟨rfl, by go_grown⟩

theorem compare_no (a b : Int) (w : World) (h : (vB a && vB b) = false) :
    Calls Try.prog 8 #[.int .i64 a, .int .i64 b] w fun e w' => e = .returned (.tuple #[.int .i64 0, .int .i64 1]) ∧ Below w.heap.size w w' := by
  go_enter Try.func8, Try.ntmps8
  go_wp2_with (first | (go_at_call 15; refine (valid_two a b _).mono ?_; rintro e w1 ⟨rfl, rfl⟩))
  go_ret2
  exact ⟨rfl, by go_grown⟩

def newerB (a b : Int) : Bool := vB a && vB b && decide (rel a b = 2)

theorem newer_any (a b : Int) (w : World) :
    Calls Try.prog 11 #[.int .i64 a, .int .i64 b] w fun e w' => e = .returned (.bool (newerB a b)) ∧ Below w.heap.size w w' := by
  by_cases h : (vB a && vB b) = true
  · have h2 := h
    simp at h2
    have ha' := vB_true h2.1
    have hb' := vB_true h2.2
    clear h2
    by_cases hr : rel a b = 2
    · have hr' : (rel a b == 2) = true := by simp [hr]
      have Hn : Hid (newerB a b = true) := by simp only [Hid, newerB, h]; simp [hr]
      clear hr
      go_enter Try.func11, Try.ntmps11
      go_wp2_with (first | (go_at_call 15; refine (valid_two a b _).mono ?_; rintro e w1 ⟨rfl, rfl⟩) | (go_at_call 19; refine (relation_any a b _ (by omega) (by omega) (by omega) (by omega)).mono ?_; rintro e w1 ⟨rfl, rfl⟩))
      go_ret
      exact ⟨ret_bool Hn.out.symm, by go_grown⟩
    · have hr' : (rel a b == 2) = false := by simp [hr]
      have Hn : Hid (newerB a b = false) := by simp only [Hid, newerB, h]; simp [hr]
      clear hr
      go_enter Try.func11, Try.ntmps11
      go_wp2_with (first | (go_at_call 15; refine (valid_two a b _).mono ?_; rintro e w1 ⟨rfl, rfl⟩) | (go_at_call 19; refine (relation_any a b _ (by omega) (by omega) (by omega) (by omega)).mono ?_; rintro e w1 ⟨rfl, rfl⟩))
      go_ret
      exact ⟨ret_bool Hn.out.symm, by go_grown⟩
  · have h' : (vB a && vB b) = false := by simpa using h
    have Hn : Hid (newerB a b = false) := by simp only [Hid, newerB, h']; simp
    clear h
    go_enter Try.func11, Try.ntmps11
    go_wp2_with (first | (go_at_call 15; refine (valid_two a b _).mono ?_; rintro e w1 ⟨rfl, rfl⟩))
    go_ret
    exact ⟨ret_bool Hn.out.symm, by go_grown⟩

/-- So many steps on, in one go. -/
def steps (a n : Int) : Int := if 128 ≤ a then (if n < 256 - a then a + n else (n - (256 - a)) % 128) else (a + n % 128) % 128

theorem steps_ok (a n : Int) (w : World) (ha : vB a = true) (hn0 : 0 ≤ n) (hn : n ≤ 9223372036854775807) :
    Calls Try.prog 14 #[.int .i64 a, .int .i64 n] w fun e w' => e = .returned (.tuple #[.int .i64 (steps a n), .int .i64 0]) ∧ Below w.heap.size w w' := by
  have ha' := vB_true ha
  have hnn : decide (n < 0) = false := by simp; omega
  by_cases h1 : 128 ≤ a
  · by_cases h2 : n < 256 - a
    · have Hs : Hid (steps a n = a + n) := by simp [Hid, steps, h1, h2]
      go_enter Try.func14, Try.ntmps14
      go_wp2_with (first | (go_at_call 15; refine (valid_one a _).mono ?_; rintro e w1 ⟨rfl, rfl⟩) | (go_at_call 21; refine (onStick_any a _).mono ?_; rintro e w1 ⟨rfl, rfl⟩))
      go_ret2
      exact ⟨ret_ii Hs.out.symm, by go_grown⟩
    · have Hs : Hid (steps a n = (n - (256 - a)) % 128) := by simp [Hid, steps, h1, h2]
      go_enter Try.func14, Try.ntmps14
      go_wp2_with (first | (go_at_call 15; refine (valid_one a _).mono ?_; rintro e w1 ⟨rfl, rfl⟩) | (go_at_call 21; refine (onStick_any a _).mono ?_; rintro e w1 ⟨rfl, rfl⟩))
      go_ret2
      exact ⟨ret_ii Hs.out.symm, by go_grown⟩
  · have Hs : Hid (steps a n = (a + n % 128) % 128) := by simp [Hid, steps, h1]
    have h1' : decide (128 ≤ a) = false := by simpa using h1
    go_enter Try.func14, Try.ntmps14
    go_wp2_with (first | (go_at_call 15; refine (valid_one a _).mono ?_; rintro e w1 ⟨rfl, rfl⟩) | (go_at_call 21; refine (onStick_any a _).mono ?_; rintro e w1 ⟨rfl, rfl⟩))
    go_ret2
    exact ⟨ret_ii Hs.out.symm, by go_grown⟩

theorem steps_no (a n : Int) (w : World) (h : vB a = false ∨ n < 0) :
    Calls Try.prog 14 #[.int .i64 a, .int .i64 n] w fun e w' => e = .returned (.tuple #[.int .i64 0, .int .i64 1]) ∧ Below w.heap.size w w' := by
  cases hv : vB a
  · clear h
    go_enter Try.func14, Try.ntmps14
    go_wp2_with (first | (go_at_call 15; refine (valid_one a _).mono ?_; rintro e w1 ⟨rfl, rfl⟩))
    go_ret2
    exact ⟨rfl, by go_grown⟩
  · have hn : n < 0 := by simpa [hv] using h
    clear h
    go_enter Try.func14, Try.ntmps14
    go_wp2_with (first | (go_at_call 15; refine (valid_one a _).mono ?_; rintro e w1 ⟨rfl, rfl⟩))
    go_ret2
    exact ⟨rfl, by go_grown⟩

theorem next_ok (a : Int) (w : World) (ha : vB a = true) :
    Calls Try.prog 13 #[.int .i64 a] w fun e w' => e = .returned (.tuple #[.int .i64 (steps a 1), .int .i64 0]) ∧ Below w.heap.size w w' := by
  go_enter Try.func13, Try.ntmps13
  go_wp2_with (first | (go_at_call 14; refine (steps_ok a 1 _ ha (by omega) (by omega)).mono ?_; rintro e w1 ⟨rfl, hb⟩))
  go_ret2
  exact ⟨rfl, hb⟩

theorem next_no (a : Int) (w : World) (ha : vB a = false) :
    Calls Try.prog 13 #[.int .i64 a] w fun e w' => e = .returned (.tuple #[.int .i64 0, .int .i64 1]) ∧ Below w.heap.size w w' := by
  go_enter Try.func13, Try.ntmps13
  go_wp2_with (first | (go_at_call 14; refine (steps_no a 1 _ (.inl ha)).mono ?_; rintro e w1 ⟨rfl, hb⟩))
  go_ret2
  exact ⟨rfl, hb⟩

end Go.Proofs.Ytlhlihphhmiflaa

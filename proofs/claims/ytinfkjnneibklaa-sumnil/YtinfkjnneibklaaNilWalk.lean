/- The walk of SumNil. -/
import Derived.Test.YtinfkjnneibklaaAdd
namespace Go.Proofs.Ytinfkjnneibklaa
open Go.ChangeShapes Go.WideShapes Go.ChangeAt Go.RowKit
set_option linter.unusedVariables false
set_option linter.unusedSimpArgs false

set_option maxHeartbeats 400000 in
theorem nil_walk (a : Option Addr) (n cap : Nat) (l : List Int) (w : World) (hl : IsRow .u8 w a n cap l) :
    Calls Try.prog 6 #[.slice a n cap] w fun e w' => e = .returned (.bool true) ∧ Below w.heap.size w w' := by
  clear hl
  go_enter Try.func6, Try.ntmps6
  go_wp2_with fail
  refine (add_nil _ _ _ _).mono ?_
  rintro e w1 ⟨rfl, rfl⟩
  have B0 := hid (balloc (Below.refl w.heap.size w) (.cells #[.slice a n cap] 27))
  generalize w.alloc (.cells #[.slice a n cap] 27) = w1 at *
  go_wp2_with fail
  refine (known_any _).mono ?_
  rintro e w2 ⟨rfl, hb2⟩
  have B2 := hid (bthen B0.out hb2)
  clear hb2 B0
  go_wp2_with fail
  refine (value_nil _).mono ?_
  rintro e w2 ⟨rfl, rfl⟩
  go_wp2_with fail
  refine (len_nil _).mono ?_
  rintro e w2 ⟨rfl, rfl⟩
  go_wp2_with fail
  refine (of_any _ none 0 0 [] (texts_nil _) (by simp [bytes])).mono ?_
  rintro e w3 ⟨rfl, hb3⟩
  have B3 := hid (bthen B2.out hb3)
  rw [show (65535 : Int) - sumV (bytes []) = 65535 by decide]
  clear hb3 B2
  go_wp2_with fail
  go_ret
  exact ⟨rfl, B3.out⟩
end Go.Proofs.Ytinfkjnneibklaa

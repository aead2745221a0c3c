/- The walk of SumTells. -/
import Derived.Test.YtinfkjnneibklaaTlo
import Derived.BigRegion
import Derived.Deep.RegionHeld3
import Derived.Deep.Cut
namespace Go.Proofs.Ytinfkjnneibklaa
open Go.ChangeShapes Go.WideShapes Go.ChangeAt Go.RowKit
set_option linter.unusedVariables false
set_option linter.unusedSimpArgs false

theorem rem_place (x : Int) (H : Nat) (h : 1 ≤ H) : ∃ P : Nat, (IntKind.u64.wrap x).tmod (H : Int) = (P : Int) ∧ P < H := by
  have h0 : 0 ≤ IntKind.u64.wrap x := by rw [IntKind.wrap_u64]; omega
  refine ⟨((IntKind.u64.wrap x) % (H : Int)).toNat, ?_, ?_⟩
  · rw [Int.tmod_eq_emod_of_nonneg h0, Int.toNat_of_nonneg (Int.emod_nonneg _ (by omega))]
  · have := Int.emod_lt_of_pos (IntKind.u64.wrap x) (show (0 : Int) < H by omega)
    have := Int.emod_nonneg (IntKind.u64.wrap x) (show (H : Int) ≠ 0 by omega)
    omega


end Go.Proofs.Ytinfkjnneibklaa

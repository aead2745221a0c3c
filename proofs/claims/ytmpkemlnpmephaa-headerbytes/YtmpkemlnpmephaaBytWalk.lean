/- The walk of HeaderBytes, whole. -/
import Derived.Test.YtmpkemlnpmephaaBytA
import Derived.Test.YtmpkemlnpmephaaBytB
import Derived.Test.YtmpkemlnpmephaaBytC
namespace Go.Proofs.Ytmpkemlnpmephaa
open Go.ChangeShapes Go.WideShapes Go.ChangeAt Go.RowKit
set_option linter.unusedVariables false

theorem bytes_walk (h : Hd) (a : Option Addr) (n cap : Nat) (w : World) (k : h.ok) (hT : TextsIn w a n cap) :
    Calls Try.prog 3 #[.agg h.cs, .slice a n cap] w fun e w' => e = .returned (.bool true) ∧ Below w.heap.size w w' := by
  obtain ⟨L, hL⟩ := hT
  cases hy : okH h
  · exact bytes_A h k a n cap L w hL hy
  · by_cases h2 : h.hp < 2
    · exact bytes_B h k a n cap L w hL hy h2
    · exact bytes_C h k a n cap L w hL hy (by omega)
end Go.Proofs.Ytmpkemlnpmephaa

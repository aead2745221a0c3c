/- The walk of HopoptBytes. -/
import Derived.Test.YtdfeahbpgchkoaaBytA
import Derived.Test.YtdfeahbpgchkoaaBytB
namespace Go.Proofs.Ytdfeahbpgchkoaa
open Go.ChangeShapes Go.WideShapes Go.ChangeAt Go.RowKit
set_option linter.unusedVariables false
set_option linter.unusedSimpArgs false

theorem oct_take' {l : List Int} (h : Oct l) (n : Nat) : Oct (l.take n) := fun x hx => h x (List.mem_of_mem_take hx)
theorem bytes_walk (next : Int) (h : Ho) (a : Option Addr) (len cap : Nat) (z : List Int) (w : World) (_ : (Lit.int .i64 next).wf = true) (_ : True) (hr : IsRow .u8 w a len cap z) :
    Calls Try.prog 3 #[.int .i64 next, .agg h.cs, .slice a len cap] w fun e w' => e = .returned (.bool true) ∧ Below w.heap.size w w' := by
  by_cases hb : 60 < len
  · exact bytes_A next h a len cap ((z.take len).take 60) w hb hr.lies.2.1 hr.lies.2.2.1 (hr.lies.pre 60 (by omega)) (oct_take' (oct_take' hr.oct _) _)
  · exact bytes_B next h a len cap (z.take len) w (by omega) hr.lies.2.1 hr.lies.2.2.1 hr.lies (oct_take' hr.oct _)
end Go.Proofs.Ytdfeahbpgchkoaa

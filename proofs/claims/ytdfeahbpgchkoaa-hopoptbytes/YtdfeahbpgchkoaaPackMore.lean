/- What Within, Peek and Many of pack's cursor answer: contracts. -/
import Derived.Test.YtdfeahbpgchkoaaPackMeth
import Derived.Deep.RegionWith
namespace Go.Proofs.Ytdfeahbpgchkoaa
open Go.ChangeShapes Go.WideShapes Go.ChangeAt Go.RowKit
set_option linter.unusedVariables false
set_option linter.unusedSimpArgs false

/-- How many bytes 'Peek' tells. -/
def pkN (n : Int) (left : Nat) (er : Int) : Nat := if er = 0 ∧ 1 ≤ n then min n.toNat left else 0
theorem pkN_le (n : Int) (left : Nat) (er : Int) : pkN n left er ≤ left := by unfold pkN; split <;> omega

theorem wahead_int (w : World) (c : Nat) (a : Option Addr) (len cap at_ n : Nat) (z : Int) (hz : z = n) (h0 : w.cell? ⟨c, 0, none⟩ = some (.slice a len cap)) (h1 : w.cell? ⟨c, 1, none⟩ = some (.int .i64 at_)) (hle : at_ + n ≤ len) (hlc : len ≤ cap) (hs : len ≤ 100000) :
    Calls Try.prog 44 #[.pointer (some ⟨c, 0, none⟩), .int .i64 z] w fun e w' => e = .returned (.slice (cutA a at_ n) n n) ∧ ∃ q, w' = w.drewN q := by
  subst hz; exact wahead_any w c a len cap at_ n h0 h1 hle hlc hs

end Go.Proofs.Ytdfeahbpgchkoaa

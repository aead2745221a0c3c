/- A world that meets the rows' lists. -/
import Derived.Test.YtbgogeojdibmkaaDoorDor
namespace Go.Proofs.YtbgogeojdibmkaaDoor
open Go.ChangeShapes Go.WideShapes Go.ChangeAt Go.RowKit Go.Deep
set_option linter.unusedVariables false
set_option linter.unusedSimpArgs false
set_option maxRecDepth 100000

theorem own : ownKnob Tryd.prog.godebug = none := by kernel_rfl
theorem laidOut : laidOutB Tryd.prog = true := by kernel_rfl
noncomputable def lowW : Nat := (World.holding Tryd.prog default ⟨#[], #[], []⟩).heap.size
def put (c : Array Value) : Obj → Obj
  | .cells _ t frozen => .cells c t frozen
  | o => o
def pblk (k : Nat) : Obj := .cells (pcs (prt k)).toArray 87
noncomputable def shc (k : Nat) (j : Nat) : List Value := [.string (wrd k), .slice (some ⟨lowW + j, 0, none⟩) (prt k).length (prt k).length, .bool (zer k), .bool (txb k)]
def shn (k : Nat) : List Value := [.string (wrd k), .slice none 0 0, .bool (zer k), .bool (txb k)]
noncomputable def shAll : Array Value := (shn 0 ++ (shc 1 0 ++ (shn 2 ++ (shc 3 1 ++ (shc 4 2 ++ (shc 5 3 ++ (shc 6 4 ++ (shc 7 5 ++ (shc 8 6 ++ shc 9 7))))))))).toArray
noncomputable def laidWorld (os : Os) : World :=
  let w0 := World.holding Tryd.prog os ⟨#[pblk 1, pblk 3, pblk 4, pblk 5, pblk 6, pblk 7, pblk 8, pblk 9], #[], []⟩
  { w0 with heap := w0.heap.modify 0 (put shAll) }
set_option maxRecDepth 100000 in
theorem laid_met (os : Os) (args : Array Value) : laidMet Tryd.prog Rows.optionJoinsRow.laid ((laidWorld os).forCall (fun _ _ => 0) ⟨#[], args, []⟩).memory :=
  laidMet_of_run' 8 (by kernel_rfl) (by kernel_rfl)
end Go.Proofs.YtbgogeojdibmkaaDoor

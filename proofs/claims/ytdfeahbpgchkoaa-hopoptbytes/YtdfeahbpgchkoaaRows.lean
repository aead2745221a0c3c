/-
  No cell of these rows narrows 'for every input' (looked for: loops, veiled, ifaces, maps, wideKeys, modest, calm, conditions, laid).
  DERIVED. THE GIVEN ROWS OF THIS SEAT. 3 by the template 'for every input the law returns true; each argument reads behind the call as it read before'; 0 by the template 'total and deterministic' (their statements: YtdfeahbpgchkoaaTotals.lean).
  GIVEN WITH THE SEED: the statements are not yours to turn. If you find one false, say at which input.
  Laid BY PROGRAM, IN A SANDBOX (cutbox-rows.mjs): the forced cells as the released guide's own fill.sh prints them over the translation 9eac4d1a3a0904a3… (all of the seat's roots in one cut). By AI agents, Wed Nov 11 2026. No macro, syntax, notation, axiom, sorry.
-/
import Derived.Test.YtdfeahbpgchkoaaChecked
import GoSem.Claim
import GoSem.ClaimJoined
import GoSem.ClaimMapViews
import Derived.JoinedTies
import Derived.KernelRfl
namespace Go.Proofs.Ytdfeahbpgchkoaa
/- THE CELL 'sum', in the pinned program and in every row, IS THE sha256 OF THE DUMP (.gsa) THAT YtdfeahbpgchkoaaProg.lean LOADS. Nothing in Lean hashes anything: it is a label: what it is worth is what the hold of that sum in a sandbox is worth. -/
noncomputable def Try.pinned : Pinned := { name := "ytdfeahbpgchkoaa", sum := "9eac4d1a3a0904a3ae416eb89e76cb6d2b9a74b7d98101ba65610ed85b40b6c2", checked := Try.checked }
namespace Rows
def none {H : Type} : Left H := { results := [], args := [] }

/-- 'rivuletlaw06.HopoptBytes': WHATEVER THE INPUT: true; the input reads as it did. -/
def hopoptBytesSpec : ChangeSpec := { name := "hopoptBytes", fn := fun _ => fun
  | [d1, d2, d3] => { results := [.lit (.bool true)], args := [d1, d2, d3] }
  | _ => none }
def hopoptBytesRow : OpenClaim := { program := "ytdfeahbpgchkoaa", sum := "9eac4d1a3a0904a3ae416eb89e76cb6d2b9a74b7d98101ba65610ed85b40b6c2", func := "rivulet/rivuletlaw06.HopoptBytes", spec := "hopoptBytes", unfollowed := true, recurses := true, apart := false }
def HopoptBytesSaid : Prop := hopoptBytesRow.holds Try.pinned (OpenSpec.ofChange hopoptBytesSpec)

/-- ITS FALSE NEIGHBOUR: 'it returns false'. Refute it at one input. -/
def hopoptBytesWrong : ChangeSpec := { name := "hopoptBytes", fn := fun _ => fun
  | [d1, d2, d3] => { results := [.lit (.bool false)], args := [d1, d2, d3] }
  | _ => none }
def HopoptBytesWrongFalsely : Prop := hopoptBytesRow.holds Try.pinned (OpenSpec.ofChange hopoptBytesWrong)

/-- 'rivuletlaw06.HopoptHops': WHATEVER THE INPUT: true; the input reads as it did. -/
def hopoptHopsSpec : ChangeSpec := { name := "hopoptHops", fn := fun _ => fun
  | [d1, d2, d3, d4] => { results := [.lit (.bool true)], args := [d1, d2, d3, d4] }
  | _ => none }
def hopoptHopsRow : OpenClaim := { program := "ytdfeahbpgchkoaa", sum := "9eac4d1a3a0904a3ae416eb89e76cb6d2b9a74b7d98101ba65610ed85b40b6c2", func := "rivulet/rivuletlaw06.HopoptHops", spec := "hopoptHops", apart := false }
def HopoptHopsSaid : Prop := hopoptHopsRow.holds Try.pinned (OpenSpec.ofChange hopoptHopsSpec)

/-- ITS FALSE NEIGHBOUR: 'it returns false'. Refute it at one input. -/
def hopoptHopsWrong : ChangeSpec := { name := "hopoptHops", fn := fun _ => fun
  | [d1, d2, d3, d4] => { results := [.lit (.bool false)], args := [d1, d2, d3, d4] }
  | _ => none }
def HopoptHopsWrongFalsely : Prop := hopoptHopsRow.holds Try.pinned (OpenSpec.ofChange hopoptHopsWrong)

/-- 'rivuletlaw06.HopoptOnce': WHATEVER THE INPUT: true; the input reads as it did. -/
def hopoptOnceSpec : ChangeSpec := { name := "hopoptOnce", fn := fun _ => fun
  | [d1, d2, d3] => { results := [.lit (.bool true)], args := [d1, d2, d3] }
  | _ => none }
def hopoptOnceRow : OpenClaim := { program := "ytdfeahbpgchkoaa", sum := "9eac4d1a3a0904a3ae416eb89e76cb6d2b9a74b7d98101ba65610ed85b40b6c2", func := "rivulet/rivuletlaw06.HopoptOnce", spec := "hopoptOnce", apart := false }
def HopoptOnceSaid : Prop := hopoptOnceRow.holds Try.pinned (OpenSpec.ofChange hopoptOnceSpec)

/-- ITS FALSE NEIGHBOUR: 'it returns false'. Refute it at one input. -/
def hopoptOnceWrong : ChangeSpec := { name := "hopoptOnce", fn := fun _ => fun
  | [d1, d2, d3] => { results := [.lit (.bool false)], args := [d1, d2, d3] }
  | _ => none }
def HopoptOnceWrongFalsely : Prop := hopoptOnceRow.holds Try.pinned (OpenSpec.ofChange hopoptOnceWrong)

/- THE SECOND FORM. 'bulk': how many values and letters a reading holds, each counted each time it is reached (what is shared counts as often as it is met; a slice's spare places count too). A statement '..UptoSaid' is the law's where the arguments, and the package variables that the reading takes, are together of bulk at most 1048576: NARROWER than '..Said'. Prove '..Said' where nothing that the law and all that it calls make is longer than what came in: it says more and counts as full. Else prove '..UptoSaid'. A law counts once. -/
mutual
def uptoBulk {H : Type} : DataW H → Nat
  | .lit (.string bytes) => bytes.length + 1
  | .lit _ => 1
  | .nil => 1
  | .ptr d => uptoBulk d + 1
  | .slice elems spare => uptoBulkAll elems + uptoBulkAll spare + 1
  | .agg parts => uptoBulkAll parts + 1
  | .iface _ d => uptoBulk d + 1
  | .map entries => uptoBulkEntries entries + 1
  | .held _ => 1
def uptoBulkAll {H : Type} : List (DataW H) → Nat
  | [] => 0
  | d :: r => uptoBulk d + uptoBulkAll r
def uptoBulkEntries {H : Type} : List (Lit × DataW H) → Nat
  | [] => 0
  | x :: r => uptoBulkEntry x + uptoBulkEntries r
def uptoBulkEntry {H : Type} : Lit × DataW H → Nat
  | (.string bytes, d) => bytes.length + uptoBulk d + 1
  | (_, d) => uptoBulk d + 1
 end
def uptoSmall : (H : Type) → List (DataW H) → Bool := fun _ ds => decide (uptoBulkAll ds ≤ 1048576)
def OpenSpec.upto (s : _root_.Go.ChangeSpec) : _root_.Go.OpenSpec := { _root_.Go.OpenSpec.ofChange s with cond := some uptoSmall }

/-- 'rivuletlaw06.HopoptBytes', WHERE WHAT IT READS IS OF BULK AT MOST 1048576: true; the input reads as it did. -/
def hopoptBytesUptoRow : OpenClaim := { program := "ytdfeahbpgchkoaa", sum := "9eac4d1a3a0904a3ae416eb89e76cb6d2b9a74b7d98101ba65610ed85b40b6c2", func := "rivulet/rivuletlaw06.HopoptBytes", spec := "hopoptBytes", unfollowed := true, recurses := true, apart := false, narrowed := true }
def HopoptBytesUptoSaid : Prop := hopoptBytesUptoRow.holds Try.pinned (OpenSpec.upto hopoptBytesSpec)

/-- 'rivuletlaw06.HopoptHops', WHERE WHAT IT READS IS OF BULK AT MOST 1048576: true; the input reads as it did. -/
def hopoptHopsUptoRow : OpenClaim := { program := "ytdfeahbpgchkoaa", sum := "9eac4d1a3a0904a3ae416eb89e76cb6d2b9a74b7d98101ba65610ed85b40b6c2", func := "rivulet/rivuletlaw06.HopoptHops", spec := "hopoptHops", apart := false, narrowed := true }
def HopoptHopsUptoSaid : Prop := hopoptHopsUptoRow.holds Try.pinned (OpenSpec.upto hopoptHopsSpec)

/-- 'rivuletlaw06.HopoptOnce', WHERE WHAT IT READS IS OF BULK AT MOST 1048576: true; the input reads as it did. -/
def hopoptOnceUptoRow : OpenClaim := { program := "ytdfeahbpgchkoaa", sum := "9eac4d1a3a0904a3ae416eb89e76cb6d2b9a74b7d98101ba65610ed85b40b6c2", func := "rivulet/rivuletlaw06.HopoptOnce", spec := "hopoptOnce", apart := false, narrowed := true }
def HopoptOnceUptoSaid : Prop := hopoptOnceUptoRow.holds Try.pinned (OpenSpec.upto hopoptOnceSpec)

end Rows
end Go.Proofs.Ytdfeahbpgchkoaa

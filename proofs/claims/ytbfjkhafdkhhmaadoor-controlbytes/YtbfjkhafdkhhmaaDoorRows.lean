/-
  NARROWER THAN 'FOR EVERY INPUT', by the rows' own cells (each row's printed sentence says how): ControlBytes: laid · ControlDecodes: laid · ControlTells: laid.
  DERIVED. THE GIVEN ROWS OF THIS SEAT. 3 by the template 'for every input the law returns true; each argument reads behind the call as it read before'; 0 by the template 'total and deterministic' (their statements: YtbfjkhafdkhhmaaDoorTotals.lean).
  GIVEN WITH THE SEED: the statements are not yours to turn. If you find one false, say at which input.
  Laid BY PROGRAM, IN A SANDBOX (cutbox-rows.mjs): the forced cells as the released guide's own fill.sh prints them over the translation 487af449a7e3d6eb… (all of the seat's roots in one cut). By AI agents, Wed Nov 11 2026. No macro, syntax, notation, axiom, sorry.
-/
import Derived.Test.YtbfjkhafdkhhmaaDoorChecked
import GoSem.Claim
import GoSem.ClaimJoined
import GoSem.ClaimMapViews
import Derived.JoinedTies
import Derived.KernelRfl
namespace Go.Proofs.YtbfjkhafdkhhmaaDoor
/- THE CELL 'sum', in the pinned program and in every row, IS THE sha256 OF THE DUMP (.gsa) THAT YtbfjkhafdkhhmaaDoorProg.lean LOADS. Nothing in Lean hashes anything: it is a label: what it is worth is what the hold of that sum in a sandbox is worth. -/
noncomputable def Tryd.pinned : Pinned := { name := "ytbfjkhafdkhhmaadoor", sum := "487af449a7e3d6eb49832fed6f58981e4ec708092c84af46252c915ae2d22921", checked := Tryd.checked }
namespace Rows
def none {H : Type} : Left H := { results := [], args := [] }

/- WHAT THE LISTED PACKAGE-LEVEL VARIABLES READ AS WHEN THE CALL BEGINS. Each datum BY PROGRAM (the guide's laid-datum.mjs) off the statement by which the dump's own 'gosem.cut.vars' lays the variable. In a bare row this is a premise. The card (YtbfjkhafdkhhmaaDoorCards.lean) ties it to the program's text. -/
def laid_rivulet_option_shapes {H : Type} : DataW H := .agg [.agg [.lit (.string [112, 97, 100]), .nil, .lit (.bool false), .lit (.bool false)], .agg [.lit (.string [112, 97, 100, 115]), .slice [.agg [.lit (.int .i64 1), .lit (.int .i64 255)]] [], .lit (.bool true), .lit (.bool false)], .agg [.lit (.string [109, 101, 116, 114, 105, 99]), .nil, .lit (.bool false), .lit (.bool true)], .agg [.lit (.string [114, 111, 117, 116, 101]), .slice [.agg [.lit (.int .i64 1), .lit (.int .i64 128)], .agg [.lit (.int .i64 1), .lit (.int .i64 255)], .agg [.lit (.int .i64 4), .lit (.int .i64 4294967295)], .agg [.lit (.int .i64 16), .lit (.int .i64 0)]] [], .lit (.bool false), .lit (.bool false)], .agg [.lit (.string [99, 111, 110, 102, 105, 103]), .slice [.agg [.lit (.int .i64 1), .lit (.int .i64 255)], .agg [.lit (.int .i64 1), .lit (.int .i64 255)], .agg [.lit (.int .i64 1), .lit (.int .i64 255)], .agg [.lit (.int .i64 1), .lit (.int .i64 255)], .agg [.lit (.int .i64 2), .lit (.int .i64 65535)], .agg [.lit (.int .i64 2), .lit (.int .i64 65535)], .agg [.lit (.int .i64 2), .lit (.int .i64 65535)], .agg [.lit (.int .i64 1), .lit (.int .i64 0)], .agg [.lit (.int .i64 1), .lit (.int .i64 255)], .agg [.lit (.int .i64 2), .lit (.int .i64 65535)]] [], .lit (.bool false), .lit (.bool false)], .agg [.lit (.string [116, 97, 114, 103, 101, 116]), .slice [.agg [.lit (.int .i64 1), .lit (.int .i64 255)], .agg [.lit (.int .i64 1), .lit (.int .i64 128)], .agg [.lit (.int .i64 16), .lit (.int .i64 0)]] [], .lit (.bool false), .lit (.bool false)], .agg [.lit (.string [116, 114, 97, 110, 115, 105, 116]), .slice [.agg [.lit (.int .i64 1), .lit (.int .i64 255)], .agg [.lit (.int .i64 1), .lit (.int .i64 255)], .agg [.lit (.int .i64 1), .lit (.int .i64 255)], .agg [.lit (.int .i64 1), .lit (.int .i64 255)]] [], .lit (.bool false), .lit (.bool false)], .agg [.lit (.string [115, 111, 108, 105, 99, 105, 116, 101, 100]), .slice [.agg [.lit (.int .i64 1), .lit (.int .i64 255)], .agg [.lit (.int .i64 1), .lit (.int .i64 255)], .agg [.lit (.int .i64 16), .lit (.int .i64 0)], .agg [.lit (.int .i64 1), .lit (.int .i64 255)]] [], .lit (.bool false), .lit (.bool false)], .agg [.lit (.string [112, 114, 101, 102, 105, 120]), .slice [.agg [.lit (.int .i64 1), .lit (.int .i64 128)], .agg [.lit (.int .i64 1), .lit (.int .i64 255)], .agg [.lit (.int .i64 4), .lit (.int .i64 4294967295)], .agg [.lit (.int .i64 4), .lit (.int .i64 4294967295)], .agg [.lit (.int .i64 4), .lit (.int .i64 0)], .agg [.lit (.int .i64 16), .lit (.int .i64 0)]] [], .lit (.bool false), .lit (.bool false)], .agg [.lit (.string [100, 101, 115, 99, 114, 105, 112, 116, 111, 114]), .slice [.agg [.lit (.int .i64 4), .lit (.int .i64 4294967295)]] [], .lit (.bool false), .lit (.bool false)]]
def laid_rivulet_control_shapes {H : Type} : DataW H := .agg [.agg [.lit (.string [100, 105, 115]), .slice [.agg [.lit (.int .i64 2), .nil]] [], .lit (.bool false), .slice [.lit (.int .i64 0), .lit (.int .i64 1), .lit (.int .i64 7)] []], .agg [.lit (.string [100, 105, 111]), .slice [.agg [.lit (.int .i64 1), .slice [.agg [.lit (.int .i64 0), .lit (.int .i64 0), .lit (.int .i64 255)]] []], .agg [.lit (.int .i64 1), .slice [.agg [.lit (.int .i64 1), .lit (.int .i64 0), .lit (.int .i64 255)]] []], .agg [.lit (.int .i64 2), .slice [.agg [.lit (.int .i64 2), .lit (.int .i64 0), .lit (.int .i64 65535)]] []], .agg [.lit (.int .i64 1), .slice [.agg [.lit (.int .i64 3), .lit (.int .i64 7), .lit (.int .i64 1)], .agg [.lit (.int .i64 4), .lit (.int .i64 3), .lit (.int .i64 7)], .agg [.lit (.int .i64 5), .lit (.int .i64 0), .lit (.int .i64 7)]] []], .agg [.lit (.int .i64 1), .slice [.agg [.lit (.int .i64 6), .lit (.int .i64 0), .lit (.int .i64 255)]] []], .agg [.lit (.int .i64 2), .nil]] [], .lit (.bool true), .slice [.lit (.int .i64 0), .lit (.int .i64 1), .lit (.int .i64 2), .lit (.int .i64 3), .lit (.int .i64 4), .lit (.int .i64 8)] []], .agg [.lit (.string [100, 97, 111]), .slice [.agg [.lit (.int .i64 1), .slice [.agg [.lit (.int .i64 0), .lit (.int .i64 0), .lit (.int .i64 255)]] []], .agg [.lit (.int .i64 1), .slice [.agg [.lit (.int .i64 7), .lit (.int .i64 7), .lit (.int .i64 1)], .agg [.lit (.int .i64 10), .lit (.int .i64 6), .lit (.int .i64 1)]] []], .agg [.lit (.int .i64 1), .nil], .agg [.lit (.int .i64 1), .slice [.agg [.lit (.int .i64 8), .lit (.int .i64 0), .lit (.int .i64 255)]] []]] [], .lit (.bool false), .slice [.lit (.int .i64 0), .lit (.int .i64 1), .lit (.int .i64 5), .lit (.int .i64 6), .lit (.int .i64 9)] []], .agg [.lit (.string [97, 99, 107]), .slice [.agg [.lit (.int .i64 1), .slice [.agg [.lit (.int .i64 0), .lit (.int .i64 0), .lit (.int .i64 255)]] []], .agg [.lit (.int .i64 1), .slice [.agg [.lit (.int .i64 10), .lit (.int .i64 7), .lit (.int .i64 1)]] []], .agg [.lit (.int .i64 1), .slice [.agg [.lit (.int .i64 8), .lit (.int .i64 0), .lit (.int .i64 255)]] []], .agg [.lit (.int .i64 1), .slice [.agg [.lit (.int .i64 9), .lit (.int .i64 0), .lit (.int .i64 255)]] []]] [], .lit (.bool false), .slice [.lit (.int .i64 0), .lit (.int .i64 1)] []]]

/-- 'rivuletlaw08.ControlBytes': WHATEVER THE INPUT: true; the input reads as it did. -/
def controlBytesSpec : ChangeSpec := { name := "controlBytes", fn := fun _ => fun
  | [d1, d2] => { results := [.lit (.bool true)], args := [d1, d2] }
  | _ => none }
def controlBytesRow : OpenClaim := { program := "ytbfjkhafdkhhmaadoor", sum := "487af449a7e3d6eb49832fed6f58981e4ec708092c84af46252c915ae2d22921", func := "rivulet/rivuletlaw08.ControlBytes", spec := "controlBytes", unfollowed := true, recurses := true, named := ["rivulet/control.shapes", "rivulet/option.shapes"], apart := false, laid := [("rivulet/option.shapes", laid_rivulet_option_shapes), ("rivulet/control.shapes", laid_rivulet_control_shapes)] }
def ControlBytesSaid : Prop := controlBytesRow.holds Tryd.pinned (OpenSpec.ofChange controlBytesSpec)

/-- ITS FALSE NEIGHBOUR: 'it returns false'. Refute it at one input. -/
def controlBytesWrong : ChangeSpec := { name := "controlBytes", fn := fun _ => fun
  | [d1, d2] => { results := [.lit (.bool false)], args := [d1, d2] }
  | _ => none }
def ControlBytesWrongFalsely : Prop := controlBytesRow.holds Tryd.pinned (OpenSpec.ofChange controlBytesWrong)

/-- 'rivuletlaw08.ControlDecodes': WHATEVER THE INPUT: true; the input reads as it did. -/
def controlDecodesSpec : ChangeSpec := { name := "controlDecodes", fn := fun _ => fun
  | [d1, d2] => { results := [.lit (.bool true)], args := [d1, d2] }
  | _ => none }
def controlDecodesRow : OpenClaim := { program := "ytbfjkhafdkhhmaadoor", sum := "487af449a7e3d6eb49832fed6f58981e4ec708092c84af46252c915ae2d22921", func := "rivulet/rivuletlaw08.ControlDecodes", spec := "controlDecodes", unfollowed := true, recurses := true, named := ["rivulet/control.shapes", "rivulet/option.shapes"], apart := false, laid := [("rivulet/option.shapes", laid_rivulet_option_shapes), ("rivulet/control.shapes", laid_rivulet_control_shapes)] }
def ControlDecodesSaid : Prop := controlDecodesRow.holds Tryd.pinned (OpenSpec.ofChange controlDecodesSpec)

/-- ITS FALSE NEIGHBOUR: 'it returns false'. Refute it at one input. -/
def controlDecodesWrong : ChangeSpec := { name := "controlDecodes", fn := fun _ => fun
  | [d1, d2] => { results := [.lit (.bool false)], args := [d1, d2] }
  | _ => none }
def ControlDecodesWrongFalsely : Prop := controlDecodesRow.holds Tryd.pinned (OpenSpec.ofChange controlDecodesWrong)

/-- 'rivuletlaw08.ControlTells': WHATEVER THE INPUT: true; the input reads as it did. -/
def controlTellsSpec : ChangeSpec := { name := "controlTells", fn := fun _ => fun
  | [d1, d2, d3] => { results := [.lit (.bool true)], args := [d1, d2, d3] }
  | _ => none }
def controlTellsRow : OpenClaim := { program := "ytbfjkhafdkhhmaadoor", sum := "487af449a7e3d6eb49832fed6f58981e4ec708092c84af46252c915ae2d22921", func := "rivulet/rivuletlaw08.ControlTells", spec := "controlTells", unfollowed := true, recurses := true, named := ["rivulet/control.shapes", "rivulet/option.shapes"], apart := false, laid := [("rivulet/option.shapes", laid_rivulet_option_shapes), ("rivulet/control.shapes", laid_rivulet_control_shapes)] }
def ControlTellsSaid : Prop := controlTellsRow.holds Tryd.pinned (OpenSpec.ofChange controlTellsSpec)

/-- ITS FALSE NEIGHBOUR: 'it returns false'. Refute it at one input. -/
def controlTellsWrong : ChangeSpec := { name := "controlTells", fn := fun _ => fun
  | [d1, d2, d3] => { results := [.lit (.bool false)], args := [d1, d2, d3] }
  | _ => none }
def ControlTellsWrongFalsely : Prop := controlTellsRow.holds Tryd.pinned (OpenSpec.ofChange controlTellsWrong)

/- THE SECOND FORM. 'bulk': how many values and letters a reading holds, each counted each time it is reached (what is shared counts as often as it is met; a slice's spare places count too). A statement '..UptoSaid' is the law's where the arguments, and the package variables that the reading takes, are together of bulk at most 1048576: NARROWER than '..Said'. Prove '..Said' where nothing that the law and all that it calls make is longer than what came in: it says more and counts as full. Else prove '..UptoSaid'. A law counts once. -/
mutual
def uptoBulk {H : Type} : DataW H → Nat
  | .lit (.string bytes) => bytes.length + 1
  | .lit _ => 1
  | .nil => 1
  | .ptr d => uptoBulk d + 1
  | .slice elems spare => uptoBulkAll elems + uptoBulkAll spare + 1
  | .agg parts => uptoBulkAll parts + 1
  | .iface _ d => uptoBulk d + 1
  | .map entries => uptoBulkEntries entries + 1
  | .held _ => 1
def uptoBulkAll {H : Type} : List (DataW H) → Nat
  | [] => 0
  | d :: r => uptoBulk d + uptoBulkAll r
def uptoBulkEntries {H : Type} : List (Lit × DataW H) → Nat
  | [] => 0
  | x :: r => uptoBulkEntry x + uptoBulkEntries r
def uptoBulkEntry {H : Type} : Lit × DataW H → Nat
  | (.string bytes, d) => bytes.length + uptoBulk d + 1
  | (_, d) => uptoBulk d + 1
 end
def uptoSmall : (H : Type) → List (DataW H) → Bool := fun _ ds => decide (uptoBulkAll ds ≤ 1048576)
def OpenSpec.upto (s : _root_.Go.ChangeSpec) : _root_.Go.OpenSpec := { _root_.Go.OpenSpec.ofChange s with cond := some uptoSmall }

/-- 'rivuletlaw08.ControlBytes', WHERE WHAT IT READS IS OF BULK AT MOST 1048576: true; the input reads as it did. -/
def controlBytesUptoRow : OpenClaim := { program := "ytbfjkhafdkhhmaadoor", sum := "487af449a7e3d6eb49832fed6f58981e4ec708092c84af46252c915ae2d22921", func := "rivulet/rivuletlaw08.ControlBytes", spec := "controlBytes", unfollowed := true, recurses := true, named := ["rivulet/control.shapes", "rivulet/option.shapes"], apart := false, laid := [("rivulet/option.shapes", laid_rivulet_option_shapes), ("rivulet/control.shapes", laid_rivulet_control_shapes)], narrowed := true }
def ControlBytesUptoSaid : Prop := controlBytesUptoRow.holds Tryd.pinned (OpenSpec.upto controlBytesSpec)

/-- 'rivuletlaw08.ControlDecodes', WHERE WHAT IT READS IS OF BULK AT MOST 1048576: true; the input reads as it did. -/
def controlDecodesUptoRow : OpenClaim := { program := "ytbfjkhafdkhhmaadoor", sum := "487af449a7e3d6eb49832fed6f58981e4ec708092c84af46252c915ae2d22921", func := "rivulet/rivuletlaw08.ControlDecodes", spec := "controlDecodes", unfollowed := true, recurses := true, named := ["rivulet/control.shapes", "rivulet/option.shapes"], apart := false, laid := [("rivulet/option.shapes", laid_rivulet_option_shapes), ("rivulet/control.shapes", laid_rivulet_control_shapes)], narrowed := true }
def ControlDecodesUptoSaid : Prop := controlDecodesUptoRow.holds Tryd.pinned (OpenSpec.upto controlDecodesSpec)

/-- 'rivuletlaw08.ControlTells', WHERE WHAT IT READS IS OF BULK AT MOST 1048576: true; the input reads as it did. -/
def controlTellsUptoRow : OpenClaim := { program := "ytbfjkhafdkhhmaadoor", sum := "487af449a7e3d6eb49832fed6f58981e4ec708092c84af46252c915ae2d22921", func := "rivulet/rivuletlaw08.ControlTells", spec := "controlTells", unfollowed := true, recurses := true, named := ["rivulet/control.shapes", "rivulet/option.shapes"], apart := false, laid := [("rivulet/option.shapes", laid_rivulet_option_shapes), ("rivulet/control.shapes", laid_rivulet_control_shapes)], narrowed := true }
def ControlTellsUptoSaid : Prop := controlTellsUptoRow.holds Tryd.pinned (OpenSpec.upto controlTellsSpec)

end Rows
end Go.Proofs.YtbfjkhafdkhhmaaDoor

/-
  NARROWER THAN 'FOR EVERY INPUT', by the rows' own cells (each row's printed sentence says how): OptionBytes: laid · OptionDecodes: laid · OptionFinds: laid · OptionJoins: laid.
  DERIVED. THE GIVEN ROWS OF THIS SEAT. 4 by the template 'for every input the law returns true; each argument reads behind the call as it read before'; 0 by the template 'total and deterministic' (their statements: YtbgogeojdibmkaaDoorTotals.lean).
  GIVEN WITH THE SEED: the statements are not yours to turn. If you find one false, say at which input.
  Laid BY PROGRAM, IN A SANDBOX (cutbox-rows.mjs): the forced cells as the released guide's own fill.sh prints them over the translation ab1ef2dbb9e45160… (all of the seat's roots in one cut). By AI agents, Wed Nov 11 2026. No macro, syntax, notation, axiom, sorry.
-/
import Derived.Test.YtbgogeojdibmkaaDoorChecked
import GoSem.Claim
import GoSem.ClaimJoined
import GoSem.ClaimMapViews
import Derived.JoinedTies
import Derived.KernelRfl
namespace Go.Proofs.YtbgogeojdibmkaaDoor
/- THE CELL 'sum', in the pinned program and in every row, IS THE sha256 OF THE DUMP (.gsa) THAT YtbgogeojdibmkaaDoorProg.lean LOADS. Nothing in Lean hashes anything: it is a label: what it is worth is what the hold of that sum in a sandbox is worth. -/
noncomputable def Tryd.pinned : Pinned := { name := "ytbgogeojdibmkaadoor", sum := "ab1ef2dbb9e451608f62a1f34b4b2933e2db6863abedeb6d6f0c030a6799497d", checked := Tryd.checked }
namespace Rows
def none {H : Type} : Left H := { results := [], args := [] }

/- WHAT THE LISTED PACKAGE-LEVEL VARIABLES READ AS WHEN THE CALL BEGINS. Each datum BY PROGRAM (the guide's laid-datum.mjs) off the statement by which the dump's own 'gosem.cut.vars' lays the variable. In a bare row this is a premise. The card (YtbgogeojdibmkaaDoorCards.lean) ties it to the program's text. -/
def laid_rivulet_option_shapes {H : Type} : DataW H := .agg [.agg [.lit (.string [112, 97, 100]), .nil, .lit (.bool false), .lit (.bool false)], .agg [.lit (.string [112, 97, 100, 115]), .slice [.agg [.lit (.int .i64 1), .lit (.int .i64 255)]] [], .lit (.bool true), .lit (.bool false)], .agg [.lit (.string [109, 101, 116, 114, 105, 99]), .nil, .lit (.bool false), .lit (.bool true)], .agg [.lit (.string [114, 111, 117, 116, 101]), .slice [.agg [.lit (.int .i64 1), .lit (.int .i64 128)], .agg [.lit (.int .i64 1), .lit (.int .i64 255)], .agg [.lit (.int .i64 4), .lit (.int .i64 4294967295)], .agg [.lit (.int .i64 16), .lit (.int .i64 0)]] [], .lit (.bool false), .lit (.bool false)], .agg [.lit (.string [99, 111, 110, 102, 105, 103]), .slice [.agg [.lit (.int .i64 1), .lit (.int .i64 255)], .agg [.lit (.int .i64 1), .lit (.int .i64 255)], .agg [.lit (.int .i64 1), .lit (.int .i64 255)], .agg [.lit (.int .i64 1), .lit (.int .i64 255)], .agg [.lit (.int .i64 2), .lit (.int .i64 65535)], .agg [.lit (.int .i64 2), .lit (.int .i64 65535)], .agg [.lit (.int .i64 2), .lit (.int .i64 65535)], .agg [.lit (.int .i64 1), .lit (.int .i64 0)], .agg [.lit (.int .i64 1), .lit (.int .i64 255)], .agg [.lit (.int .i64 2), .lit (.int .i64 65535)]] [], .lit (.bool false), .lit (.bool false)], .agg [.lit (.string [116, 97, 114, 103, 101, 116]), .slice [.agg [.lit (.int .i64 1), .lit (.int .i64 255)], .agg [.lit (.int .i64 1), .lit (.int .i64 128)], .agg [.lit (.int .i64 16), .lit (.int .i64 0)]] [], .lit (.bool false), .lit (.bool false)], .agg [.lit (.string [116, 114, 97, 110, 115, 105, 116]), .slice [.agg [.lit (.int .i64 1), .lit (.int .i64 255)], .agg [.lit (.int .i64 1), .lit (.int .i64 255)], .agg [.lit (.int .i64 1), .lit (.int .i64 255)], .agg [.lit (.int .i64 1), .lit (.int .i64 255)]] [], .lit (.bool false), .lit (.bool false)], .agg [.lit (.string [115, 111, 108, 105, 99, 105, 116, 101, 100]), .slice [.agg [.lit (.int .i64 1), .lit (.int .i64 255)], .agg [.lit (.int .i64 1), .lit (.int .i64 255)], .agg [.lit (.int .i64 16), .lit (.int .i64 0)], .agg [.lit (.int .i64 1), .lit (.int .i64 255)]] [], .lit (.bool false), .lit (.bool false)], .agg [.lit (.string [112, 114, 101, 102, 105, 120]), .slice [.agg [.lit (.int .i64 1), .lit (.int .i64 128)], .agg [.lit (.int .i64 1), .lit (.int .i64 255)], .agg [.lit (.int .i64 4), .lit (.int .i64 4294967295)], .agg [.lit (.int .i64 4), .lit (.int .i64 4294967295)], .agg [.lit (.int .i64 4), .lit (.int .i64 0)], .agg [.lit (.int .i64 16), .lit (.int .i64 0)]] [], .lit (.bool false), .lit (.bool false)], .agg [.lit (.string [100, 101, 115, 99, 114, 105, 112, 116, 111, 114]), .slice [.agg [.lit (.int .i64 4), .lit (.int .i64 4294967295)]] [], .lit (.bool false), .lit (.bool false)]]

/-- 'rivuletlaw07.OptionBytes': WHATEVER THE INPUT: true; the input reads as it did. -/
def optionBytesSpec : ChangeSpec := { name := "optionBytes", fn := fun _ => fun
  | [d1, d2] => { results := [.lit (.bool true)], args := [d1, d2] }
  | _ => none }
def optionBytesRow : OpenClaim := { program := "ytbgogeojdibmkaadoor", sum := "ab1ef2dbb9e451608f62a1f34b4b2933e2db6863abedeb6d6f0c030a6799497d", func := "rivulet/rivuletlaw07.OptionBytes", spec := "optionBytes", unfollowed := true, recurses := true, named := ["rivulet/option.shapes"], apart := false, laid := [("rivulet/option.shapes", laid_rivulet_option_shapes)] }
def OptionBytesSaid : Prop := optionBytesRow.holds Tryd.pinned (OpenSpec.ofChange optionBytesSpec)

/-- ITS FALSE NEIGHBOUR: 'it returns false'. Refute it at one input. -/
def optionBytesWrong : ChangeSpec := { name := "optionBytes", fn := fun _ => fun
  | [d1, d2] => { results := [.lit (.bool false)], args := [d1, d2] }
  | _ => none }
def OptionBytesWrongFalsely : Prop := optionBytesRow.holds Tryd.pinned (OpenSpec.ofChange optionBytesWrong)

/-- 'rivuletlaw07.OptionDecodes': WHATEVER THE INPUT: true; the input reads as it did. -/
def optionDecodesSpec : ChangeSpec := { name := "optionDecodes", fn := fun _ => fun
  | [d] => { results := [.lit (.bool true)], args := [d] }
  | _ => none }
def optionDecodesRow : OpenClaim := { program := "ytbgogeojdibmkaadoor", sum := "ab1ef2dbb9e451608f62a1f34b4b2933e2db6863abedeb6d6f0c030a6799497d", func := "rivulet/rivuletlaw07.OptionDecodes", spec := "optionDecodes", unfollowed := true, recurses := true, named := ["rivulet/option.shapes"], apart := false, laid := [("rivulet/option.shapes", laid_rivulet_option_shapes)] }
def OptionDecodesSaid : Prop := optionDecodesRow.holds Tryd.pinned (OpenSpec.ofChange optionDecodesSpec)

/-- ITS FALSE NEIGHBOUR: 'it returns false'. Refute it at one input. -/
def optionDecodesWrong : ChangeSpec := { name := "optionDecodes", fn := fun _ => fun
  | [d] => { results := [.lit (.bool false)], args := [d] }
  | _ => none }
def OptionDecodesWrongFalsely : Prop := optionDecodesRow.holds Tryd.pinned (OpenSpec.ofChange optionDecodesWrong)

/-- 'rivuletlaw07.OptionFinds': WHATEVER THE INPUT: true; the input reads as it did. -/
def optionFindsSpec : ChangeSpec := { name := "optionFinds", fn := fun _ => fun
  | [d1, d2, d3] => { results := [.lit (.bool true)], args := [d1, d2, d3] }
  | _ => none }
def optionFindsRow : OpenClaim := { program := "ytbgogeojdibmkaadoor", sum := "ab1ef2dbb9e451608f62a1f34b4b2933e2db6863abedeb6d6f0c030a6799497d", func := "rivulet/rivuletlaw07.OptionFinds", spec := "optionFinds", unfollowed := true, recurses := true, named := ["rivulet/option.shapes"], apart := false, laid := [("rivulet/option.shapes", laid_rivulet_option_shapes)] }
def OptionFindsSaid : Prop := optionFindsRow.holds Tryd.pinned (OpenSpec.ofChange optionFindsSpec)

/-- ITS FALSE NEIGHBOUR: 'it returns false'. Refute it at one input. -/
def optionFindsWrong : ChangeSpec := { name := "optionFinds", fn := fun _ => fun
  | [d1, d2, d3] => { results := [.lit (.bool false)], args := [d1, d2, d3] }
  | _ => none }
def OptionFindsWrongFalsely : Prop := optionFindsRow.holds Tryd.pinned (OpenSpec.ofChange optionFindsWrong)

/-- 'rivuletlaw07.OptionJoins': WHATEVER THE INPUT: true; the input reads as it did. -/
def optionJoinsSpec : ChangeSpec := { name := "optionJoins", fn := fun _ => fun
  | [d1, d2] => { results := [.lit (.bool true)], args := [d1, d2] }
  | _ => none }
def optionJoinsRow : OpenClaim := { program := "ytbgogeojdibmkaadoor", sum := "ab1ef2dbb9e451608f62a1f34b4b2933e2db6863abedeb6d6f0c030a6799497d", func := "rivulet/rivuletlaw07.OptionJoins", spec := "optionJoins", named := ["rivulet/option.shapes"], apart := false, laid := [("rivulet/option.shapes", laid_rivulet_option_shapes)] }
def OptionJoinsSaid : Prop := optionJoinsRow.holds Tryd.pinned (OpenSpec.ofChange optionJoinsSpec)

/-- ITS FALSE NEIGHBOUR: 'it returns false'. Refute it at one input. -/
def optionJoinsWrong : ChangeSpec := { name := "optionJoins", fn := fun _ => fun
  | [d1, d2] => { results := [.lit (.bool false)], args := [d1, d2] }
  | _ => none }
def OptionJoinsWrongFalsely : Prop := optionJoinsRow.holds Tryd.pinned (OpenSpec.ofChange optionJoinsWrong)

/- THE SECOND FORM. 'bulk': how many values and letters a reading holds, each counted each time it is reached (what is shared counts as often as it is met; a slice's spare places count too). A statement '..UptoSaid' is the law's where the arguments, and the package variables that the reading takes, are together of bulk at most 1048576: NARROWER than '..Said'. Prove '..Said' where nothing that the law and all that it calls make is longer than what came in: it says more and counts as full. Else prove '..UptoSaid'. A law counts once. -/
mutual
def uptoBulk {H : Type} : DataW H → Nat
  | .lit (.string bytes) => bytes.length + 1
  | .lit _ => 1
  | .nil => 1
  | .ptr d => uptoBulk d + 1
  | .slice elems spare => uptoBulkAll elems + uptoBulkAll spare + 1
  | .agg parts => uptoBulkAll parts + 1
  | .iface _ d => uptoBulk d + 1
  | .map entries => uptoBulkEntries entries + 1
  | .held _ => 1
def uptoBulkAll {H : Type} : List (DataW H) → Nat
  | [] => 0
  | d :: r => uptoBulk d + uptoBulkAll r
def uptoBulkEntries {H : Type} : List (Lit × DataW H) → Nat
  | [] => 0
  | x :: r => uptoBulkEntry x + uptoBulkEntries r
def uptoBulkEntry {H : Type} : Lit × DataW H → Nat
  | (.string bytes, d) => bytes.length + uptoBulk d + 1
  | (_, d) => uptoBulk d + 1
 end
def uptoSmall : (H : Type) → List (DataW H) → Bool := fun _ ds => decide (uptoBulkAll ds ≤ 1048576)
def OpenSpec.upto (s : _root_.Go.ChangeSpec) : _root_.Go.OpenSpec := { _root_.Go.OpenSpec.ofChange s with cond := some uptoSmall }

/-- 'rivuletlaw07.OptionBytes', WHERE WHAT IT READS IS OF BULK AT MOST 1048576: true; the input reads as it did. -/
def optionBytesUptoRow : OpenClaim := { program := "ytbgogeojdibmkaadoor", sum := "ab1ef2dbb9e451608f62a1f34b4b2933e2db6863abedeb6d6f0c030a6799497d", func := "rivulet/rivuletlaw07.OptionBytes", spec := "optionBytes", unfollowed := true, recurses := true, named := ["rivulet/option.shapes"], apart := false, laid := [("rivulet/option.shapes", laid_rivulet_option_shapes)], narrowed := true }
def OptionBytesUptoSaid : Prop := optionBytesUptoRow.holds Tryd.pinned (OpenSpec.upto optionBytesSpec)

/-- 'rivuletlaw07.OptionDecodes', WHERE WHAT IT READS IS OF BULK AT MOST 1048576: true; the input reads as it did. -/
def optionDecodesUptoRow : OpenClaim := { program := "ytbgogeojdibmkaadoor", sum := "ab1ef2dbb9e451608f62a1f34b4b2933e2db6863abedeb6d6f0c030a6799497d", func := "rivulet/rivuletlaw07.OptionDecodes", spec := "optionDecodes", unfollowed := true, recurses := true, named := ["rivulet/option.shapes"], apart := false, laid := [("rivulet/option.shapes", laid_rivulet_option_shapes)], narrowed := true }
def OptionDecodesUptoSaid : Prop := optionDecodesUptoRow.holds Tryd.pinned (OpenSpec.upto optionDecodesSpec)

/-- 'rivuletlaw07.OptionFinds', WHERE WHAT IT READS IS OF BULK AT MOST 1048576: true; the input reads as it did. -/
def optionFindsUptoRow : OpenClaim := { program := "ytbgogeojdibmkaadoor", sum := "ab1ef2dbb9e451608f62a1f34b4b2933e2db6863abedeb6d6f0c030a6799497d", func := "rivulet/rivuletlaw07.OptionFinds", spec := "optionFinds", unfollowed := true, recurses := true, named := ["rivulet/option.shapes"], apart := false, laid := [("rivulet/option.shapes", laid_rivulet_option_shapes)], narrowed := true }
def OptionFindsUptoSaid : Prop := optionFindsUptoRow.holds Tryd.pinned (OpenSpec.upto optionFindsSpec)

/-- 'rivuletlaw07.OptionJoins', WHERE WHAT IT READS IS OF BULK AT MOST 1048576: true; the input reads as it did. -/
def optionJoinsUptoRow : OpenClaim := { program := "ytbgogeojdibmkaadoor", sum := "ab1ef2dbb9e451608f62a1f34b4b2933e2db6863abedeb6d6f0c030a6799497d", func := "rivulet/rivuletlaw07.OptionJoins", spec := "optionJoins", named := ["rivulet/option.shapes"], apart := false, laid := [("rivulet/option.shapes", laid_rivulet_option_shapes)], narrowed := true }
def OptionJoinsUptoSaid : Prop := optionJoinsUptoRow.holds Tryd.pinned (OpenSpec.upto optionJoinsSpec)

end Rows
end Go.Proofs.YtbgogeojdibmkaaDoor

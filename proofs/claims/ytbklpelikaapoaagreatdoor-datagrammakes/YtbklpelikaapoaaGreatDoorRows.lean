/-
  NARROWER THAN 'FOR EVERY INPUT', by the rows' own cells (each row's printed sentence says how): DatagramBytes: laid · DatagramDecodes: laid · DatagramMakes: laid · DatagramBends: laid.
  DERIVED. THE GIVEN ROWS OF THIS SEAT. 4 by the template 'for every input the law returns true; each argument reads behind the call as it read before'; 0 by the template 'total and deterministic' (their statements: YtbklpelikaapoaaGreatDoorTotals.lean).
  GIVEN WITH THE SEED: the statements are not yours to turn. If you find one false, say at which input.
  Laid BY PROGRAM, IN A SANDBOX (cutbox-rows.mjs): the forced cells as the released guide's own fill.sh prints them over the translation 14415c1c34b63ba8… (all of the seat's roots in one cut). By AI agents, Wed Nov 11 2026. No macro, syntax, notation, axiom, sorry.
-/
import Derived.Test.YtbklpelikaapoaaGreatDoorChecked
import GoSem.Claim
import GoSem.ClaimJoined
import GoSem.ClaimMapViews
import Derived.JoinedTies
import Derived.KernelRfl
namespace Go.Proofs.YtbklpelikaapoaaGreatDoor
/- THE CELL 'sum', in the pinned program and in every row, IS THE sha256 OF THE DUMP (.gsa) THAT YtbklpelikaapoaaGreatDoorProg.lean LOADS. Nothing in Lean hashes anything: it is a label: what it is worth is what the hold of that sum in a sandbox is worth. -/
noncomputable def Tryz.pinned : Pinned := { name := "ytbklpelikaapoaagreatdoor", sum := "14415c1c34b63ba89c42225d40340fc9cb792edddd23fb5784f5b88929b2adcf", checked := Tryz.checked }
namespace Rows
def none {H : Type} : Left H := { results := [], args := [] }

/- WHAT THE LISTED PACKAGE-LEVEL VARIABLES READ AS WHEN THE CALL BEGINS. Each datum BY PROGRAM (the guide's laid-datum.mjs) off the statement by which the dump's own 'gosem.cut.vars' lays the variable. In a bare row this is a premise. The card (YtbklpelikaapoaaGreatDoorCards.lean) ties it to the program's text. -/
def laid_rivulet_option_shapes {H : Type} : DataW H := .agg [.agg [.lit (.string [112, 97, 100]), .nil, .lit (.bool false), .lit (.bool false)], .agg [.lit (.string [112, 97, 100, 115]), .slice [.agg [.lit (.int .i64 1), .lit (.int .i64 255)]] [], .lit (.bool true), .lit (.bool false)], .agg [.lit (.string [109, 101, 116, 114, 105, 99]), .nil, .lit (.bool false), .lit (.bool true)], .agg [.lit (.string [114, 111, 117, 116, 101]), .slice [.agg [.lit (.int .i64 1), .lit (.int .i64 128)], .agg [.lit (.int .i64 1), .lit (.int .i64 255)], .agg [.lit (.int .i64 4), .lit (.int .i64 4294967295)], .agg [.lit (.int .i64 16), .lit (.int .i64 0)]] [], .lit (.bool false), .lit (.bool false)], .agg [.lit (.string [99, 111, 110, 102, 105, 103]), .slice [.agg [.lit (.int .i64 1), .lit (.int .i64 255)], .agg [.lit (.int .i64 1), .lit (.int .i64 255)], .agg [.lit (.int .i64 1), .lit (.int .i64 255)], .agg [.lit (.int .i64 1), .lit (.int .i64 255)], .agg [.lit (.int .i64 2), .lit (.int .i64 65535)], .agg [.lit (.int .i64 2), .lit (.int .i64 65535)], .agg [.lit (.int .i64 2), .lit (.int .i64 65535)], .agg [.lit (.int .i64 1), .lit (.int .i64 0)], .agg [.lit (.int .i64 1), .lit (.int .i64 255)], .agg [.lit (.int .i64 2), .lit (.int .i64 65535)]] [], .lit (.bool false), .lit (.bool false)], .agg [.lit (.string [116, 97, 114, 103, 101, 116]), .slice [.agg [.lit (.int .i64 1), .lit (.int .i64 255)], .agg [.lit (.int .i64 1), .lit (.int .i64 128)], .agg [.lit (.int .i64 16), .lit (.int .i64 0)]] [], .lit (.bool false), .lit (.bool false)], .agg [.lit (.string [116, 114, 97, 110, 115, 105, 116]), .slice [.agg [.lit (.int .i64 1), .lit (.int .i64 255)], .agg [.lit (.int .i64 1), .lit (.int .i64 255)], .agg [.lit (.int .i64 1), .lit (.int .i64 255)], .agg [.lit (.int .i64 1), .lit (.int .i64 255)]] [], .lit (.bool false), .lit (.bool false)], .agg [.lit (.string [115, 111, 108, 105, 99, 105, 116, 101, 100]), .slice [.agg [.lit (.int .i64 1), .lit (.int .i64 255)], .agg [.lit (.int .i64 1), .lit (.int .i64 255)], .agg [.lit (.int .i64 16), .lit (.int .i64 0)], .agg [.lit (.int .i64 1), .lit (.int .i64 255)]] [], .lit (.bool false), .lit (.bool false)], .agg [.lit (.string [112, 114, 101, 102, 105, 120]), .slice [.agg [.lit (.int .i64 1), .lit (.int .i64 128)], .agg [.lit (.int .i64 1), .lit (.int .i64 255)], .agg [.lit (.int .i64 4), .lit (.int .i64 4294967295)], .agg [.lit (.int .i64 4), .lit (.int .i64 4294967295)], .agg [.lit (.int .i64 4), .lit (.int .i64 0)], .agg [.lit (.int .i64 16), .lit (.int .i64 0)]] [], .lit (.bool false), .lit (.bool false)], .agg [.lit (.string [100, 101, 115, 99, 114, 105, 112, 116, 111, 114]), .slice [.agg [.lit (.int .i64 4), .lit (.int .i64 4294967295)]] [], .lit (.bool false), .lit (.bool false)]]
def laid_rivulet_control_shapes {H : Type} : DataW H := .agg [.agg [.lit (.string [100, 105, 115]), .slice [.agg [.lit (.int .i64 2), .nil]] [], .lit (.bool false), .slice [.lit (.int .i64 0), .lit (.int .i64 1), .lit (.int .i64 7)] []], .agg [.lit (.string [100, 105, 111]), .slice [.agg [.lit (.int .i64 1), .slice [.agg [.lit (.int .i64 0), .lit (.int .i64 0), .lit (.int .i64 255)]] []], .agg [.lit (.int .i64 1), .slice [.agg [.lit (.int .i64 1), .lit (.int .i64 0), .lit (.int .i64 255)]] []], .agg [.lit (.int .i64 2), .slice [.agg [.lit (.int .i64 2), .lit (.int .i64 0), .lit (.int .i64 65535)]] []], .agg [.lit (.int .i64 1), .slice [.agg [.lit (.int .i64 3), .lit (.int .i64 7), .lit (.int .i64 1)], .agg [.lit (.int .i64 4), .lit (.int .i64 3), .lit (.int .i64 7)], .agg [.lit (.int .i64 5), .lit (.int .i64 0), .lit (.int .i64 7)]] []], .agg [.lit (.int .i64 1), .slice [.agg [.lit (.int .i64 6), .lit (.int .i64 0), .lit (.int .i64 255)]] []], .agg [.lit (.int .i64 2), .nil]] [], .lit (.bool true), .slice [.lit (.int .i64 0), .lit (.int .i64 1), .lit (.int .i64 2), .lit (.int .i64 3), .lit (.int .i64 4), .lit (.int .i64 8)] []], .agg [.lit (.string [100, 97, 111]), .slice [.agg [.lit (.int .i64 1), .slice [.agg [.lit (.int .i64 0), .lit (.int .i64 0), .lit (.int .i64 255)]] []], .agg [.lit (.int .i64 1), .slice [.agg [.lit (.int .i64 7), .lit (.int .i64 7), .lit (.int .i64 1)], .agg [.lit (.int .i64 10), .lit (.int .i64 6), .lit (.int .i64 1)]] []], .agg [.lit (.int .i64 1), .nil], .agg [.lit (.int .i64 1), .slice [.agg [.lit (.int .i64 8), .lit (.int .i64 0), .lit (.int .i64 255)]] []]] [], .lit (.bool false), .slice [.lit (.int .i64 0), .lit (.int .i64 1), .lit (.int .i64 5), .lit (.int .i64 6), .lit (.int .i64 9)] []], .agg [.lit (.string [97, 99, 107]), .slice [.agg [.lit (.int .i64 1), .slice [.agg [.lit (.int .i64 0), .lit (.int .i64 0), .lit (.int .i64 255)]] []], .agg [.lit (.int .i64 1), .slice [.agg [.lit (.int .i64 10), .lit (.int .i64 7), .lit (.int .i64 1)]] []], .agg [.lit (.int .i64 1), .slice [.agg [.lit (.int .i64 8), .lit (.int .i64 0), .lit (.int .i64 255)]] []], .agg [.lit (.int .i64 1), .slice [.agg [.lit (.int .i64 9), .lit (.int .i64 0), .lit (.int .i64 255)]] []]] [], .lit (.bool false), .slice [.lit (.int .i64 0), .lit (.int .i64 1)] []]]

/-- 'rivuletlaw09.DatagramBytes': WHATEVER THE INPUT: true; the input reads as it did. -/
def datagramBytesSpec : ChangeSpec := { name := "datagramBytes", fn := fun _ => fun
  | [d1, d2] => { results := [.lit (.bool true)], args := [d1, d2] }
  | _ => none }
def datagramBytesRow : OpenClaim := { program := "ytbklpelikaapoaagreatdoor", sum := "14415c1c34b63ba89c42225d40340fc9cb792edddd23fb5784f5b88929b2adcf", func := "rivulet/rivuletlaw09.DatagramBytes", spec := "datagramBytes", unfollowed := true, recurses := true, named := ["rivulet/control.shapes", "rivulet/option.shapes"], apart := false, laid := [("rivulet/option.shapes", laid_rivulet_option_shapes), ("rivulet/control.shapes", laid_rivulet_control_shapes)] }
def DatagramBytesSaid : Prop := datagramBytesRow.holds Tryz.pinned (OpenSpec.ofChange datagramBytesSpec)

/-- ITS FALSE NEIGHBOUR: 'it returns false'. Refute it at one input. -/
def datagramBytesWrong : ChangeSpec := { name := "datagramBytes", fn := fun _ => fun
  | [d1, d2] => { results := [.lit (.bool false)], args := [d1, d2] }
  | _ => none }
def DatagramBytesWrongFalsely : Prop := datagramBytesRow.holds Tryz.pinned (OpenSpec.ofChange datagramBytesWrong)

/-- 'rivuletlaw09.DatagramDecodes': WHATEVER THE INPUT: true; the input reads as it did. -/
def datagramDecodesSpec : ChangeSpec := { name := "datagramDecodes", fn := fun _ => fun
  | [d] => { results := [.lit (.bool true)], args := [d] }
  | _ => none }
def datagramDecodesRow : OpenClaim := { program := "ytbklpelikaapoaagreatdoor", sum := "14415c1c34b63ba89c42225d40340fc9cb792edddd23fb5784f5b88929b2adcf", func := "rivulet/rivuletlaw09.DatagramDecodes", spec := "datagramDecodes", unfollowed := true, recurses := true, named := ["rivulet/control.shapes", "rivulet/option.shapes"], apart := false, laid := [("rivulet/option.shapes", laid_rivulet_option_shapes), ("rivulet/control.shapes", laid_rivulet_control_shapes)] }
def DatagramDecodesSaid : Prop := datagramDecodesRow.holds Tryz.pinned (OpenSpec.ofChange datagramDecodesSpec)

/-- ITS FALSE NEIGHBOUR: 'it returns false'. Refute it at one input. -/
def datagramDecodesWrong : ChangeSpec := { name := "datagramDecodes", fn := fun _ => fun
  | [d] => { results := [.lit (.bool false)], args := [d] }
  | _ => none }
def DatagramDecodesWrongFalsely : Prop := datagramDecodesRow.holds Tryz.pinned (OpenSpec.ofChange datagramDecodesWrong)

/-- 'rivuletlaw09.DatagramMakes': WHATEVER THE INPUT: true; the input reads as it did. -/
def datagramMakesSpec : ChangeSpec := { name := "datagramMakes", fn := fun _ => fun
  | [d1, d2, d3, d4, d5, d6] => { results := [.lit (.bool true)], args := [d1, d2, d3, d4, d5, d6] }
  | _ => none }
def datagramMakesRow : OpenClaim := { program := "ytbklpelikaapoaagreatdoor", sum := "14415c1c34b63ba89c42225d40340fc9cb792edddd23fb5784f5b88929b2adcf", func := "rivulet/rivuletlaw09.DatagramMakes", spec := "datagramMakes", unfollowed := true, recurses := true, named := ["rivulet/control.shapes", "rivulet/option.shapes"], apart := false, laid := [("rivulet/option.shapes", laid_rivulet_option_shapes), ("rivulet/control.shapes", laid_rivulet_control_shapes)] }
def DatagramMakesSaid : Prop := datagramMakesRow.holds Tryz.pinned (OpenSpec.ofChange datagramMakesSpec)

/-- ITS FALSE NEIGHBOUR: 'it returns false'. Refute it at one input. -/
def datagramMakesWrong : ChangeSpec := { name := "datagramMakes", fn := fun _ => fun
  | [d1, d2, d3, d4, d5, d6] => { results := [.lit (.bool false)], args := [d1, d2, d3, d4, d5, d6] }
  | _ => none }
def DatagramMakesWrongFalsely : Prop := datagramMakesRow.holds Tryz.pinned (OpenSpec.ofChange datagramMakesWrong)

/-- 'rivuletlaw09.DatagramBends': WHATEVER THE INPUT: true; the input reads as it did. -/
def datagramBendsSpec : ChangeSpec := { name := "datagramBends", fn := fun _ => fun
  | [d1, d2, d3] => { results := [.lit (.bool true)], args := [d1, d2, d3] }
  | _ => none }
def datagramBendsRow : OpenClaim := { program := "ytbklpelikaapoaagreatdoor", sum := "14415c1c34b63ba89c42225d40340fc9cb792edddd23fb5784f5b88929b2adcf", func := "rivulet/rivuletlaw09.DatagramBends", spec := "datagramBends", unfollowed := true, recurses := true, named := ["rivulet/control.shapes", "rivulet/option.shapes"], apart := false, laid := [("rivulet/option.shapes", laid_rivulet_option_shapes), ("rivulet/control.shapes", laid_rivulet_control_shapes)] }
def DatagramBendsSaid : Prop := datagramBendsRow.holds Tryz.pinned (OpenSpec.ofChange datagramBendsSpec)

/-- ITS FALSE NEIGHBOUR: 'it returns false'. Refute it at one input. -/
def datagramBendsWrong : ChangeSpec := { name := "datagramBends", fn := fun _ => fun
  | [d1, d2, d3] => { results := [.lit (.bool false)], args := [d1, d2, d3] }
  | _ => none }
def DatagramBendsWrongFalsely : Prop := datagramBendsRow.holds Tryz.pinned (OpenSpec.ofChange datagramBendsWrong)

/- THE SECOND FORM. 'bulk': how many values and letters a reading holds, each counted each time it is reached (what is shared counts as often as it is met; a slice's spare places count too). A statement '..UptoSaid' is the law's where the arguments, and the package variables that the reading takes, are together of bulk at most 1048576: NARROWER than '..Said'. Prove '..Said' where nothing that the law and all that it calls make is longer than what came in: it says more and counts as full. Else prove '..UptoSaid'. A law counts once. -/
mutual
def uptoBulk {H : Type} : DataW H → Nat
  | .lit (.string bytes) => bytes.length + 1
  | .lit _ => 1
  | .nil => 1
  | .ptr d => uptoBulk d + 1
  | .slice elems spare => uptoBulkAll elems + uptoBulkAll spare + 1
  | .agg parts => uptoBulkAll parts + 1
  | .iface _ d => uptoBulk d + 1
  | .map entries => uptoBulkEntries entries + 1
  | .held _ => 1
def uptoBulkAll {H : Type} : List (DataW H) → Nat
  | [] => 0
  | d :: r => uptoBulk d + uptoBulkAll r
def uptoBulkEntries {H : Type} : List (Lit × DataW H) → Nat
  | [] => 0
  | x :: r => uptoBulkEntry x + uptoBulkEntries r
def uptoBulkEntry {H : Type} : Lit × DataW H → Nat
  | (.string bytes, d) => bytes.length + uptoBulk d + 1
  | (_, d) => uptoBulk d + 1
 end
def uptoSmall : (H : Type) → List (DataW H) → Bool := fun _ ds => decide (uptoBulkAll ds ≤ 1048576)
def OpenSpec.upto (s : _root_.Go.ChangeSpec) : _root_.Go.OpenSpec := { _root_.Go.OpenSpec.ofChange s with cond := some uptoSmall }

/-- 'rivuletlaw09.DatagramBytes', WHERE WHAT IT READS IS OF BULK AT MOST 1048576: true; the input reads as it did. -/
def datagramBytesUptoRow : OpenClaim := { program := "ytbklpelikaapoaagreatdoor", sum := "14415c1c34b63ba89c42225d40340fc9cb792edddd23fb5784f5b88929b2adcf", func := "rivulet/rivuletlaw09.DatagramBytes", spec := "datagramBytes", unfollowed := true, recurses := true, named := ["rivulet/control.shapes", "rivulet/option.shapes"], apart := false, laid := [("rivulet/option.shapes", laid_rivulet_option_shapes), ("rivulet/control.shapes", laid_rivulet_control_shapes)], narrowed := true }
def DatagramBytesUptoSaid : Prop := datagramBytesUptoRow.holds Tryz.pinned (OpenSpec.upto datagramBytesSpec)

/-- 'rivuletlaw09.DatagramDecodes', WHERE WHAT IT READS IS OF BULK AT MOST 1048576: true; the input reads as it did. -/
def datagramDecodesUptoRow : OpenClaim := { program := "ytbklpelikaapoaagreatdoor", sum := "14415c1c34b63ba89c42225d40340fc9cb792edddd23fb5784f5b88929b2adcf", func := "rivulet/rivuletlaw09.DatagramDecodes", spec := "datagramDecodes", unfollowed := true, recurses := true, named := ["rivulet/control.shapes", "rivulet/option.shapes"], apart := false, laid := [("rivulet/option.shapes", laid_rivulet_option_shapes), ("rivulet/control.shapes", laid_rivulet_control_shapes)], narrowed := true }
def DatagramDecodesUptoSaid : Prop := datagramDecodesUptoRow.holds Tryz.pinned (OpenSpec.upto datagramDecodesSpec)

/-- 'rivuletlaw09.DatagramMakes', WHERE WHAT IT READS IS OF BULK AT MOST 1048576: true; the input reads as it did. -/
def datagramMakesUptoRow : OpenClaim := { program := "ytbklpelikaapoaagreatdoor", sum := "14415c1c34b63ba89c42225d40340fc9cb792edddd23fb5784f5b88929b2adcf", func := "rivulet/rivuletlaw09.DatagramMakes", spec := "datagramMakes", unfollowed := true, recurses := true, named := ["rivulet/control.shapes", "rivulet/option.shapes"], apart := false, laid := [("rivulet/option.shapes", laid_rivulet_option_shapes), ("rivulet/control.shapes", laid_rivulet_control_shapes)], narrowed := true }
def DatagramMakesUptoSaid : Prop := datagramMakesUptoRow.holds Tryz.pinned (OpenSpec.upto datagramMakesSpec)

/-- 'rivuletlaw09.DatagramBends', WHERE WHAT IT READS IS OF BULK AT MOST 1048576: true; the input reads as it did. -/
def datagramBendsUptoRow : OpenClaim := { program := "ytbklpelikaapoaagreatdoor", sum := "14415c1c34b63ba89c42225d40340fc9cb792edddd23fb5784f5b88929b2adcf", func := "rivulet/rivuletlaw09.DatagramBends", spec := "datagramBends", unfollowed := true, recurses := true, named := ["rivulet/control.shapes", "rivulet/option.shapes"], apart := false, laid := [("rivulet/option.shapes", laid_rivulet_option_shapes), ("rivulet/control.shapes", laid_rivulet_control_shapes)], narrowed := true }
def DatagramBendsUptoSaid : Prop := datagramBendsUptoRow.holds Tryz.pinned (OpenSpec.upto datagramBendsSpec)

end Rows
end Go.Proofs.YtbklpelikaapoaaGreatDoor

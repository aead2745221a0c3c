/-
  No cell of these rows narrows 'for every input' (looked for: loops, veiled, ifaces, maps, wideKeys, modest, calm, conditions, laid).
  DERIVED. THE GIVEN ROWS OF THIS SEAT. 5 by the template 'for every input the law returns true; each argument reads behind the call as it read before'; 0 by the template 'total and deterministic' (their statements: YtlhlihphhmiflaaTotals.lean).
  GIVEN WITH THE SEED: the statements are not yours to turn. If you find one false, say at which input.
  Laid BY PROGRAM, IN A SANDBOX (cutbox-rows.mjs): the forced cells as the released guide's own fill.sh prints them over the translation 164e1b513b14ba60… (all of the seat's roots in one cut). By AI agents, Wed Nov 11 2026. No macro, syntax, notation, axiom, sorry.
-/
import Derived.Test.YtlhlihphhmiflaaChecked
import GoSem.Claim
import GoSem.ClaimJoined
import GoSem.ClaimMapViews
import Derived.JoinedTies
import Derived.KernelRfl
namespace Go.Proofs.Ytlhlihphhmiflaa
/- THE CELL 'sum', in the pinned program and in every row, IS THE sha256 OF THE DUMP (.gsa) THAT YtlhlihphhmiflaaProg.lean LOADS. Nothing in Lean hashes anything: it is a label: what it is worth is what the hold of that sum in a sandbox is worth. -/
noncomputable def Try.pinned : Pinned := { name := "ytlhlihphhmiflaa", sum := "164e1b513b14ba602d48ca88e40b38561b0640ecb7d9f36acc24734a93152ac1", checked := Try.checked }
namespace Rows
def none {H : Type} : Left H := { results := [], args := [] }

/-- 'rivuletlaw01.LolliCompares': WHATEVER THE INPUT: true; the input reads as it did. -/
def lolliComparesSpec : ChangeSpec := { name := "lolliCompares", fn := fun _ => fun
  | [d1, d2] => { results := [.lit (.bool true)], args := [d1, d2] }
  | _ => none }
def lolliComparesRow : OpenClaim := { program := "ytlhlihphhmiflaa", sum := "164e1b513b14ba602d48ca88e40b38561b0640ecb7d9f36acc24734a93152ac1", func := "rivulet/rivuletlaw01.LolliCompares", spec := "lolliCompares", unfollowed := true, recurses := true, apart := false }
def LolliComparesSaid : Prop := lolliComparesRow.holds Try.pinned (OpenSpec.ofChange lolliComparesSpec)

/-- ITS FALSE NEIGHBOUR: 'it returns false'. Refute it at one input. -/
def lolliComparesWrong : ChangeSpec := { name := "lolliCompares", fn := fun _ => fun
  | [d1, d2] => { results := [.lit (.bool false)], args := [d1, d2] }
  | _ => none }
def LolliComparesWrongFalsely : Prop := lolliComparesRow.holds Try.pinned (OpenSpec.ofChange lolliComparesWrong)

/-- 'rivuletlaw01.LolliSteps': WHATEVER THE INPUT: true; the input reads as it did. -/
def lolliStepsSpec : ChangeSpec := { name := "lolliSteps", fn := fun _ => fun
  | [d1, d2] => { results := [.lit (.bool true)], args := [d1, d2] }
  | _ => none }
def lolliStepsRow : OpenClaim := { program := "ytlhlihphhmiflaa", sum := "164e1b513b14ba602d48ca88e40b38561b0640ecb7d9f36acc24734a93152ac1", func := "rivulet/rivuletlaw01.LolliSteps", spec := "lolliSteps", unfollowed := true, recurses := true, apart := false }
def LolliStepsSaid : Prop := lolliStepsRow.holds Try.pinned (OpenSpec.ofChange lolliStepsSpec)

/-- ITS FALSE NEIGHBOUR: 'it returns false'. Refute it at one input. -/
def lolliStepsWrong : ChangeSpec := { name := "lolliSteps", fn := fun _ => fun
  | [d1, d2] => { results := [.lit (.bool false)], args := [d1, d2] }
  | _ => none }
def LolliStepsWrongFalsely : Prop := lolliStepsRow.holds Try.pinned (OpenSpec.ofChange lolliStepsWrong)

/-- 'rivuletlaw01.LolliNewest': WHATEVER THE INPUT: true; the input reads as it did. -/
def lolliNewestSpec : ChangeSpec := { name := "lolliNewest", fn := fun _ => fun
  | [d] => { results := [.lit (.bool true)], args := [d] }
  | _ => none }
def lolliNewestRow : OpenClaim := { program := "ytlhlihphhmiflaa", sum := "164e1b513b14ba602d48ca88e40b38561b0640ecb7d9f36acc24734a93152ac1", func := "rivulet/rivuletlaw01.LolliNewest", spec := "lolliNewest", unfollowed := true, recurses := true, apart := false }
def LolliNewestSaid : Prop := lolliNewestRow.holds Try.pinned (OpenSpec.ofChange lolliNewestSpec)

/-- ITS FALSE NEIGHBOUR: 'it returns false'. Refute it at one input. -/
def lolliNewestWrong : ChangeSpec := { name := "lolliNewest", fn := fun _ => fun
  | [d] => { results := [.lit (.bool false)], args := [d] }
  | _ => none }
def LolliNewestWrongFalsely : Prop := lolliNewestRow.holds Try.pinned (OpenSpec.ofChange lolliNewestWrong)

/-- 'rivuletlaw01.LolliWindow': WHATEVER THE INPUT: true; the input reads as it did. -/
def lolliWindowSpec : ChangeSpec := { name := "lolliWindow", fn := fun _ => fun
  | [d1, d2] => { results := [.lit (.bool true)], args := [d1, d2] }
  | _ => none }
def lolliWindowRow : OpenClaim := { program := "ytlhlihphhmiflaa", sum := "164e1b513b14ba602d48ca88e40b38561b0640ecb7d9f36acc24734a93152ac1", func := "rivulet/rivuletlaw01.LolliWindow", spec := "lolliWindow", unfollowed := true, recurses := true, apart := false }
def LolliWindowSaid : Prop := lolliWindowRow.holds Try.pinned (OpenSpec.ofChange lolliWindowSpec)

/-- ITS FALSE NEIGHBOUR: 'it returns false'. Refute it at one input. -/
def lolliWindowWrong : ChangeSpec := { name := "lolliWindow", fn := fun _ => fun
  | [d1, d2] => { results := [.lit (.bool false)], args := [d1, d2] }
  | _ => none }
def LolliWindowWrongFalsely : Prop := lolliWindowRow.holds Try.pinned (OpenSpec.ofChange lolliWindowWrong)

/-- 'rivuletlaw01.LolliAdds': WHATEVER THE INPUT: true; the input reads as it did. -/
def lolliAddsSpec : ChangeSpec := { name := "lolliAdds", fn := fun _ => fun
  | [d1, d2, d3] => { results := [.lit (.bool true)], args := [d1, d2, d3] }
  | _ => none }
def lolliAddsRow : OpenClaim := { program := "ytlhlihphhmiflaa", sum := "164e1b513b14ba602d48ca88e40b38561b0640ecb7d9f36acc24734a93152ac1", func := "rivulet/rivuletlaw01.LolliAdds", spec := "lolliAdds", unfollowed := true, recurses := true, apart := false }
def LolliAddsSaid : Prop := lolliAddsRow.holds Try.pinned (OpenSpec.ofChange lolliAddsSpec)

/-- ITS FALSE NEIGHBOUR: 'it returns false'. Refute it at one input. -/
def lolliAddsWrong : ChangeSpec := { name := "lolliAdds", fn := fun _ => fun
  | [d1, d2, d3] => { results := [.lit (.bool false)], args := [d1, d2, d3] }
  | _ => none }
def LolliAddsWrongFalsely : Prop := lolliAddsRow.holds Try.pinned (OpenSpec.ofChange lolliAddsWrong)

/- THE SECOND FORM. 'bulk': how many values and letters a reading holds, each counted each time it is reached (what is shared counts as often as it is met; a slice's spare places count too). A statement '..UptoSaid' is the law's where the arguments, and the package variables that the reading takes, are together of bulk at most 1048576: NARROWER than '..Said'. Prove '..Said' where nothing that the law and all that it calls make is longer than what came in: it says more and counts as full. Else prove '..UptoSaid'. A law counts once. -/
mutual
def uptoBulk {H : Type} : DataW H → Nat
  | .lit (.string bytes) => bytes.length + 1
  | .lit _ => 1
  | .nil => 1
  | .ptr d => uptoBulk d + 1
  | .slice elems spare => uptoBulkAll elems + uptoBulkAll spare + 1
  | .agg parts => uptoBulkAll parts + 1
  | .iface _ d => uptoBulk d + 1
  | .map entries => uptoBulkEntries entries + 1
  | .held _ => 1
def uptoBulkAll {H : Type} : List (DataW H) → Nat
  | [] => 0
  | d :: r => uptoBulk d + uptoBulkAll r
def uptoBulkEntries {H : Type} : List (Lit × DataW H) → Nat
  | [] => 0
  | x :: r => uptoBulkEntry x + uptoBulkEntries r
def uptoBulkEntry {H : Type} : Lit × DataW H → Nat
  | (.string bytes, d) => bytes.length + uptoBulk d + 1
  | (_, d) => uptoBulk d + 1
 end
def uptoSmall : (H : Type) → List (DataW H) → Bool := fun _ ds => decide (uptoBulkAll ds ≤ 1048576)
def OpenSpec.upto (s : _root_.Go.ChangeSpec) : _root_.Go.OpenSpec := { _root_.Go.OpenSpec.ofChange s with cond := some uptoSmall }

/-- 'rivuletlaw01.LolliCompares', WHERE WHAT IT READS IS OF BULK AT MOST 1048576: true; the input reads as it did. -/
def lolliComparesUptoRow : OpenClaim := { program := "ytlhlihphhmiflaa", sum := "164e1b513b14ba602d48ca88e40b38561b0640ecb7d9f36acc24734a93152ac1", func := "rivulet/rivuletlaw01.LolliCompares", spec := "lolliCompares", unfollowed := true, recurses := true, apart := false, narrowed := true }
def LolliComparesUptoSaid : Prop := lolliComparesUptoRow.holds Try.pinned (OpenSpec.upto lolliComparesSpec)

/-- 'rivuletlaw01.LolliSteps', WHERE WHAT IT READS IS OF BULK AT MOST 1048576: true; the input reads as it did. -/
def lolliStepsUptoRow : OpenClaim := { program := "ytlhlihphhmiflaa", sum := "164e1b513b14ba602d48ca88e40b38561b0640ecb7d9f36acc24734a93152ac1", func := "rivulet/rivuletlaw01.LolliSteps", spec := "lolliSteps", unfollowed := true, recurses := true, apart := false, narrowed := true }
def LolliStepsUptoSaid : Prop := lolliStepsUptoRow.holds Try.pinned (OpenSpec.upto lolliStepsSpec)

/-- 'rivuletlaw01.LolliNewest', WHERE WHAT IT READS IS OF BULK AT MOST 1048576: true; the input reads as it did. -/
def lolliNewestUptoRow : OpenClaim := { program := "ytlhlihphhmiflaa", sum := "164e1b513b14ba602d48ca88e40b38561b0640ecb7d9f36acc24734a93152ac1", func := "rivulet/rivuletlaw01.LolliNewest", spec := "lolliNewest", unfollowed := true, recurses := true, apart := false, narrowed := true }
def LolliNewestUptoSaid : Prop := lolliNewestUptoRow.holds Try.pinned (OpenSpec.upto lolliNewestSpec)

/-- 'rivuletlaw01.LolliWindow', WHERE WHAT IT READS IS OF BULK AT MOST 1048576: true; the input reads as it did. -/
def lolliWindowUptoRow : OpenClaim := { program := "ytlhlihphhmiflaa", sum := "164e1b513b14ba602d48ca88e40b38561b0640ecb7d9f36acc24734a93152ac1", func := "rivulet/rivuletlaw01.LolliWindow", spec := "lolliWindow", unfollowed := true, recurses := true, apart := false, narrowed := true }
def LolliWindowUptoSaid : Prop := lolliWindowUptoRow.holds Try.pinned (OpenSpec.upto lolliWindowSpec)

/-- 'rivuletlaw01.LolliAdds', WHERE WHAT IT READS IS OF BULK AT MOST 1048576: true; the input reads as it did. -/
def lolliAddsUptoRow : OpenClaim := { program := "ytlhlihphhmiflaa", sum := "164e1b513b14ba602d48ca88e40b38561b0640ecb7d9f36acc24734a93152ac1", func := "rivulet/rivuletlaw01.LolliAdds", spec := "lolliAdds", unfollowed := true, recurses := true, apart := false, narrowed := true }
def LolliAddsUptoSaid : Prop := lolliAddsUptoRow.holds Try.pinned (OpenSpec.upto lolliAddsSpec)

end Rows
end Go.Proofs.Ytlhlihphhmiflaa

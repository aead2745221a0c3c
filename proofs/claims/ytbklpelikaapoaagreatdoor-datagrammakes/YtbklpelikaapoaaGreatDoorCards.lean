/-
  DERIVED. GIVEN WITH THE SEED: THE CARDS: each row of YtbklpelikaapoaaGreatDoorRows.lean that lists a variable, with what it lists TIED to the program's text (the seventh form; the later family's looks); each row that meets fmt, with fmt's text TOLD by the authors' own Lean function (tested against real Go, not proved from fmt's source: count such statements apart). THE CARD IS WHAT COUNTS. Prove the row's statement (the work); the ties are given (YtbklpelikaapoaaGreatDoorTie.lean); close each card by the builder's one call (the guide's Derived/Test/ToyasCard.lean, 'card_holds'). Laid BY PROGRAM, IN A SANDBOX (cutbox-door.mjs). By AI agents, Wed Nov 11 2026. No macro, syntax, notation, axiom, sorry.
-/
import Derived.Test.YtbklpelikaapoaaGreatDoorRows
import GoSem.ClaimSeven
namespace Go.Proofs.YtbklpelikaapoaaGreatDoor
namespace Rows

/-- THE TIED CARD OF 'rivuletlaw09.DatagramBytes'. -/
def datagramBytesCard : Claim7 := { stood := { row := datagramBytesRow, standIns := [], harness := (true, "46458a4a7c3e2256898976b5a245ca43624bd8007abc410ee22c08696b743837"), looks := false }, kinds := [], alts := [], laidByText := true, laidKinds := [.data, .widerDeep], laidTests := true, laidLooks := .later }
def DatagramBytesCardSaid : Prop := Claim7.holds Tryz.pinned (.plain (OpenSpec.ofChange datagramBytesSpec)) datagramBytesCard

/-- THE TIED CARD OF 'rivuletlaw09.DatagramDecodes'. -/
def datagramDecodesCard : Claim7 := { stood := { row := datagramDecodesRow, standIns := [], harness := (true, "46458a4a7c3e2256898976b5a245ca43624bd8007abc410ee22c08696b743837"), looks := false }, kinds := [], alts := [], laidByText := true, laidKinds := [.data, .widerDeep], laidTests := true, laidLooks := .later }
def DatagramDecodesCardSaid : Prop := Claim7.holds Tryz.pinned (.plain (OpenSpec.ofChange datagramDecodesSpec)) datagramDecodesCard

/-- THE TIED CARD OF 'rivuletlaw09.DatagramMakes'. -/
def datagramMakesCard : Claim7 := { stood := { row := datagramMakesRow, standIns := [], harness := (true, "46458a4a7c3e2256898976b5a245ca43624bd8007abc410ee22c08696b743837"), looks := false }, kinds := [], alts := [], laidByText := true, laidKinds := [.data, .widerDeep], laidTests := true, laidLooks := .later }
def DatagramMakesCardSaid : Prop := Claim7.holds Tryz.pinned (.plain (OpenSpec.ofChange datagramMakesSpec)) datagramMakesCard

/-- THE TIED CARD OF 'rivuletlaw09.DatagramBends'. -/
def datagramBendsCard : Claim7 := { stood := { row := datagramBendsRow, standIns := [], harness := (true, "46458a4a7c3e2256898976b5a245ca43624bd8007abc410ee22c08696b743837"), looks := false }, kinds := [], alts := [], laidByText := true, laidKinds := [.data, .widerDeep], laidTests := true, laidLooks := .later }
def DatagramBendsCardSaid : Prop := Claim7.holds Tryz.pinned (.plain (OpenSpec.ofChange datagramBendsSpec)) datagramBendsCard

/-- THE SECOND FORM's CARD OF 'rivuletlaw09.DatagramBytes'. -/
def datagramBytesUptoCard : Claim7 := { stood := { row := datagramBytesUptoRow, standIns := [], harness := (true, "46458a4a7c3e2256898976b5a245ca43624bd8007abc410ee22c08696b743837"), looks := false }, kinds := [], alts := [], laidByText := true, laidKinds := [.data, .widerDeep], laidTests := true, laidLooks := .later }
def DatagramBytesUptoCardSaid : Prop := Claim7.holds Tryz.pinned (.plain (OpenSpec.upto datagramBytesSpec)) datagramBytesUptoCard

/-- THE SECOND FORM's CARD OF 'rivuletlaw09.DatagramDecodes'. -/
def datagramDecodesUptoCard : Claim7 := { stood := { row := datagramDecodesUptoRow, standIns := [], harness := (true, "46458a4a7c3e2256898976b5a245ca43624bd8007abc410ee22c08696b743837"), looks := false }, kinds := [], alts := [], laidByText := true, laidKinds := [.data, .widerDeep], laidTests := true, laidLooks := .later }
def DatagramDecodesUptoCardSaid : Prop := Claim7.holds Tryz.pinned (.plain (OpenSpec.upto datagramDecodesSpec)) datagramDecodesUptoCard

/-- THE SECOND FORM's CARD OF 'rivuletlaw09.DatagramMakes'. -/
def datagramMakesUptoCard : Claim7 := { stood := { row := datagramMakesUptoRow, standIns := [], harness := (true, "46458a4a7c3e2256898976b5a245ca43624bd8007abc410ee22c08696b743837"), looks := false }, kinds := [], alts := [], laidByText := true, laidKinds := [.data, .widerDeep], laidTests := true, laidLooks := .later }
def DatagramMakesUptoCardSaid : Prop := Claim7.holds Tryz.pinned (.plain (OpenSpec.upto datagramMakesSpec)) datagramMakesUptoCard

/-- THE SECOND FORM's CARD OF 'rivuletlaw09.DatagramBends'. -/
def datagramBendsUptoCard : Claim7 := { stood := { row := datagramBendsUptoRow, standIns := [], harness := (true, "46458a4a7c3e2256898976b5a245ca43624bd8007abc410ee22c08696b743837"), looks := false }, kinds := [], alts := [], laidByText := true, laidKinds := [.data, .widerDeep], laidTests := true, laidLooks := .later }
def DatagramBendsUptoCardSaid : Prop := Claim7.holds Tryz.pinned (.plain (OpenSpec.upto datagramBendsSpec)) datagramBendsUptoCard
end Rows
end Go.Proofs.YtbklpelikaapoaaGreatDoor

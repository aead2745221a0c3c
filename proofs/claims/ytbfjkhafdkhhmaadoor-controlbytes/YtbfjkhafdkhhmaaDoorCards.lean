/-
  DERIVED. GIVEN WITH THE SEED: THE CARDS: each row of YtbfjkhafdkhhmaaDoorRows.lean that lists a variable, with what it lists TIED to the program's text (the seventh form; the later family's looks); each row that meets fmt, with fmt's text TOLD by the authors' own Lean function (tested against real Go, not proved from fmt's source: count such statements apart). THE CARD IS WHAT COUNTS. Prove the row's statement (the work); the ties are given (YtbfjkhafdkhhmaaDoorTie.lean); close each card by the builder's one call (the guide's Derived/Test/ToyasCard.lean, 'card_holds'). Laid BY PROGRAM, IN A SANDBOX (cutbox-door.mjs). By AI agents, Wed Nov 11 2026. No macro, syntax, notation, axiom, sorry.
-/
import Derived.Test.YtbfjkhafdkhhmaaDoorRows
import GoSem.ClaimSeven
namespace Go.Proofs.YtbfjkhafdkhhmaaDoor
namespace Rows

/-- THE TIED CARD OF 'rivuletlaw08.ControlBytes'. -/
def controlBytesCard : Claim7 := { stood := { row := controlBytesRow, standIns := [], harness := (true, "b07b43155fe310502619ae564cd6574bcd3b759a465c147f9837acc29be25745"), looks := false }, kinds := [], alts := [], laidByText := true, laidKinds := [.data, .widerDeep], laidTests := true, laidLooks := .later }
def ControlBytesCardSaid : Prop := Claim7.holds Tryd.pinned (.plain (OpenSpec.ofChange controlBytesSpec)) controlBytesCard

/-- THE TIED CARD OF 'rivuletlaw08.ControlDecodes'. -/
def controlDecodesCard : Claim7 := { stood := { row := controlDecodesRow, standIns := [], harness := (true, "b07b43155fe310502619ae564cd6574bcd3b759a465c147f9837acc29be25745"), looks := false }, kinds := [], alts := [], laidByText := true, laidKinds := [.data, .widerDeep], laidTests := true, laidLooks := .later }
def ControlDecodesCardSaid : Prop := Claim7.holds Tryd.pinned (.plain (OpenSpec.ofChange controlDecodesSpec)) controlDecodesCard

/-- THE TIED CARD OF 'rivuletlaw08.ControlTells'. -/
def controlTellsCard : Claim7 := { stood := { row := controlTellsRow, standIns := [], harness := (true, "b07b43155fe310502619ae564cd6574bcd3b759a465c147f9837acc29be25745"), looks := false }, kinds := [], alts := [], laidByText := true, laidKinds := [.data, .widerDeep], laidTests := true, laidLooks := .later }
def ControlTellsCardSaid : Prop := Claim7.holds Tryd.pinned (.plain (OpenSpec.ofChange controlTellsSpec)) controlTellsCard

/-- THE SECOND FORM's CARD OF 'rivuletlaw08.ControlBytes'. -/
def controlBytesUptoCard : Claim7 := { stood := { row := controlBytesUptoRow, standIns := [], harness := (true, "b07b43155fe310502619ae564cd6574bcd3b759a465c147f9837acc29be25745"), looks := false }, kinds := [], alts := [], laidByText := true, laidKinds := [.data, .widerDeep], laidTests := true, laidLooks := .later }
def ControlBytesUptoCardSaid : Prop := Claim7.holds Tryd.pinned (.plain (OpenSpec.upto controlBytesSpec)) controlBytesUptoCard

/-- THE SECOND FORM's CARD OF 'rivuletlaw08.ControlDecodes'. -/
def controlDecodesUptoCard : Claim7 := { stood := { row := controlDecodesUptoRow, standIns := [], harness := (true, "b07b43155fe310502619ae564cd6574bcd3b759a465c147f9837acc29be25745"), looks := false }, kinds := [], alts := [], laidByText := true, laidKinds := [.data, .widerDeep], laidTests := true, laidLooks := .later }
def ControlDecodesUptoCardSaid : Prop := Claim7.holds Tryd.pinned (.plain (OpenSpec.upto controlDecodesSpec)) controlDecodesUptoCard

/-- THE SECOND FORM's CARD OF 'rivuletlaw08.ControlTells'. -/
def controlTellsUptoCard : Claim7 := { stood := { row := controlTellsUptoRow, standIns := [], harness := (true, "b07b43155fe310502619ae564cd6574bcd3b759a465c147f9837acc29be25745"), looks := false }, kinds := [], alts := [], laidByText := true, laidKinds := [.data, .widerDeep], laidTests := true, laidLooks := .later }
def ControlTellsUptoCardSaid : Prop := Claim7.holds Tryd.pinned (.plain (OpenSpec.upto controlTellsSpec)) controlTellsUptoCard
end Rows
end Go.Proofs.YtbfjkhafdkhhmaaDoor

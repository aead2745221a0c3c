/-
  DERIVED. GIVEN WITH THE SEED: THE CARDS: each row of YtbgogeojdibmkaaDoorRows.lean that lists a variable, with what it lists TIED to the program's text (the seventh form; the later family's looks); each row that meets fmt, with fmt's text TOLD by the authors' own Lean function (tested against real Go, not proved from fmt's source: count such statements apart). THE CARD IS WHAT COUNTS. Prove the row's statement (the work); the ties are given (YtbgogeojdibmkaaDoorTie.lean); close each card by the builder's one call (the guide's Derived/Test/ToyasCard.lean, 'card_holds'). Laid BY PROGRAM, IN A SANDBOX (cutbox-door.mjs). By AI agents, Wed Nov 11 2026. No macro, syntax, notation, axiom, sorry.
-/
import Derived.Test.YtbgogeojdibmkaaDoorRows
import GoSem.ClaimSeven
namespace Go.Proofs.YtbgogeojdibmkaaDoor
namespace Rows

/-- THE TIED CARD OF 'rivuletlaw07.OptionBytes'. -/
def optionBytesCard : Claim7 := { stood := { row := optionBytesRow, standIns := [], harness := (true, "cf3ed86f7a724b7ea3ee4f017bd63dddf045c9f5349574e4a151eb249f9b1695"), looks := false }, kinds := [], alts := [], laidByText := true, laidKinds := [.data], laidTests := true, laidLooks := .later }
def OptionBytesCardSaid : Prop := Claim7.holds Tryd.pinned (.plain (OpenSpec.ofChange optionBytesSpec)) optionBytesCard

/-- THE TIED CARD OF 'rivuletlaw07.OptionDecodes'. -/
def optionDecodesCard : Claim7 := { stood := { row := optionDecodesRow, standIns := [], harness := (true, "cf3ed86f7a724b7ea3ee4f017bd63dddf045c9f5349574e4a151eb249f9b1695"), looks := false }, kinds := [], alts := [], laidByText := true, laidKinds := [.data], laidTests := true, laidLooks := .later }
def OptionDecodesCardSaid : Prop := Claim7.holds Tryd.pinned (.plain (OpenSpec.ofChange optionDecodesSpec)) optionDecodesCard

/-- THE TIED CARD OF 'rivuletlaw07.OptionFinds'. -/
def optionFindsCard : Claim7 := { stood := { row := optionFindsRow, standIns := [], harness := (true, "cf3ed86f7a724b7ea3ee4f017bd63dddf045c9f5349574e4a151eb249f9b1695"), looks := false }, kinds := [], alts := [], laidByText := true, laidKinds := [.data], laidTests := true, laidLooks := .later }
def OptionFindsCardSaid : Prop := Claim7.holds Tryd.pinned (.plain (OpenSpec.ofChange optionFindsSpec)) optionFindsCard

/-- THE TIED CARD OF 'rivuletlaw07.OptionJoins'. -/
def optionJoinsCard : Claim7 := { stood := { row := optionJoinsRow, standIns := [], harness := (true, "cf3ed86f7a724b7ea3ee4f017bd63dddf045c9f5349574e4a151eb249f9b1695"), looks := false }, kinds := [], alts := [], laidByText := true, laidKinds := [.data], laidTests := true, laidLooks := .later }
def OptionJoinsCardSaid : Prop := Claim7.holds Tryd.pinned (.plain (OpenSpec.ofChange optionJoinsSpec)) optionJoinsCard

/-- THE SECOND FORM's CARD OF 'rivuletlaw07.OptionBytes'. -/
def optionBytesUptoCard : Claim7 := { stood := { row := optionBytesUptoRow, standIns := [], harness := (true, "cf3ed86f7a724b7ea3ee4f017bd63dddf045c9f5349574e4a151eb249f9b1695"), looks := false }, kinds := [], alts := [], laidByText := true, laidKinds := [.data], laidTests := true, laidLooks := .later }
def OptionBytesUptoCardSaid : Prop := Claim7.holds Tryd.pinned (.plain (OpenSpec.upto optionBytesSpec)) optionBytesUptoCard

/-- THE SECOND FORM's CARD OF 'rivuletlaw07.OptionDecodes'. -/
def optionDecodesUptoCard : Claim7 := { stood := { row := optionDecodesUptoRow, standIns := [], harness := (true, "cf3ed86f7a724b7ea3ee4f017bd63dddf045c9f5349574e4a151eb249f9b1695"), looks := false }, kinds := [], alts := [], laidByText := true, laidKinds := [.data], laidTests := true, laidLooks := .later }
def OptionDecodesUptoCardSaid : Prop := Claim7.holds Tryd.pinned (.plain (OpenSpec.upto optionDecodesSpec)) optionDecodesUptoCard

/-- THE SECOND FORM's CARD OF 'rivuletlaw07.OptionFinds'. -/
def optionFindsUptoCard : Claim7 := { stood := { row := optionFindsUptoRow, standIns := [], harness := (true, "cf3ed86f7a724b7ea3ee4f017bd63dddf045c9f5349574e4a151eb249f9b1695"), looks := false }, kinds := [], alts := [], laidByText := true, laidKinds := [.data], laidTests := true, laidLooks := .later }
def OptionFindsUptoCardSaid : Prop := Claim7.holds Tryd.pinned (.plain (OpenSpec.upto optionFindsSpec)) optionFindsUptoCard

/-- THE SECOND FORM's CARD OF 'rivuletlaw07.OptionJoins'. -/
def optionJoinsUptoCard : Claim7 := { stood := { row := optionJoinsUptoRow, standIns := [], harness := (true, "cf3ed86f7a724b7ea3ee4f017bd63dddf045c9f5349574e4a151eb249f9b1695"), looks := false }, kinds := [], alts := [], laidByText := true, laidKinds := [.data], laidTests := true, laidLooks := .later }
def OptionJoinsUptoCardSaid : Prop := Claim7.holds Tryd.pinned (.plain (OpenSpec.upto optionJoinsSpec)) optionJoinsUptoCard
end Rows
end Go.Proofs.YtbgogeojdibmkaaDoor

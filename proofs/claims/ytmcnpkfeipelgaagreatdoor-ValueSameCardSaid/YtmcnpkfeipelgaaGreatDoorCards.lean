/-
  DERIVED. GIVEN WITH THE SEED: THE CARDS: each row of YtmcnpkfeipelgaaGreatDoorRows.lean that lists a variable, with what it lists TIED to the program's text (the seventh form; the later family's looks); each row that meets fmt, with fmt's text TOLD by the authors' own Lean function (tested against real Go, not proved from fmt's source: count such statements apart). THE CARD IS WHAT COUNTS. Prove the row's statement (the work); the ties are given (YtmcnpkfeipelgaaGreatDoorTie.lean); close each card by the builder's one call (the guide's Derived/Test/ToyasCard.lean, 'card_holds'). Laid BY PROGRAM, IN A SANDBOX (cutbox-door.mjs). By AI agents, Wed Nov 11 2026. No macro, syntax, notation, axiom, sorry.
-/
import Derived.Test.YtmcnpkfeipelgaaGreatDoorRows
import GoSem.ClaimSeven
namespace Go.Proofs.YtmcnpkfeipelgaaGreatDoor
namespace Rows

/-- THE TIED CARD OF 'peeragelaw13.ValueFlags'. -/
def valueFlagsCard : Claim7 := { stood := { row := valueFlagsRow, standIns := [], harness := (true, "9eef3f9c235417bb7d3571d67b0b188dd79d3380bdd783323f4c52fa8cfe84a1"), looks := true }, kinds := [], alts := [], laidByText := true, laidKinds := [.data, .data, .data, .data], laidTests := true, laidLooks := .later }
def ValueFlagsCardSaid : Prop := Claim7.holds Tryz.pinned (.plain (OpenSpec.ofChange valueFlagsSpec)) valueFlagsCard

/-- THE TIED CARD OF 'peeragelaw13.ValueSame'. -/
def valueSameCard : Claim7 := { stood := { row := valueSameRow, standIns := [], harness := (true, "9eef3f9c235417bb7d3571d67b0b188dd79d3380bdd783323f4c52fa8cfe84a1"), looks := true }, kinds := [], alts := [], laidByText := true, laidKinds := [.data, .data, .data], laidTests := true, laidLooks := .later }
def ValueSameCardSaid : Prop := Claim7.holds Tryz.pinned (.plain (OpenSpec.ofChange valueSameSpec)) valueSameCard

/-- THE TIED CARD OF 'peeragelaw13.ValueForms'. -/
def valueFormsCard : Claim7 := { stood := { row := valueFormsRow, standIns := [], harness := (true, "9eef3f9c235417bb7d3571d67b0b188dd79d3380bdd783323f4c52fa8cfe84a1"), looks := true }, kinds := [], alts := [], laidByText := true, laidKinds := [.data, .data, .data], laidTests := true, laidLooks := .later }
def ValueFormsCardSaid : Prop := Claim7.holds Tryz.pinned (.plain (OpenSpec.ofChange valueFormsSpec)) valueFormsCard

/-- THE TIED CARD OF 'peeragelaw13.ValueInverse'. -/
def valueInverseCard : Claim7 := { stood := { row := valueInverseRow, standIns := [], harness := (true, "9eef3f9c235417bb7d3571d67b0b188dd79d3380bdd783323f4c52fa8cfe84a1"), looks := true }, kinds := [], alts := [], laidByText := true, laidKinds := [.data, .data, .data, .data], laidTests := true, laidLooks := .later }
def ValueInverseCardSaid : Prop := Claim7.holds Tryz.pinned (.plain (OpenSpec.ofChange valueInverseSpec)) valueInverseCard

/-- THE TIED CARD OF 'peeragelaw13.ValueReads'. -/
def valueReadsCard : Claim7 := { stood := { row := valueReadsRow, standIns := [], harness := (true, "9eef3f9c235417bb7d3571d67b0b188dd79d3380bdd783323f4c52fa8cfe84a1"), looks := true }, kinds := [], alts := [], laidByText := true, laidKinds := [.data, .data, .data, .data], laidTests := true, laidLooks := .later }
def ValueReadsCardSaid : Prop := Claim7.holds Tryz.pinned (.plain (OpenSpec.ofChange valueReadsSpec)) valueReadsCard

/-- THE TIED CARD OF 'peeragelaw13.ValueApart'. -/
def valueApartCard : Claim7 := { stood := { row := valueApartRow, standIns := [], harness := (true, "9eef3f9c235417bb7d3571d67b0b188dd79d3380bdd783323f4c52fa8cfe84a1"), looks := true }, kinds := [], alts := [], laidByText := true, laidKinds := [.data, .data, .data], laidTests := true, laidLooks := .later }
def ValueApartCardSaid : Prop := Claim7.holds Tryz.pinned (.plain (OpenSpec.ofChange valueApartSpec)) valueApartCard

/-- THE SECOND FORM's CARD OF 'peeragelaw13.ValueFlags'. -/
def valueFlagsUptoCard : Claim7 := { stood := { row := valueFlagsUptoRow, standIns := [], harness := (true, "9eef3f9c235417bb7d3571d67b0b188dd79d3380bdd783323f4c52fa8cfe84a1"), looks := true }, kinds := [], alts := [], laidByText := true, laidKinds := [.data, .data, .data, .data], laidTests := true, laidLooks := .later }
def ValueFlagsUptoCardSaid : Prop := Claim7.holds Tryz.pinned (.plain (OpenSpec.upto valueFlagsSpec)) valueFlagsUptoCard

/-- THE SECOND FORM's CARD OF 'peeragelaw13.ValueSame'. -/
def valueSameUptoCard : Claim7 := { stood := { row := valueSameUptoRow, standIns := [], harness := (true, "9eef3f9c235417bb7d3571d67b0b188dd79d3380bdd783323f4c52fa8cfe84a1"), looks := true }, kinds := [], alts := [], laidByText := true, laidKinds := [.data, .data, .data], laidTests := true, laidLooks := .later }
def ValueSameUptoCardSaid : Prop := Claim7.holds Tryz.pinned (.plain (OpenSpec.upto valueSameSpec)) valueSameUptoCard

/-- THE SECOND FORM's CARD OF 'peeragelaw13.ValueForms'. -/
def valueFormsUptoCard : Claim7 := { stood := { row := valueFormsUptoRow, standIns := [], harness := (true, "9eef3f9c235417bb7d3571d67b0b188dd79d3380bdd783323f4c52fa8cfe84a1"), looks := true }, kinds := [], alts := [], laidByText := true, laidKinds := [.data, .data, .data], laidTests := true, laidLooks := .later }
def ValueFormsUptoCardSaid : Prop := Claim7.holds Tryz.pinned (.plain (OpenSpec.upto valueFormsSpec)) valueFormsUptoCard

/-- THE SECOND FORM's CARD OF 'peeragelaw13.ValueInverse'. -/
def valueInverseUptoCard : Claim7 := { stood := { row := valueInverseUptoRow, standIns := [], harness := (true, "9eef3f9c235417bb7d3571d67b0b188dd79d3380bdd783323f4c52fa8cfe84a1"), looks := true }, kinds := [], alts := [], laidByText := true, laidKinds := [.data, .data, .data, .data], laidTests := true, laidLooks := .later }
def ValueInverseUptoCardSaid : Prop := Claim7.holds Tryz.pinned (.plain (OpenSpec.upto valueInverseSpec)) valueInverseUptoCard

/-- THE SECOND FORM's CARD OF 'peeragelaw13.ValueReads'. -/
def valueReadsUptoCard : Claim7 := { stood := { row := valueReadsUptoRow, standIns := [], harness := (true, "9eef3f9c235417bb7d3571d67b0b188dd79d3380bdd783323f4c52fa8cfe84a1"), looks := true }, kinds := [], alts := [], laidByText := true, laidKinds := [.data, .data, .data, .data], laidTests := true, laidLooks := .later }
def ValueReadsUptoCardSaid : Prop := Claim7.holds Tryz.pinned (.plain (OpenSpec.upto valueReadsSpec)) valueReadsUptoCard

/-- THE SECOND FORM's CARD OF 'peeragelaw13.ValueApart'. -/
def valueApartUptoCard : Claim7 := { stood := { row := valueApartUptoRow, standIns := [], harness := (true, "9eef3f9c235417bb7d3571d67b0b188dd79d3380bdd783323f4c52fa8cfe84a1"), looks := true }, kinds := [], alts := [], laidByText := true, laidKinds := [.data, .data, .data], laidTests := true, laidLooks := .later }
def ValueApartUptoCardSaid : Prop := Claim7.holds Tryz.pinned (.plain (OpenSpec.upto valueApartSpec)) valueApartUptoCard
end Rows
end Go.Proofs.YtmcnpkfeipelgaaGreatDoor

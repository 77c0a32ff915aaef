/-
  DERIVED. GIVEN WITH THE SEED: THE CARDS: each row of YtecbbjdcnlocdaaDoorRows.lean that lists a variable, with what it lists TIED to the program's text (the seventh form; the later family's looks); each row that meets fmt, with fmt's text TOLD by the authors' own Lean function (tested against real Go, not proved from fmt's source: count such statements apart). THE CARD IS WHAT COUNTS. Prove the row's statement (the work); the ties are given (YtecbbjdcnlocdaaDoorTie.lean); close each card by the builder's one call (the guide's Derived/Test/ToyasCard.lean, 'card_holds'). Laid BY PROGRAM, IN A SANDBOX (cutbox-door.mjs). By AI agents, Wed Nov 11 2026. No macro, syntax, notation, axiom, sorry.
-/
import Derived.Test.YtecbbjdcnlocdaaDoorRows
import GoSem.ClaimSeven
namespace Go.Proofs.YtecbbjdcnlocdaaDoor
namespace Rows

/-- THE TIED CARD OF 'peeragelaw06.SegmentForms'. -/
def segmentFormsCard : Claim7 := { stood := { row := segmentFormsRow, standIns := [], harness := (true, "333937e5300763c63f25d8326a4b4572ae4cfbdd3d6998ce033ee94677b78947"), looks := true }, kinds := [], alts := [], laidByText := true, laidKinds := [.data, .data, .data, .data, .sentinel, .sentinel, .data, .pinned], laidTests := true, laidLooks := .later }
def SegmentFormsCardSaid : Prop := Claim7.holds Tryd.pinned (.plain (OpenSpec.ofChange segmentFormsSpec)) segmentFormsCard

/-- THE TIED CARD OF 'peeragelaw06.SegmentParses'. -/
def segmentParsesCard : Claim7 := { stood := { row := segmentParsesRow, standIns := [], harness := (true, "333937e5300763c63f25d8326a4b4572ae4cfbdd3d6998ce033ee94677b78947"), looks := true }, kinds := [], alts := [], laidByText := true, laidKinds := [.data, .data, .data, .data, .sentinel, .sentinel, .data, .pinned], laidTests := true, laidLooks := .later }
def SegmentParsesCardSaid : Prop := Claim7.holds Tryd.pinned (.plain (OpenSpec.ofChange segmentParsesSpec)) segmentParsesCard

/-- THE TIED CARD OF 'peeragelaw02.PrefixForms'. -/
def prefixFormsCard : Claim7 := { stood := { row := prefixFormsRow, standIns := [], harness := (true, "333937e5300763c63f25d8326a4b4572ae4cfbdd3d6998ce033ee94677b78947"), looks := true }, kinds := [], alts := [], laidByText := true, laidKinds := [.data, .data, .data, .data, .sentinel, .sentinel, .pinned], laidTests := true, laidLooks := .later }
def PrefixFormsCardSaid : Prop := Claim7.holds Tryd.pinned (.plain (OpenSpec.ofChange prefixFormsSpec)) prefixFormsCard

/-- THE TIED CARD OF 'peeragelaw02.PrefixParses'. -/
def prefixParsesCard : Claim7 := { stood := { row := prefixParsesRow, standIns := [], harness := (true, "333937e5300763c63f25d8326a4b4572ae4cfbdd3d6998ce033ee94677b78947"), looks := true }, kinds := [], alts := [], laidByText := true, laidKinds := [.data, .data, .data, .data, .sentinel, .sentinel, .pinned], laidTests := true, laidLooks := .later }
def PrefixParsesCardSaid : Prop := Claim7.holds Tryd.pinned (.plain (OpenSpec.ofChange prefixParsesSpec)) prefixParsesCard

/-- THE TIED CARD OF 'peeragelaw12.MpTexts'. -/
def mpTextsCard : Claim7 := { stood := { row := mpTextsRow, standIns := [], harness := (true, "333937e5300763c63f25d8326a4b4572ae4cfbdd3d6998ce033ee94677b78947"), looks := true }, kinds := [], alts := [], laidByText := true, laidKinds := [.data, .data, .data, .data], laidTests := true, laidLooks := .later }
def MpTextsCardSaid : Prop := Claim7.holds Tryd.pinned (.plain (OpenSpec.ofChange mpTextsSpec)) mpTextsCard

/-- THE SECOND FORM's CARD OF 'peeragelaw06.SegmentForms'. -/
def segmentFormsUptoCard : Claim7 := { stood := { row := segmentFormsUptoRow, standIns := [], harness := (true, "333937e5300763c63f25d8326a4b4572ae4cfbdd3d6998ce033ee94677b78947"), looks := true }, kinds := [], alts := [], laidByText := true, laidKinds := [.data, .data, .data, .data, .sentinel, .sentinel, .data, .pinned], laidTests := true, laidLooks := .later }
def SegmentFormsUptoCardSaid : Prop := Claim7.holds Tryd.pinned (.plain (OpenSpec.upto segmentFormsSpec)) segmentFormsUptoCard

/-- THE SECOND FORM's CARD OF 'peeragelaw06.SegmentParses'. -/
def segmentParsesUptoCard : Claim7 := { stood := { row := segmentParsesUptoRow, standIns := [], harness := (true, "333937e5300763c63f25d8326a4b4572ae4cfbdd3d6998ce033ee94677b78947"), looks := true }, kinds := [], alts := [], laidByText := true, laidKinds := [.data, .data, .data, .data, .sentinel, .sentinel, .data, .pinned], laidTests := true, laidLooks := .later }
def SegmentParsesUptoCardSaid : Prop := Claim7.holds Tryd.pinned (.plain (OpenSpec.upto segmentParsesSpec)) segmentParsesUptoCard

/-- THE SECOND FORM's CARD OF 'peeragelaw02.PrefixForms'. -/
def prefixFormsUptoCard : Claim7 := { stood := { row := prefixFormsUptoRow, standIns := [], harness := (true, "333937e5300763c63f25d8326a4b4572ae4cfbdd3d6998ce033ee94677b78947"), looks := true }, kinds := [], alts := [], laidByText := true, laidKinds := [.data, .data, .data, .data, .sentinel, .sentinel, .pinned], laidTests := true, laidLooks := .later }
def PrefixFormsUptoCardSaid : Prop := Claim7.holds Tryd.pinned (.plain (OpenSpec.upto prefixFormsSpec)) prefixFormsUptoCard

/-- THE SECOND FORM's CARD OF 'peeragelaw02.PrefixParses'. -/
def prefixParsesUptoCard : Claim7 := { stood := { row := prefixParsesUptoRow, standIns := [], harness := (true, "333937e5300763c63f25d8326a4b4572ae4cfbdd3d6998ce033ee94677b78947"), looks := true }, kinds := [], alts := [], laidByText := true, laidKinds := [.data, .data, .data, .data, .sentinel, .sentinel, .pinned], laidTests := true, laidLooks := .later }
def PrefixParsesUptoCardSaid : Prop := Claim7.holds Tryd.pinned (.plain (OpenSpec.upto prefixParsesSpec)) prefixParsesUptoCard

/-- THE SECOND FORM's CARD OF 'peeragelaw12.MpTexts'. -/
def mpTextsUptoCard : Claim7 := { stood := { row := mpTextsUptoRow, standIns := [], harness := (true, "333937e5300763c63f25d8326a4b4572ae4cfbdd3d6998ce033ee94677b78947"), looks := true }, kinds := [], alts := [], laidByText := true, laidKinds := [.data, .data, .data, .data], laidTests := true, laidLooks := .later }
def MpTextsUptoCardSaid : Prop := Claim7.holds Tryd.pinned (.plain (OpenSpec.upto mpTextsSpec)) mpTextsUptoCard
end Rows
end Go.Proofs.YtecbbjdcnlocdaaDoor

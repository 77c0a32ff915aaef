/-
  DERIVED. GIVEN WITH THE SEED: THE CARDS: each row of YtaopinecidddkaaDoorRows.lean that lists a variable, with what it lists TIED to the program's text (the seventh form; the later family's looks); each row that meets fmt, with fmt's text TOLD by the authors' own Lean function (tested against real Go, not proved from fmt's source: count such statements apart). THE CARD IS WHAT COUNTS. Prove the row's statement (the work); the ties are given (YtaopinecidddkaaDoorTie.lean); close each card by the builder's one call (the guide's Derived/Test/ToyasCard.lean, 'card_holds'). Laid BY PROGRAM, IN A SANDBOX (cutbox-door.mjs). By AI agents, Wed Nov 11 2026. No macro, syntax, notation, axiom, sorry.
-/
import Derived.Test.YtaopinecidddkaaDoorRows
import GoSem.ClaimSeven
namespace Go.Proofs.YtaopinecidddkaaDoor
namespace Rows

/-- THE TIED CARD OF 'peeragelaw18.NoticeVerdicts'. -/
def noticeVerdictsCard : Claim7 := { stood := { row := noticeVerdictsRow, standIns := [], harness := (true, "31e8d2d0fa3894f53d0b4823c11490964172524901ecdab06556dabc90859df2"), looks := false }, kinds := [], alts := [], laidByText := true, laidKinds := [.data, .data, .data, .data], laidTests := true, laidLooks := .later }
def NoticeVerdictsCardSaid : Prop := Claim7.holds Tryd.pinned (.plain (OpenSpec.ofChange noticeVerdictsSpec)) noticeVerdictsCard

/-- THE TIED CARD OF 'peeragelaw11.FindingFolds'. -/
def findingFoldsCard : Claim7 := { stood := { row := findingFoldsRow, standIns := [], harness := (true, "31e8d2d0fa3894f53d0b4823c11490964172524901ecdab06556dabc90859df2"), looks := false }, kinds := [], alts := [], laidByText := true, laidKinds := [.data, .data, .data], laidTests := true, laidLooks := .later }
def FindingFoldsCardSaid : Prop := Claim7.holds Tryd.pinned (.plain (OpenSpec.ofChange findingFoldsSpec)) findingFoldsCard

/-- THE TIED CARD OF 'peeragelaw05.OptionTexts'. -/
def optionTextsCard : Claim7 := { stood := { row := optionTextsRow, standIns := [], harness := (true, "31e8d2d0fa3894f53d0b4823c11490964172524901ecdab06556dabc90859df2"), looks := false }, kinds := [], alts := [], laidByText := true, laidKinds := [.data, .pinned], laidTests := true, laidLooks := .later }
def OptionTextsCardSaid : Prop := Claim7.holds Tryd.pinned (.plain (OpenSpec.ofChange optionTextsSpec)) optionTextsCard

/-- THE TIED CARD OF 'peeragelaw05.OptionNames'. -/
def optionNamesCard : Claim7 := { stood := { row := optionNamesRow, standIns := [], harness := (true, "31e8d2d0fa3894f53d0b4823c11490964172524901ecdab06556dabc90859df2"), looks := false }, kinds := [], alts := [], laidByText := true, laidKinds := [.listed, .data], laidTests := true, laidLooks := .later }
def OptionNamesCardSaid : Prop := Claim7.holds Tryd.pinned (.plain (OpenSpec.ofChange optionNamesSpec)) optionNamesCard

/-- THE TIED CARD OF 'peeragelaw06.SegmentSame'. -/
def segmentSameCard : Claim7 := { stood := { row := segmentSameRow, standIns := [], harness := (true, "31e8d2d0fa3894f53d0b4823c11490964172524901ecdab06556dabc90859df2"), looks := false }, kinds := [], alts := [], laidByText := true, laidKinds := [.data, .data, .data, .data], laidTests := true, laidLooks := .later }
def SegmentSameCardSaid : Prop := Claim7.holds Tryd.pinned (.plain (OpenSpec.ofChange segmentSameSpec)) segmentSameCard

/-- THE TIED CARD OF 'peeragelaw06.SegmentLengths'. -/
def segmentLengthsCard : Claim7 := { stood := { row := segmentLengthsRow, standIns := [], harness := (true, "31e8d2d0fa3894f53d0b4823c11490964172524901ecdab06556dabc90859df2"), looks := false }, kinds := [], alts := [], laidByText := true, laidKinds := [.data, .data, .data, .data], laidTests := true, laidLooks := .later }
def SegmentLengthsCardSaid : Prop := Claim7.holds Tryd.pinned (.plain (OpenSpec.ofChange segmentLengthsSpec)) segmentLengthsCard

/-- THE TIED CARD OF 'peeragelaw06.SegmentReads'. -/
def segmentReadsCard : Claim7 := { stood := { row := segmentReadsRow, standIns := [], harness := (true, "31e8d2d0fa3894f53d0b4823c11490964172524901ecdab06556dabc90859df2"), looks := false }, kinds := [], alts := [], laidByText := true, laidKinds := [.data, .data, .data, .data], laidTests := true, laidLooks := .later }
def SegmentReadsCardSaid : Prop := Claim7.holds Tryd.pinned (.plain (OpenSpec.ofChange segmentReadsSpec)) segmentReadsCard

/-- THE SECOND FORM's CARD OF 'peeragelaw18.NoticeVerdicts'. -/
def noticeVerdictsUptoCard : Claim7 := { stood := { row := noticeVerdictsUptoRow, standIns := [], harness := (true, "31e8d2d0fa3894f53d0b4823c11490964172524901ecdab06556dabc90859df2"), looks := false }, kinds := [], alts := [], laidByText := true, laidKinds := [.data, .data, .data, .data], laidTests := true, laidLooks := .later }
def NoticeVerdictsUptoCardSaid : Prop := Claim7.holds Tryd.pinned (.plain (OpenSpec.upto noticeVerdictsSpec)) noticeVerdictsUptoCard

/-- THE SECOND FORM's CARD OF 'peeragelaw11.FindingFolds'. -/
def findingFoldsUptoCard : Claim7 := { stood := { row := findingFoldsUptoRow, standIns := [], harness := (true, "31e8d2d0fa3894f53d0b4823c11490964172524901ecdab06556dabc90859df2"), looks := false }, kinds := [], alts := [], laidByText := true, laidKinds := [.data, .data, .data], laidTests := true, laidLooks := .later }
def FindingFoldsUptoCardSaid : Prop := Claim7.holds Tryd.pinned (.plain (OpenSpec.upto findingFoldsSpec)) findingFoldsUptoCard

/-- THE SECOND FORM's CARD OF 'peeragelaw05.OptionTexts'. -/
def optionTextsUptoCard : Claim7 := { stood := { row := optionTextsUptoRow, standIns := [], harness := (true, "31e8d2d0fa3894f53d0b4823c11490964172524901ecdab06556dabc90859df2"), looks := false }, kinds := [], alts := [], laidByText := true, laidKinds := [.data, .pinned], laidTests := true, laidLooks := .later }
def OptionTextsUptoCardSaid : Prop := Claim7.holds Tryd.pinned (.plain (OpenSpec.upto optionTextsSpec)) optionTextsUptoCard

/-- THE SECOND FORM's CARD OF 'peeragelaw05.OptionNames'. -/
def optionNamesUptoCard : Claim7 := { stood := { row := optionNamesUptoRow, standIns := [], harness := (true, "31e8d2d0fa3894f53d0b4823c11490964172524901ecdab06556dabc90859df2"), looks := false }, kinds := [], alts := [], laidByText := true, laidKinds := [.listed, .data], laidTests := true, laidLooks := .later }
def OptionNamesUptoCardSaid : Prop := Claim7.holds Tryd.pinned (.plain (OpenSpec.upto optionNamesSpec)) optionNamesUptoCard

/-- THE SECOND FORM's CARD OF 'peeragelaw06.SegmentSame'. -/
def segmentSameUptoCard : Claim7 := { stood := { row := segmentSameUptoRow, standIns := [], harness := (true, "31e8d2d0fa3894f53d0b4823c11490964172524901ecdab06556dabc90859df2"), looks := false }, kinds := [], alts := [], laidByText := true, laidKinds := [.data, .data, .data, .data], laidTests := true, laidLooks := .later }
def SegmentSameUptoCardSaid : Prop := Claim7.holds Tryd.pinned (.plain (OpenSpec.upto segmentSameSpec)) segmentSameUptoCard

/-- THE SECOND FORM's CARD OF 'peeragelaw06.SegmentLengths'. -/
def segmentLengthsUptoCard : Claim7 := { stood := { row := segmentLengthsUptoRow, standIns := [], harness := (true, "31e8d2d0fa3894f53d0b4823c11490964172524901ecdab06556dabc90859df2"), looks := false }, kinds := [], alts := [], laidByText := true, laidKinds := [.data, .data, .data, .data], laidTests := true, laidLooks := .later }
def SegmentLengthsUptoCardSaid : Prop := Claim7.holds Tryd.pinned (.plain (OpenSpec.upto segmentLengthsSpec)) segmentLengthsUptoCard

/-- THE SECOND FORM's CARD OF 'peeragelaw06.SegmentReads'. -/
def segmentReadsUptoCard : Claim7 := { stood := { row := segmentReadsUptoRow, standIns := [], harness := (true, "31e8d2d0fa3894f53d0b4823c11490964172524901ecdab06556dabc90859df2"), looks := false }, kinds := [], alts := [], laidByText := true, laidKinds := [.data, .data, .data, .data], laidTests := true, laidLooks := .later }
def SegmentReadsUptoCardSaid : Prop := Claim7.holds Tryd.pinned (.plain (OpenSpec.upto segmentReadsSpec)) segmentReadsUptoCard
end Rows
end Go.Proofs.YtaopinecidddkaaDoor

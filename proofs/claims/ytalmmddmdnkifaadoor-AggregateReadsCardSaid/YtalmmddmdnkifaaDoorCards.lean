/-
  DERIVED. GIVEN WITH THE SEED: THE CARDS: each row of YtalmmddmdnkifaaDoorRows.lean that lists a variable, with what it lists TIED to the program's text (the seventh form; the later family's looks); each row that meets fmt, with fmt's text TOLD by the authors' own Lean function (tested against real Go, not proved from fmt's source: count such statements apart). THE CARD IS WHAT COUNTS. Prove the row's statement (the work); the ties are given (YtalmmddmdnkifaaDoorTie.lean); close each card by the builder's one call (the guide's Derived/Test/ToyasCard.lean, 'card_holds'). Laid BY PROGRAM, IN A SANDBOX (cutbox-door.mjs). By AI agents, Wed Nov 11 2026. No macro, syntax, notation, axiom, sorry.
-/
import Derived.Test.YtalmmddmdnkifaaDoorRows
import GoSem.ClaimSeven
namespace Go.Proofs.YtalmmddmdnkifaaDoor
namespace Rows

/-- THE TIED CARD OF 'peeragelaw18.NoticeSame'. -/
def noticeSameCard : Claim7 := { stood := { row := noticeSameRow, standIns := [], harness := (true, "3ed75af53d337592da6013064210790dece2cfaa0c87a1bf26c8f29ad0e4b4f4"), looks := false }, kinds := [], alts := [], laidByText := true, laidKinds := [.data, .data, .data, .data], laidTests := true, laidLooks := .later }
def NoticeSameCardSaid : Prop := Claim7.holds Tryd.pinned (.plain (OpenSpec.ofChange noticeSameSpec)) noticeSameCard

/-- THE TIED CARD OF 'peeragelaw18.NoticeParses'. -/
def noticeParsesCard : Claim7 := { stood := { row := noticeParsesRow, standIns := [], harness := (true, "3ed75af53d337592da6013064210790dece2cfaa0c87a1bf26c8f29ad0e4b4f4"), looks := false }, kinds := [], alts := [], laidByText := true, laidKinds := [.data, .data, .data, .data], laidTests := true, laidLooks := .later }
def NoticeParsesCardSaid : Prop := Claim7.holds Tryd.pinned (.plain (OpenSpec.ofChange noticeParsesSpec)) noticeParsesCard

/-- THE TIED CARD OF 'peeragelaw18.NoticeVerdicts'. -/
def noticeVerdictsCard : Claim7 := { stood := { row := noticeVerdictsRow, standIns := [], harness := (true, "3ed75af53d337592da6013064210790dece2cfaa0c87a1bf26c8f29ad0e4b4f4"), looks := false }, kinds := [], alts := [], laidByText := true, laidKinds := [.data, .data, .data, .data], laidTests := true, laidLooks := .later }
def NoticeVerdictsCardSaid : Prop := Claim7.holds Tryd.pinned (.plain (OpenSpec.ofChange noticeVerdictsSpec)) noticeVerdictsCard

/-- THE TIED CARD OF 'peeragelaw18.NoticeNames'. -/
def noticeNamesCard : Claim7 := { stood := { row := noticeNamesRow, standIns := [], harness := (true, "3ed75af53d337592da6013064210790dece2cfaa0c87a1bf26c8f29ad0e4b4f4"), looks := false }, kinds := [], alts := [], laidByText := true, laidKinds := [.data, .data, .data, .data], laidTests := true, laidLooks := .later }
def NoticeNamesCardSaid : Prop := Claim7.holds Tryd.pinned (.plain (OpenSpec.ofChange noticeNamesSpec)) noticeNamesCard

/-- THE TIED CARD OF 'peeragelaw18.NoticeForms'. -/
def noticeFormsCard : Claim7 := { stood := { row := noticeFormsRow, standIns := [], harness := (true, "3ed75af53d337592da6013064210790dece2cfaa0c87a1bf26c8f29ad0e4b4f4"), looks := false }, kinds := [], alts := [], laidByText := true, laidKinds := [.data, .data, .data, .data], laidTests := true, laidLooks := .later }
def NoticeFormsCardSaid : Prop := Claim7.holds Tryd.pinned (.plain (OpenSpec.ofChange noticeFormsSpec)) noticeFormsCard

/-- THE TIED CARD OF 'peeragelaw07.BasicReads'. -/
def basicReadsCard : Claim7 := { stood := { row := basicReadsRow, standIns := [], harness := (true, "3ed75af53d337592da6013064210790dece2cfaa0c87a1bf26c8f29ad0e4b4f4"), looks := false }, kinds := [], alts := [], laidByText := true, laidKinds := [.data, .data, .data], laidTests := true, laidLooks := .later }
def BasicReadsCardSaid : Prop := Claim7.holds Tryd.pinned (.plain (OpenSpec.ofChange basicReadsSpec)) basicReadsCard

/-- THE TIED CARD OF 'peeragelaw07.BasicLengths'. -/
def basicLengthsCard : Claim7 := { stood := { row := basicLengthsRow, standIns := [], harness := (true, "3ed75af53d337592da6013064210790dece2cfaa0c87a1bf26c8f29ad0e4b4f4"), looks := false }, kinds := [], alts := [], laidByText := true, laidKinds := [.data, .data, .data], laidTests := true, laidLooks := .later }
def BasicLengthsCardSaid : Prop := Claim7.holds Tryd.pinned (.plain (OpenSpec.ofChange basicLengthsSpec)) basicLengthsCard

/-- THE TIED CARD OF 'peeragelaw07.BasicPlain'. -/
def basicPlainCard : Claim7 := { stood := { row := basicPlainRow, standIns := [], harness := (true, "3ed75af53d337592da6013064210790dece2cfaa0c87a1bf26c8f29ad0e4b4f4"), looks := false }, kinds := [], alts := [], laidByText := true, laidKinds := [.data, .data, .data], laidTests := true, laidLooks := .later }
def BasicPlainCardSaid : Prop := Claim7.holds Tryd.pinned (.plain (OpenSpec.ofChange basicPlainSpec)) basicPlainCard

/-- THE TIED CARD OF 'peeragelaw07.BasicApart'. -/
def basicApartCard : Claim7 := { stood := { row := basicApartRow, standIns := [], harness := (true, "3ed75af53d337592da6013064210790dece2cfaa0c87a1bf26c8f29ad0e4b4f4"), looks := false }, kinds := [], alts := [], laidByText := true, laidKinds := [.data, .data, .data], laidTests := true, laidLooks := .later }
def BasicApartCardSaid : Prop := Claim7.holds Tryd.pinned (.plain (OpenSpec.ofChange basicApartSpec)) basicApartCard

/-- THE TIED CARD OF 'peeragelaw07.BasicForms'. -/
def basicFormsCard : Claim7 := { stood := { row := basicFormsRow, standIns := [], harness := (true, "3ed75af53d337592da6013064210790dece2cfaa0c87a1bf26c8f29ad0e4b4f4"), looks := false }, kinds := [], alts := [], laidByText := true, laidKinds := [.data, .data, .data], laidTests := true, laidLooks := .later }
def BasicFormsCardSaid : Prop := Claim7.holds Tryd.pinned (.plain (OpenSpec.ofChange basicFormsSpec)) basicFormsCard

/-- THE TIED CARD OF 'peeragelaw08.AggregateReads'. -/
def aggregateReadsCard : Claim7 := { stood := { row := aggregateReadsRow, standIns := [], harness := (true, "3ed75af53d337592da6013064210790dece2cfaa0c87a1bf26c8f29ad0e4b4f4"), looks := false }, kinds := [], alts := [], laidByText := true, laidKinds := [.data, .data, .data], laidTests := true, laidLooks := .later }
def AggregateReadsCardSaid : Prop := Claim7.holds Tryd.pinned (.plain (OpenSpec.ofChange aggregateReadsSpec)) aggregateReadsCard

/-- THE TIED CARD OF 'peeragelaw11.FindingFolds'. -/
def findingFoldsCard : Claim7 := { stood := { row := findingFoldsRow, standIns := [], harness := (true, "3ed75af53d337592da6013064210790dece2cfaa0c87a1bf26c8f29ad0e4b4f4"), looks := false }, kinds := [], alts := [], laidByText := true, laidKinds := [.data, .data, .data], laidTests := true, laidLooks := .later }
def FindingFoldsCardSaid : Prop := Claim7.holds Tryd.pinned (.plain (OpenSpec.ofChange findingFoldsSpec)) findingFoldsCard

/-- THE SECOND FORM's CARD OF 'peeragelaw18.NoticeSame'. -/
def noticeSameUptoCard : Claim7 := { stood := { row := noticeSameUptoRow, standIns := [], harness := (true, "3ed75af53d337592da6013064210790dece2cfaa0c87a1bf26c8f29ad0e4b4f4"), looks := false }, kinds := [], alts := [], laidByText := true, laidKinds := [.data, .data, .data, .data], laidTests := true, laidLooks := .later }
def NoticeSameUptoCardSaid : Prop := Claim7.holds Tryd.pinned (.plain (OpenSpec.upto noticeSameSpec)) noticeSameUptoCard

/-- THE SECOND FORM's CARD OF 'peeragelaw18.NoticeParses'. -/
def noticeParsesUptoCard : Claim7 := { stood := { row := noticeParsesUptoRow, standIns := [], harness := (true, "3ed75af53d337592da6013064210790dece2cfaa0c87a1bf26c8f29ad0e4b4f4"), looks := false }, kinds := [], alts := [], laidByText := true, laidKinds := [.data, .data, .data, .data], laidTests := true, laidLooks := .later }
def NoticeParsesUptoCardSaid : Prop := Claim7.holds Tryd.pinned (.plain (OpenSpec.upto noticeParsesSpec)) noticeParsesUptoCard

/-- THE SECOND FORM's CARD OF 'peeragelaw18.NoticeVerdicts'. -/
def noticeVerdictsUptoCard : Claim7 := { stood := { row := noticeVerdictsUptoRow, standIns := [], harness := (true, "3ed75af53d337592da6013064210790dece2cfaa0c87a1bf26c8f29ad0e4b4f4"), looks := false }, kinds := [], alts := [], laidByText := true, laidKinds := [.data, .data, .data, .data], laidTests := true, laidLooks := .later }
def NoticeVerdictsUptoCardSaid : Prop := Claim7.holds Tryd.pinned (.plain (OpenSpec.upto noticeVerdictsSpec)) noticeVerdictsUptoCard

/-- THE SECOND FORM's CARD OF 'peeragelaw18.NoticeNames'. -/
def noticeNamesUptoCard : Claim7 := { stood := { row := noticeNamesUptoRow, standIns := [], harness := (true, "3ed75af53d337592da6013064210790dece2cfaa0c87a1bf26c8f29ad0e4b4f4"), looks := false }, kinds := [], alts := [], laidByText := true, laidKinds := [.data, .data, .data, .data], laidTests := true, laidLooks := .later }
def NoticeNamesUptoCardSaid : Prop := Claim7.holds Tryd.pinned (.plain (OpenSpec.upto noticeNamesSpec)) noticeNamesUptoCard

/-- THE SECOND FORM's CARD OF 'peeragelaw18.NoticeForms'. -/
def noticeFormsUptoCard : Claim7 := { stood := { row := noticeFormsUptoRow, standIns := [], harness := (true, "3ed75af53d337592da6013064210790dece2cfaa0c87a1bf26c8f29ad0e4b4f4"), looks := false }, kinds := [], alts := [], laidByText := true, laidKinds := [.data, .data, .data, .data], laidTests := true, laidLooks := .later }
def NoticeFormsUptoCardSaid : Prop := Claim7.holds Tryd.pinned (.plain (OpenSpec.upto noticeFormsSpec)) noticeFormsUptoCard

/-- THE SECOND FORM's CARD OF 'peeragelaw07.BasicReads'. -/
def basicReadsUptoCard : Claim7 := { stood := { row := basicReadsUptoRow, standIns := [], harness := (true, "3ed75af53d337592da6013064210790dece2cfaa0c87a1bf26c8f29ad0e4b4f4"), looks := false }, kinds := [], alts := [], laidByText := true, laidKinds := [.data, .data, .data], laidTests := true, laidLooks := .later }
def BasicReadsUptoCardSaid : Prop := Claim7.holds Tryd.pinned (.plain (OpenSpec.upto basicReadsSpec)) basicReadsUptoCard

/-- THE SECOND FORM's CARD OF 'peeragelaw07.BasicLengths'. -/
def basicLengthsUptoCard : Claim7 := { stood := { row := basicLengthsUptoRow, standIns := [], harness := (true, "3ed75af53d337592da6013064210790dece2cfaa0c87a1bf26c8f29ad0e4b4f4"), looks := false }, kinds := [], alts := [], laidByText := true, laidKinds := [.data, .data, .data], laidTests := true, laidLooks := .later }
def BasicLengthsUptoCardSaid : Prop := Claim7.holds Tryd.pinned (.plain (OpenSpec.upto basicLengthsSpec)) basicLengthsUptoCard

/-- THE SECOND FORM's CARD OF 'peeragelaw07.BasicPlain'. -/
def basicPlainUptoCard : Claim7 := { stood := { row := basicPlainUptoRow, standIns := [], harness := (true, "3ed75af53d337592da6013064210790dece2cfaa0c87a1bf26c8f29ad0e4b4f4"), looks := false }, kinds := [], alts := [], laidByText := true, laidKinds := [.data, .data, .data], laidTests := true, laidLooks := .later }
def BasicPlainUptoCardSaid : Prop := Claim7.holds Tryd.pinned (.plain (OpenSpec.upto basicPlainSpec)) basicPlainUptoCard

/-- THE SECOND FORM's CARD OF 'peeragelaw07.BasicApart'. -/
def basicApartUptoCard : Claim7 := { stood := { row := basicApartUptoRow, standIns := [], harness := (true, "3ed75af53d337592da6013064210790dece2cfaa0c87a1bf26c8f29ad0e4b4f4"), looks := false }, kinds := [], alts := [], laidByText := true, laidKinds := [.data, .data, .data], laidTests := true, laidLooks := .later }
def BasicApartUptoCardSaid : Prop := Claim7.holds Tryd.pinned (.plain (OpenSpec.upto basicApartSpec)) basicApartUptoCard

/-- THE SECOND FORM's CARD OF 'peeragelaw07.BasicForms'. -/
def basicFormsUptoCard : Claim7 := { stood := { row := basicFormsUptoRow, standIns := [], harness := (true, "3ed75af53d337592da6013064210790dece2cfaa0c87a1bf26c8f29ad0e4b4f4"), looks := false }, kinds := [], alts := [], laidByText := true, laidKinds := [.data, .data, .data], laidTests := true, laidLooks := .later }
def BasicFormsUptoCardSaid : Prop := Claim7.holds Tryd.pinned (.plain (OpenSpec.upto basicFormsSpec)) basicFormsUptoCard

/-- THE SECOND FORM's CARD OF 'peeragelaw08.AggregateReads'. -/
def aggregateReadsUptoCard : Claim7 := { stood := { row := aggregateReadsUptoRow, standIns := [], harness := (true, "3ed75af53d337592da6013064210790dece2cfaa0c87a1bf26c8f29ad0e4b4f4"), looks := false }, kinds := [], alts := [], laidByText := true, laidKinds := [.data, .data, .data], laidTests := true, laidLooks := .later }
def AggregateReadsUptoCardSaid : Prop := Claim7.holds Tryd.pinned (.plain (OpenSpec.upto aggregateReadsSpec)) aggregateReadsUptoCard

/-- THE SECOND FORM's CARD OF 'peeragelaw11.FindingFolds'. -/
def findingFoldsUptoCard : Claim7 := { stood := { row := findingFoldsUptoRow, standIns := [], harness := (true, "3ed75af53d337592da6013064210790dece2cfaa0c87a1bf26c8f29ad0e4b4f4"), looks := false }, kinds := [], alts := [], laidByText := true, laidKinds := [.data, .data, .data], laidTests := true, laidLooks := .later }
def FindingFoldsUptoCardSaid : Prop := Claim7.holds Tryd.pinned (.plain (OpenSpec.upto findingFoldsSpec)) findingFoldsUptoCard
end Rows
end Go.Proofs.YtalmmddmdnkifaaDoor

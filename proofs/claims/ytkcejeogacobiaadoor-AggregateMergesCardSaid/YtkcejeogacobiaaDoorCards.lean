/-
  DERIVED. GIVEN WITH THE SEED: THE CARDS: each row of YtkcejeogacobiaaDoorRows.lean that lists a variable, with what it lists TIED to the program's text (the seventh form; the later family's looks); each row that meets fmt, with fmt's text TOLD by the authors' own Lean function (tested against real Go, not proved from fmt's source: count such statements apart). THE CARD IS WHAT COUNTS. Prove the row's statement (the work); the ties are given (YtkcejeogacobiaaDoorTie.lean); close each card by the builder's one call (the guide's Derived/Test/ToyasCard.lean, 'card_holds'). Laid BY PROGRAM, IN A SANDBOX (cutbox-door.mjs). By AI agents, Wed Nov 11 2026. No macro, syntax, notation, axiom, sorry.
-/
import Derived.Test.YtkcejeogacobiaaDoorRows
import GoSem.ClaimSeven
namespace Go.Proofs.YtkcejeogacobiaaDoor
namespace Rows

/-- THE TIED CARD OF 'peeragelaw07.BasicReads'. -/
def basicReadsCard : Claim7 := { stood := { row := basicReadsRow, standIns := [], harness := (true, "728341611bcddc549a024b6158251f79702c0514c04d55bb2b89ee14ea26d1a3"), looks := false }, kinds := [], alts := [], laidByText := true, laidKinds := [.data, .data, .data], laidTests := true, laidLooks := .later }
def BasicReadsCardSaid : Prop := Claim7.holds Tryd.pinned (.plain (OpenSpec.ofChange basicReadsSpec)) basicReadsCard

/-- THE TIED CARD OF 'peeragelaw07.BasicLengths'. -/
def basicLengthsCard : Claim7 := { stood := { row := basicLengthsRow, standIns := [], harness := (true, "728341611bcddc549a024b6158251f79702c0514c04d55bb2b89ee14ea26d1a3"), looks := false }, kinds := [], alts := [], laidByText := true, laidKinds := [.data, .data, .data], laidTests := true, laidLooks := .later }
def BasicLengthsCardSaid : Prop := Claim7.holds Tryd.pinned (.plain (OpenSpec.ofChange basicLengthsSpec)) basicLengthsCard

/-- THE TIED CARD OF 'peeragelaw07.BasicPlain'. -/
def basicPlainCard : Claim7 := { stood := { row := basicPlainRow, standIns := [], harness := (true, "728341611bcddc549a024b6158251f79702c0514c04d55bb2b89ee14ea26d1a3"), looks := false }, kinds := [], alts := [], laidByText := true, laidKinds := [.data, .data, .data], laidTests := true, laidLooks := .later }
def BasicPlainCardSaid : Prop := Claim7.holds Tryd.pinned (.plain (OpenSpec.ofChange basicPlainSpec)) basicPlainCard

/-- THE TIED CARD OF 'peeragelaw07.BasicApart'. -/
def basicApartCard : Claim7 := { stood := { row := basicApartRow, standIns := [], harness := (true, "728341611bcddc549a024b6158251f79702c0514c04d55bb2b89ee14ea26d1a3"), looks := false }, kinds := [], alts := [], laidByText := true, laidKinds := [.data, .data, .data], laidTests := true, laidLooks := .later }
def BasicApartCardSaid : Prop := Claim7.holds Tryd.pinned (.plain (OpenSpec.ofChange basicApartSpec)) basicApartCard

/-- THE TIED CARD OF 'peeragelaw07.BasicForms'. -/
def basicFormsCard : Claim7 := { stood := { row := basicFormsRow, standIns := [], harness := (true, "728341611bcddc549a024b6158251f79702c0514c04d55bb2b89ee14ea26d1a3"), looks := false }, kinds := [], alts := [], laidByText := true, laidKinds := [.data, .data, .data], laidTests := true, laidLooks := .later }
def BasicFormsCardSaid : Prop := Claim7.holds Tryd.pinned (.plain (OpenSpec.ofChange basicFormsSpec)) basicFormsCard

/-- THE TIED CARD OF 'peeragelaw08.AggregateReads'. -/
def aggregateReadsCard : Claim7 := { stood := { row := aggregateReadsRow, standIns := [], harness := (true, "728341611bcddc549a024b6158251f79702c0514c04d55bb2b89ee14ea26d1a3"), looks := false }, kinds := [], alts := [], laidByText := true, laidKinds := [.data, .data, .data], laidTests := true, laidLooks := .later }
def AggregateReadsCardSaid : Prop := Claim7.holds Tryd.pinned (.plain (OpenSpec.ofChange aggregateReadsSpec)) aggregateReadsCard

/-- THE TIED CARD OF 'peeragelaw08.AggregateWidths'. -/
def aggregateWidthsCard : Claim7 := { stood := { row := aggregateWidthsRow, standIns := [], harness := (true, "728341611bcddc549a024b6158251f79702c0514c04d55bb2b89ee14ea26d1a3"), looks := false }, kinds := [], alts := [], laidByText := true, laidKinds := [.data, .data, .data], laidTests := true, laidLooks := .later }
def AggregateWidthsCardSaid : Prop := Claim7.holds Tryd.pinned (.plain (OpenSpec.ofChange aggregateWidthsSpec)) aggregateWidthsCard

/-- THE TIED CARD OF 'peeragelaw08.AggregateForms'. -/
def aggregateFormsCard : Claim7 := { stood := { row := aggregateFormsRow, standIns := [], harness := (true, "728341611bcddc549a024b6158251f79702c0514c04d55bb2b89ee14ea26d1a3"), looks := false }, kinds := [], alts := [], laidByText := true, laidKinds := [.data, .data, .data], laidTests := true, laidLooks := .later }
def AggregateFormsCardSaid : Prop := Claim7.holds Tryd.pinned (.plain (OpenSpec.ofChange aggregateFormsSpec)) aggregateFormsCard

/-- THE TIED CARD OF 'peeragelaw08.AggregateNarrows'. -/
def aggregateNarrowsCard : Claim7 := { stood := { row := aggregateNarrowsRow, standIns := [], harness := (true, "728341611bcddc549a024b6158251f79702c0514c04d55bb2b89ee14ea26d1a3"), looks := false }, kinds := [], alts := [], laidByText := true, laidKinds := [.data, .data, .data], laidTests := true, laidLooks := .later }
def AggregateNarrowsCardSaid : Prop := Claim7.holds Tryd.pinned (.plain (OpenSpec.ofChange aggregateNarrowsSpec)) aggregateNarrowsCard

/-- THE TIED CARD OF 'peeragelaw08.AggregateMerges'. -/
def aggregateMergesCard : Claim7 := { stood := { row := aggregateMergesRow, standIns := [], harness := (true, "728341611bcddc549a024b6158251f79702c0514c04d55bb2b89ee14ea26d1a3"), looks := false }, kinds := [], alts := [], laidByText := true, laidKinds := [.data, .data, .data], laidTests := true, laidLooks := .later }
def AggregateMergesCardSaid : Prop := Claim7.holds Tryd.pinned (.plain (OpenSpec.ofChange aggregateMergesSpec)) aggregateMergesCard

/-- THE TIED CARD OF 'peeragelaw11.FindingLogs'. -/
def findingLogsCard : Claim7 := { stood := { row := findingLogsRow, standIns := [], harness := (true, "728341611bcddc549a024b6158251f79702c0514c04d55bb2b89ee14ea26d1a3"), looks := false }, kinds := [], alts := [], laidByText := true, laidKinds := [.data, .data, .data], laidTests := true, laidLooks := .later }
def FindingLogsCardSaid : Prop := Claim7.holds Tryd.pinned (.plain (OpenSpec.ofChange findingLogsSpec)) findingLogsCard

/-- THE TIED CARD OF 'peeragelaw11.FindingKeeps'. -/
def findingKeepsCard : Claim7 := { stood := { row := findingKeepsRow, standIns := [], harness := (true, "728341611bcddc549a024b6158251f79702c0514c04d55bb2b89ee14ea26d1a3"), looks := false }, kinds := [], alts := [], laidByText := true, laidKinds := [.data, .data, .data], laidTests := true, laidLooks := .later }
def FindingKeepsCardSaid : Prop := Claim7.holds Tryd.pinned (.plain (OpenSpec.ofChange findingKeepsSpec)) findingKeepsCard

/-- THE SECOND FORM's CARD OF 'peeragelaw07.BasicReads'. -/
def basicReadsUptoCard : Claim7 := { stood := { row := basicReadsUptoRow, standIns := [], harness := (true, "728341611bcddc549a024b6158251f79702c0514c04d55bb2b89ee14ea26d1a3"), looks := false }, kinds := [], alts := [], laidByText := true, laidKinds := [.data, .data, .data], laidTests := true, laidLooks := .later }
def BasicReadsUptoCardSaid : Prop := Claim7.holds Tryd.pinned (.plain (OpenSpec.upto basicReadsSpec)) basicReadsUptoCard

/-- THE SECOND FORM's CARD OF 'peeragelaw07.BasicLengths'. -/
def basicLengthsUptoCard : Claim7 := { stood := { row := basicLengthsUptoRow, standIns := [], harness := (true, "728341611bcddc549a024b6158251f79702c0514c04d55bb2b89ee14ea26d1a3"), looks := false }, kinds := [], alts := [], laidByText := true, laidKinds := [.data, .data, .data], laidTests := true, laidLooks := .later }
def BasicLengthsUptoCardSaid : Prop := Claim7.holds Tryd.pinned (.plain (OpenSpec.upto basicLengthsSpec)) basicLengthsUptoCard

/-- THE SECOND FORM's CARD OF 'peeragelaw07.BasicPlain'. -/
def basicPlainUptoCard : Claim7 := { stood := { row := basicPlainUptoRow, standIns := [], harness := (true, "728341611bcddc549a024b6158251f79702c0514c04d55bb2b89ee14ea26d1a3"), looks := false }, kinds := [], alts := [], laidByText := true, laidKinds := [.data, .data, .data], laidTests := true, laidLooks := .later }
def BasicPlainUptoCardSaid : Prop := Claim7.holds Tryd.pinned (.plain (OpenSpec.upto basicPlainSpec)) basicPlainUptoCard

/-- THE SECOND FORM's CARD OF 'peeragelaw07.BasicApart'. -/
def basicApartUptoCard : Claim7 := { stood := { row := basicApartUptoRow, standIns := [], harness := (true, "728341611bcddc549a024b6158251f79702c0514c04d55bb2b89ee14ea26d1a3"), looks := false }, kinds := [], alts := [], laidByText := true, laidKinds := [.data, .data, .data], laidTests := true, laidLooks := .later }
def BasicApartUptoCardSaid : Prop := Claim7.holds Tryd.pinned (.plain (OpenSpec.upto basicApartSpec)) basicApartUptoCard

/-- THE SECOND FORM's CARD OF 'peeragelaw07.BasicForms'. -/
def basicFormsUptoCard : Claim7 := { stood := { row := basicFormsUptoRow, standIns := [], harness := (true, "728341611bcddc549a024b6158251f79702c0514c04d55bb2b89ee14ea26d1a3"), looks := false }, kinds := [], alts := [], laidByText := true, laidKinds := [.data, .data, .data], laidTests := true, laidLooks := .later }
def BasicFormsUptoCardSaid : Prop := Claim7.holds Tryd.pinned (.plain (OpenSpec.upto basicFormsSpec)) basicFormsUptoCard

/-- THE SECOND FORM's CARD OF 'peeragelaw08.AggregateReads'. -/
def aggregateReadsUptoCard : Claim7 := { stood := { row := aggregateReadsUptoRow, standIns := [], harness := (true, "728341611bcddc549a024b6158251f79702c0514c04d55bb2b89ee14ea26d1a3"), looks := false }, kinds := [], alts := [], laidByText := true, laidKinds := [.data, .data, .data], laidTests := true, laidLooks := .later }
def AggregateReadsUptoCardSaid : Prop := Claim7.holds Tryd.pinned (.plain (OpenSpec.upto aggregateReadsSpec)) aggregateReadsUptoCard

/-- THE SECOND FORM's CARD OF 'peeragelaw08.AggregateWidths'. -/
def aggregateWidthsUptoCard : Claim7 := { stood := { row := aggregateWidthsUptoRow, standIns := [], harness := (true, "728341611bcddc549a024b6158251f79702c0514c04d55bb2b89ee14ea26d1a3"), looks := false }, kinds := [], alts := [], laidByText := true, laidKinds := [.data, .data, .data], laidTests := true, laidLooks := .later }
def AggregateWidthsUptoCardSaid : Prop := Claim7.holds Tryd.pinned (.plain (OpenSpec.upto aggregateWidthsSpec)) aggregateWidthsUptoCard

/-- THE SECOND FORM's CARD OF 'peeragelaw08.AggregateForms'. -/
def aggregateFormsUptoCard : Claim7 := { stood := { row := aggregateFormsUptoRow, standIns := [], harness := (true, "728341611bcddc549a024b6158251f79702c0514c04d55bb2b89ee14ea26d1a3"), looks := false }, kinds := [], alts := [], laidByText := true, laidKinds := [.data, .data, .data], laidTests := true, laidLooks := .later }
def AggregateFormsUptoCardSaid : Prop := Claim7.holds Tryd.pinned (.plain (OpenSpec.upto aggregateFormsSpec)) aggregateFormsUptoCard

/-- THE SECOND FORM's CARD OF 'peeragelaw08.AggregateNarrows'. -/
def aggregateNarrowsUptoCard : Claim7 := { stood := { row := aggregateNarrowsUptoRow, standIns := [], harness := (true, "728341611bcddc549a024b6158251f79702c0514c04d55bb2b89ee14ea26d1a3"), looks := false }, kinds := [], alts := [], laidByText := true, laidKinds := [.data, .data, .data], laidTests := true, laidLooks := .later }
def AggregateNarrowsUptoCardSaid : Prop := Claim7.holds Tryd.pinned (.plain (OpenSpec.upto aggregateNarrowsSpec)) aggregateNarrowsUptoCard

/-- THE SECOND FORM's CARD OF 'peeragelaw08.AggregateMerges'. -/
def aggregateMergesUptoCard : Claim7 := { stood := { row := aggregateMergesUptoRow, standIns := [], harness := (true, "728341611bcddc549a024b6158251f79702c0514c04d55bb2b89ee14ea26d1a3"), looks := false }, kinds := [], alts := [], laidByText := true, laidKinds := [.data, .data, .data], laidTests := true, laidLooks := .later }
def AggregateMergesUptoCardSaid : Prop := Claim7.holds Tryd.pinned (.plain (OpenSpec.upto aggregateMergesSpec)) aggregateMergesUptoCard

/-- THE SECOND FORM's CARD OF 'peeragelaw11.FindingLogs'. -/
def findingLogsUptoCard : Claim7 := { stood := { row := findingLogsUptoRow, standIns := [], harness := (true, "728341611bcddc549a024b6158251f79702c0514c04d55bb2b89ee14ea26d1a3"), looks := false }, kinds := [], alts := [], laidByText := true, laidKinds := [.data, .data, .data], laidTests := true, laidLooks := .later }
def FindingLogsUptoCardSaid : Prop := Claim7.holds Tryd.pinned (.plain (OpenSpec.upto findingLogsSpec)) findingLogsUptoCard

/-- THE SECOND FORM's CARD OF 'peeragelaw11.FindingKeeps'. -/
def findingKeepsUptoCard : Claim7 := { stood := { row := findingKeepsUptoRow, standIns := [], harness := (true, "728341611bcddc549a024b6158251f79702c0514c04d55bb2b89ee14ea26d1a3"), looks := false }, kinds := [], alts := [], laidByText := true, laidKinds := [.data, .data, .data], laidTests := true, laidLooks := .later }
def FindingKeepsUptoCardSaid : Prop := Claim7.holds Tryd.pinned (.plain (OpenSpec.upto findingKeepsSpec)) findingKeepsUptoCard
end Rows
end Go.Proofs.YtkcejeogacobiaaDoor

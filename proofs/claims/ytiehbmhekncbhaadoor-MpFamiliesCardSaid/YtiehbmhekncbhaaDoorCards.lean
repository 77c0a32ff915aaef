/-
  DERIVED. GIVEN WITH THE SEED: THE CARDS: each row of YtiehbmhekncbhaaDoorRows.lean that lists a variable, with what it lists TIED to the program's text (the seventh form; the later family's looks); each row that meets fmt, with fmt's text TOLD by the authors' own Lean function (tested against real Go, not proved from fmt's source: count such statements apart). THE CARD IS WHAT COUNTS. Prove the row's statement (the work); the ties are given (YtiehbmhekncbhaaDoorTie.lean); close each card by the builder's one call (the guide's Derived/Test/ToyasCard.lean, 'card_holds'). Laid BY PROGRAM, IN A SANDBOX (cutbox-door.mjs). By AI agents, Wed Nov 11 2026. No macro, syntax, notation, axiom, sorry.
-/
import Derived.Test.YtiehbmhekncbhaaDoorRows
import GoSem.ClaimSeven
namespace Go.Proofs.YtiehbmhekncbhaaDoor
namespace Rows

/-- THE TIED CARD OF 'peeragelaw02.PrefixReads'. -/
def prefixReadsCard : Claim7 := { stood := { row := prefixReadsRow, standIns := [], harness := (true, "3bea1c37e93d978f7bd800b3d01c0e7717ced87b74a6012738127755b11f1765"), looks := true }, kinds := [], alts := [], laidByText := true, laidKinds := [.data, .data, .data], laidTests := true, laidLooks := .later }
def PrefixReadsCardSaid : Prop := Claim7.holds Tryd.pinned (.plain (OpenSpec.ofChange prefixReadsSpec)) prefixReadsCard

/-- THE TIED CARD OF 'peeragelaw02.PrefixMakes'. -/
def prefixMakesCard : Claim7 := { stood := { row := prefixMakesRow, standIns := [], harness := (true, "3bea1c37e93d978f7bd800b3d01c0e7717ced87b74a6012738127755b11f1765"), looks := true }, kinds := [], alts := [], laidByText := true, laidKinds := [.data, .data, .data], laidTests := true, laidLooks := .later }
def PrefixMakesCardSaid : Prop := Claim7.holds Tryd.pinned (.plain (OpenSpec.ofChange prefixMakesSpec)) prefixMakesCard

/-- THE TIED CARD OF 'peeragelaw02.PrefixCovers'. -/
def prefixCoversCard : Claim7 := { stood := { row := prefixCoversRow, standIns := [], harness := (true, "3bea1c37e93d978f7bd800b3d01c0e7717ced87b74a6012738127755b11f1765"), looks := true }, kinds := [], alts := [], laidByText := true, laidKinds := [.data, .data, .data], laidTests := true, laidLooks := .later }
def PrefixCoversCardSaid : Prop := Claim7.holds Tryd.pinned (.plain (OpenSpec.ofChange prefixCoversSpec)) prefixCoversCard

/-- THE TIED CARD OF 'peeragelaw02.PrefixOrders'. -/
def prefixOrdersCard : Claim7 := { stood := { row := prefixOrdersRow, standIns := [], harness := (true, "3bea1c37e93d978f7bd800b3d01c0e7717ced87b74a6012738127755b11f1765"), looks := true }, kinds := [], alts := [], laidByText := true, laidKinds := [.data, .data, .data], laidTests := true, laidLooks := .later }
def PrefixOrdersCardSaid : Prop := Claim7.holds Tryd.pinned (.plain (OpenSpec.ofChange prefixOrdersSpec)) prefixOrdersCard

/-- THE TIED CARD OF 'peeragelaw02.PrefixForms'. -/
def prefixFormsCard : Claim7 := { stood := { row := prefixFormsRow, standIns := [], harness := (true, "3bea1c37e93d978f7bd800b3d01c0e7717ced87b74a6012738127755b11f1765"), looks := true }, kinds := [], alts := [], laidByText := true, laidKinds := [.data, .data, .data, .data, .sentinel, .sentinel, .pinned], laidTests := true, laidLooks := .later }
def PrefixFormsCardSaid : Prop := Claim7.holds Tryd.pinned (.plain (OpenSpec.ofChange prefixFormsSpec)) prefixFormsCard

/-- THE TIED CARD OF 'peeragelaw02.PrefixParses'. -/
def prefixParsesCard : Claim7 := { stood := { row := prefixParsesRow, standIns := [], harness := (true, "3bea1c37e93d978f7bd800b3d01c0e7717ced87b74a6012738127755b11f1765"), looks := true }, kinds := [], alts := [], laidByText := true, laidKinds := [.data, .data, .data, .data, .sentinel, .sentinel, .pinned], laidTests := true, laidLooks := .later }
def PrefixParsesCardSaid : Prop := Claim7.holds Tryd.pinned (.plain (OpenSpec.ofChange prefixParsesSpec)) prefixParsesCard

/-- THE TIED CARD OF 'peeragelaw11.FindingOrders'. -/
def findingOrdersCard : Claim7 := { stood := { row := findingOrdersRow, standIns := [], harness := (true, "3bea1c37e93d978f7bd800b3d01c0e7717ced87b74a6012738127755b11f1765"), looks := true }, kinds := [], alts := [], laidByText := true, laidKinds := [.data, .data, .data], laidTests := true, laidLooks := .later }
def FindingOrdersCardSaid : Prop := Claim7.holds Tryd.pinned (.plain (OpenSpec.ofChange findingOrdersSpec)) findingOrdersCard

/-- THE TIED CARD OF 'peeragelaw11.FindingTexts'. -/
def findingTextsCard : Claim7 := { stood := { row := findingTextsRow, standIns := [], harness := (true, "3bea1c37e93d978f7bd800b3d01c0e7717ced87b74a6012738127755b11f1765"), looks := true }, kinds := [], alts := [], laidByText := true, laidKinds := [.data, .data, .data], laidTests := true, laidLooks := .later }
def FindingTextsCardSaid : Prop := Claim7.holds Tryd.pinned (.plain (OpenSpec.ofChange findingTextsSpec)) findingTextsCard

/-- THE TIED CARD OF 'peeragelaw11.FindingFolds'. -/
def findingFoldsCard : Claim7 := { stood := { row := findingFoldsRow, standIns := [], harness := (true, "3bea1c37e93d978f7bd800b3d01c0e7717ced87b74a6012738127755b11f1765"), looks := true }, kinds := [], alts := [], laidByText := true, laidKinds := [.data, .data, .data], laidTests := true, laidLooks := .later }
def FindingFoldsCardSaid : Prop := Claim7.holds Tryd.pinned (.plain (OpenSpec.ofChange findingFoldsSpec)) findingFoldsCard

/-- THE TIED CARD OF 'peeragelaw12.MpFamilies'. -/
def mpFamiliesCard : Claim7 := { stood := { row := mpFamiliesRow, standIns := [], harness := (true, "3bea1c37e93d978f7bd800b3d01c0e7717ced87b74a6012738127755b11f1765"), looks := true }, kinds := [], alts := [], laidByText := true, laidKinds := [.data], laidTests := true, laidLooks := .later }
def MpFamiliesCardSaid : Prop := Claim7.holds Tryd.pinned (.plain (OpenSpec.ofChange mpFamiliesSpec)) mpFamiliesCard

/-- THE TIED CARD OF 'peeragelaw19.RefreshForms'. -/
def refreshFormsCard : Claim7 := { stood := { row := refreshFormsRow, standIns := [], harness := (true, "3bea1c37e93d978f7bd800b3d01c0e7717ced87b74a6012738127755b11f1765"), looks := true }, kinds := [], alts := [], laidByText := true, laidKinds := [.data, .data, .data, .data], laidTests := true, laidLooks := .later }
def RefreshFormsCardSaid : Prop := Claim7.holds Tryd.pinned (.plain (OpenSpec.ofChange refreshFormsSpec)) refreshFormsCard

/-- THE TIED CARD OF 'peeragelaw19.RefreshApart'. -/
def refreshApartCard : Claim7 := { stood := { row := refreshApartRow, standIns := [], harness := (true, "3bea1c37e93d978f7bd800b3d01c0e7717ced87b74a6012738127755b11f1765"), looks := true }, kinds := [], alts := [], laidByText := true, laidKinds := [.data, .data, .data, .data], laidTests := true, laidLooks := .later }
def RefreshApartCardSaid : Prop := Claim7.holds Tryd.pinned (.plain (OpenSpec.ofChange refreshApartSpec)) refreshApartCard

/-- THE SECOND FORM's CARD OF 'peeragelaw02.PrefixReads'. -/
def prefixReadsUptoCard : Claim7 := { stood := { row := prefixReadsUptoRow, standIns := [], harness := (true, "3bea1c37e93d978f7bd800b3d01c0e7717ced87b74a6012738127755b11f1765"), looks := true }, kinds := [], alts := [], laidByText := true, laidKinds := [.data, .data, .data], laidTests := true, laidLooks := .later }
def PrefixReadsUptoCardSaid : Prop := Claim7.holds Tryd.pinned (.plain (OpenSpec.upto prefixReadsSpec)) prefixReadsUptoCard

/-- THE SECOND FORM's CARD OF 'peeragelaw02.PrefixMakes'. -/
def prefixMakesUptoCard : Claim7 := { stood := { row := prefixMakesUptoRow, standIns := [], harness := (true, "3bea1c37e93d978f7bd800b3d01c0e7717ced87b74a6012738127755b11f1765"), looks := true }, kinds := [], alts := [], laidByText := true, laidKinds := [.data, .data, .data], laidTests := true, laidLooks := .later }
def PrefixMakesUptoCardSaid : Prop := Claim7.holds Tryd.pinned (.plain (OpenSpec.upto prefixMakesSpec)) prefixMakesUptoCard

/-- THE SECOND FORM's CARD OF 'peeragelaw02.PrefixCovers'. -/
def prefixCoversUptoCard : Claim7 := { stood := { row := prefixCoversUptoRow, standIns := [], harness := (true, "3bea1c37e93d978f7bd800b3d01c0e7717ced87b74a6012738127755b11f1765"), looks := true }, kinds := [], alts := [], laidByText := true, laidKinds := [.data, .data, .data], laidTests := true, laidLooks := .later }
def PrefixCoversUptoCardSaid : Prop := Claim7.holds Tryd.pinned (.plain (OpenSpec.upto prefixCoversSpec)) prefixCoversUptoCard

/-- THE SECOND FORM's CARD OF 'peeragelaw02.PrefixOrders'. -/
def prefixOrdersUptoCard : Claim7 := { stood := { row := prefixOrdersUptoRow, standIns := [], harness := (true, "3bea1c37e93d978f7bd800b3d01c0e7717ced87b74a6012738127755b11f1765"), looks := true }, kinds := [], alts := [], laidByText := true, laidKinds := [.data, .data, .data], laidTests := true, laidLooks := .later }
def PrefixOrdersUptoCardSaid : Prop := Claim7.holds Tryd.pinned (.plain (OpenSpec.upto prefixOrdersSpec)) prefixOrdersUptoCard

/-- THE SECOND FORM's CARD OF 'peeragelaw02.PrefixForms'. -/
def prefixFormsUptoCard : Claim7 := { stood := { row := prefixFormsUptoRow, standIns := [], harness := (true, "3bea1c37e93d978f7bd800b3d01c0e7717ced87b74a6012738127755b11f1765"), looks := true }, kinds := [], alts := [], laidByText := true, laidKinds := [.data, .data, .data, .data, .sentinel, .sentinel, .pinned], laidTests := true, laidLooks := .later }
def PrefixFormsUptoCardSaid : Prop := Claim7.holds Tryd.pinned (.plain (OpenSpec.upto prefixFormsSpec)) prefixFormsUptoCard

/-- THE SECOND FORM's CARD OF 'peeragelaw02.PrefixParses'. -/
def prefixParsesUptoCard : Claim7 := { stood := { row := prefixParsesUptoRow, standIns := [], harness := (true, "3bea1c37e93d978f7bd800b3d01c0e7717ced87b74a6012738127755b11f1765"), looks := true }, kinds := [], alts := [], laidByText := true, laidKinds := [.data, .data, .data, .data, .sentinel, .sentinel, .pinned], laidTests := true, laidLooks := .later }
def PrefixParsesUptoCardSaid : Prop := Claim7.holds Tryd.pinned (.plain (OpenSpec.upto prefixParsesSpec)) prefixParsesUptoCard

/-- THE SECOND FORM's CARD OF 'peeragelaw11.FindingOrders'. -/
def findingOrdersUptoCard : Claim7 := { stood := { row := findingOrdersUptoRow, standIns := [], harness := (true, "3bea1c37e93d978f7bd800b3d01c0e7717ced87b74a6012738127755b11f1765"), looks := true }, kinds := [], alts := [], laidByText := true, laidKinds := [.data, .data, .data], laidTests := true, laidLooks := .later }
def FindingOrdersUptoCardSaid : Prop := Claim7.holds Tryd.pinned (.plain (OpenSpec.upto findingOrdersSpec)) findingOrdersUptoCard

/-- THE SECOND FORM's CARD OF 'peeragelaw11.FindingTexts'. -/
def findingTextsUptoCard : Claim7 := { stood := { row := findingTextsUptoRow, standIns := [], harness := (true, "3bea1c37e93d978f7bd800b3d01c0e7717ced87b74a6012738127755b11f1765"), looks := true }, kinds := [], alts := [], laidByText := true, laidKinds := [.data, .data, .data], laidTests := true, laidLooks := .later }
def FindingTextsUptoCardSaid : Prop := Claim7.holds Tryd.pinned (.plain (OpenSpec.upto findingTextsSpec)) findingTextsUptoCard

/-- THE SECOND FORM's CARD OF 'peeragelaw11.FindingFolds'. -/
def findingFoldsUptoCard : Claim7 := { stood := { row := findingFoldsUptoRow, standIns := [], harness := (true, "3bea1c37e93d978f7bd800b3d01c0e7717ced87b74a6012738127755b11f1765"), looks := true }, kinds := [], alts := [], laidByText := true, laidKinds := [.data, .data, .data], laidTests := true, laidLooks := .later }
def FindingFoldsUptoCardSaid : Prop := Claim7.holds Tryd.pinned (.plain (OpenSpec.upto findingFoldsSpec)) findingFoldsUptoCard

/-- THE SECOND FORM's CARD OF 'peeragelaw12.MpFamilies'. -/
def mpFamiliesUptoCard : Claim7 := { stood := { row := mpFamiliesUptoRow, standIns := [], harness := (true, "3bea1c37e93d978f7bd800b3d01c0e7717ced87b74a6012738127755b11f1765"), looks := true }, kinds := [], alts := [], laidByText := true, laidKinds := [.data], laidTests := true, laidLooks := .later }
def MpFamiliesUptoCardSaid : Prop := Claim7.holds Tryd.pinned (.plain (OpenSpec.upto mpFamiliesSpec)) mpFamiliesUptoCard

/-- THE SECOND FORM's CARD OF 'peeragelaw19.RefreshForms'. -/
def refreshFormsUptoCard : Claim7 := { stood := { row := refreshFormsUptoRow, standIns := [], harness := (true, "3bea1c37e93d978f7bd800b3d01c0e7717ced87b74a6012738127755b11f1765"), looks := true }, kinds := [], alts := [], laidByText := true, laidKinds := [.data, .data, .data, .data], laidTests := true, laidLooks := .later }
def RefreshFormsUptoCardSaid : Prop := Claim7.holds Tryd.pinned (.plain (OpenSpec.upto refreshFormsSpec)) refreshFormsUptoCard

/-- THE SECOND FORM's CARD OF 'peeragelaw19.RefreshApart'. -/
def refreshApartUptoCard : Claim7 := { stood := { row := refreshApartUptoRow, standIns := [], harness := (true, "3bea1c37e93d978f7bd800b3d01c0e7717ced87b74a6012738127755b11f1765"), looks := true }, kinds := [], alts := [], laidByText := true, laidKinds := [.data, .data, .data, .data], laidTests := true, laidLooks := .later }
def RefreshApartUptoCardSaid : Prop := Claim7.holds Tryd.pinned (.plain (OpenSpec.upto refreshApartSpec)) refreshApartUptoCard
end Rows
end Go.Proofs.YtiehbmhekncbhaaDoor

/-
  DERIVED. GIVEN WITH THE SEED: THE CARDS: each row of YtmlmgjdjbpipcaaDoorRows.lean that lists a variable, with what it lists TIED to the program's text (the seventh form; the later family's looks); each row that meets fmt, with fmt's text TOLD by the authors' own Lean function (tested against real Go, not proved from fmt's source: count such statements apart). THE CARD IS WHAT COUNTS. Prove the row's statement (the work); the ties are given (YtmlmgjdjbpipcaaDoorTie.lean); close each card by the builder's one call (the guide's Derived/Test/ToyasCard.lean, 'card_holds'). Laid BY PROGRAM, IN A SANDBOX (cutbox-door.mjs). By AI agents, Wed Nov 11 2026. No macro, syntax, notation, axiom, sorry.
-/
import Derived.Test.YtmlmgjdjbpipcaaDoorRows
import GoSem.ClaimSeven
namespace Go.Proofs.YtmlmgjdjbpipcaaDoor
namespace Rows

/-- THE TIED CARD OF 'peeragelaw12.MpForms'. -/
def mpFormsCard : Claim7 := { stood := { row := mpFormsRow, standIns := [], harness := (true, "bfc827a39721812d05a622c874b5a8a3abe1411d40de15bf9a2640585dd300ac"), looks := false }, kinds := [], alts := [], laidByText := true, laidKinds := [.data], laidTests := true, laidLooks := .later }
def MpFormsCardSaid : Prop := Claim7.holds Tryd.pinned (.plain (OpenSpec.ofChange mpFormsSpec)) mpFormsCard

/-- THE TIED CARD OF 'peeragelaw12.MpOffsets'. -/
def mpOffsetsCard : Claim7 := { stood := { row := mpOffsetsRow, standIns := [], harness := (true, "bfc827a39721812d05a622c874b5a8a3abe1411d40de15bf9a2640585dd300ac"), looks := false }, kinds := [], alts := [], laidByText := true, laidKinds := [.data], laidTests := true, laidLooks := .later }
def MpOffsetsCardSaid : Prop := Claim7.holds Tryd.pinned (.plain (OpenSpec.ofChange mpOffsetsSpec)) mpOffsetsCard

/-- THE TIED CARD OF 'peeragelaw12.MpTexts'. -/
def mpTextsCard : Claim7 := { stood := { row := mpTextsRow, standIns := [], harness := (true, "bfc827a39721812d05a622c874b5a8a3abe1411d40de15bf9a2640585dd300ac"), looks := false }, kinds := [], alts := [], laidByText := true, laidKinds := [.data, .data, .data, .data], laidTests := true, laidLooks := .later }
def MpTextsCardSaid : Prop := Claim7.holds Tryd.pinned (.plain (OpenSpec.ofChange mpTextsSpec)) mpTextsCard

/-- THE TIED CARD OF 'peeragelaw12.MpOptions'. -/
def mpOptionsCard : Claim7 := { stood := { row := mpOptionsRow, standIns := [], harness := (true, "bfc827a39721812d05a622c874b5a8a3abe1411d40de15bf9a2640585dd300ac"), looks := false }, kinds := [], alts := [], laidByText := true, laidKinds := [.data], laidTests := true, laidLooks := .later }
def MpOptionsCardSaid : Prop := Claim7.holds Tryd.pinned (.plain (OpenSpec.ofChange mpOptionsSpec)) mpOptionsCard

/-- THE SECOND FORM's CARD OF 'peeragelaw12.MpForms'. -/
def mpFormsUptoCard : Claim7 := { stood := { row := mpFormsUptoRow, standIns := [], harness := (true, "bfc827a39721812d05a622c874b5a8a3abe1411d40de15bf9a2640585dd300ac"), looks := false }, kinds := [], alts := [], laidByText := true, laidKinds := [.data], laidTests := true, laidLooks := .later }
def MpFormsUptoCardSaid : Prop := Claim7.holds Tryd.pinned (.plain (OpenSpec.upto mpFormsSpec)) mpFormsUptoCard

/-- THE SECOND FORM's CARD OF 'peeragelaw12.MpOffsets'. -/
def mpOffsetsUptoCard : Claim7 := { stood := { row := mpOffsetsUptoRow, standIns := [], harness := (true, "bfc827a39721812d05a622c874b5a8a3abe1411d40de15bf9a2640585dd300ac"), looks := false }, kinds := [], alts := [], laidByText := true, laidKinds := [.data], laidTests := true, laidLooks := .later }
def MpOffsetsUptoCardSaid : Prop := Claim7.holds Tryd.pinned (.plain (OpenSpec.upto mpOffsetsSpec)) mpOffsetsUptoCard

/-- THE SECOND FORM's CARD OF 'peeragelaw12.MpTexts'. -/
def mpTextsUptoCard : Claim7 := { stood := { row := mpTextsUptoRow, standIns := [], harness := (true, "bfc827a39721812d05a622c874b5a8a3abe1411d40de15bf9a2640585dd300ac"), looks := false }, kinds := [], alts := [], laidByText := true, laidKinds := [.data, .data, .data, .data], laidTests := true, laidLooks := .later }
def MpTextsUptoCardSaid : Prop := Claim7.holds Tryd.pinned (.plain (OpenSpec.upto mpTextsSpec)) mpTextsUptoCard

/-- THE SECOND FORM's CARD OF 'peeragelaw12.MpOptions'. -/
def mpOptionsUptoCard : Claim7 := { stood := { row := mpOptionsUptoRow, standIns := [], harness := (true, "bfc827a39721812d05a622c874b5a8a3abe1411d40de15bf9a2640585dd300ac"), looks := false }, kinds := [], alts := [], laidByText := true, laidKinds := [.data], laidTests := true, laidLooks := .later }
def MpOptionsUptoCardSaid : Prop := Claim7.holds Tryd.pinned (.plain (OpenSpec.upto mpOptionsSpec)) mpOptionsUptoCard
end Rows
end Go.Proofs.YtmlmgjdjbpipcaaDoor

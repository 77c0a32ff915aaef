/-
  DERIVED. GIVEN WITH THE SEED: THE CARDS: each row of YtejdpfhdjndefaaDoorRows.lean that lists a variable, with what it lists TIED to the program's text (the seventh form; the later family's looks); each row that meets fmt, with fmt's text TOLD by the authors' own Lean function (tested against real Go, not proved from fmt's source: count such statements apart). THE CARD IS WHAT COUNTS. Prove the row's statement (the work); the ties are given (YtejdpfhdjndefaaDoorTie.lean); close each card by the builder's one call (the guide's Derived/Test/ToyasCard.lean, 'card_holds'). Laid BY PROGRAM, IN A SANDBOX (cutbox-door.mjs). By AI agents, Wed Nov 11 2026. No macro, syntax, notation, axiom, sorry.
-/
import Derived.Test.YtejdpfhdjndefaaDoorRows
import GoSem.ClaimSeven
namespace Go.Proofs.YtejdpfhdjndefaaDoor
namespace Rows

/-- THE TIED CARD OF 'peeragelaw04.HeaderParses'. -/
def headerParsesCard : Claim7 := { stood := { row := headerParsesRow, standIns := [], harness := (true, "87817f75312c93e9e3737c19b673fe9446d91d8065b56dc96622c3e28dca91e6"), looks := false }, kinds := [], alts := [], laidByText := true, laidKinds := [.data], laidTests := true, laidLooks := .later }
def HeaderParsesCardSaid : Prop := Claim7.holds Tryd.pinned (.plain (OpenSpec.ofChange headerParsesSpec)) headerParsesCard

/-- THE TIED CARD OF 'peeragelaw04.HeaderWraps'. -/
def headerWrapsCard : Claim7 := { stood := { row := headerWrapsRow, standIns := [], harness := (true, "87817f75312c93e9e3737c19b673fe9446d91d8065b56dc96622c3e28dca91e6"), looks := false }, kinds := [], alts := [], laidByText := true, laidKinds := [.data], laidTests := true, laidLooks := .later }
def HeaderWrapsCardSaid : Prop := Claim7.holds Tryd.pinned (.plain (OpenSpec.ofChange headerWrapsSpec)) headerWrapsCard

/-- THE TIED CARD OF 'peeragelaw04.HeaderForms'. -/
def headerFormsCard : Claim7 := { stood := { row := headerFormsRow, standIns := [], harness := (true, "87817f75312c93e9e3737c19b673fe9446d91d8065b56dc96622c3e28dca91e6"), looks := false }, kinds := [], alts := [], laidByText := true, laidKinds := [.data], laidTests := true, laidLooks := .later }
def HeaderFormsCardSaid : Prop := Claim7.holds Tryd.pinned (.plain (OpenSpec.ofChange headerFormsSpec)) headerFormsCard

/-- THE TIED CARD OF 'peeragelaw04.HeaderMarkers'. -/
def headerMarkersCard : Claim7 := { stood := { row := headerMarkersRow, standIns := [], harness := (true, "87817f75312c93e9e3737c19b673fe9446d91d8065b56dc96622c3e28dca91e6"), looks := false }, kinds := [], alts := [], laidByText := true, laidKinds := [.data], laidTests := true, laidLooks := .later }
def HeaderMarkersCardSaid : Prop := Claim7.holds Tryd.pinned (.plain (OpenSpec.ofChange headerMarkersSpec)) headerMarkersCard

/-- THE TIED CARD OF 'peeragelaw04.HeaderLengths'. -/
def headerLengthsCard : Claim7 := { stood := { row := headerLengthsRow, standIns := [], harness := (true, "87817f75312c93e9e3737c19b673fe9446d91d8065b56dc96622c3e28dca91e6"), looks := false }, kinds := [], alts := [], laidByText := true, laidKinds := [.data], laidTests := true, laidLooks := .later }
def HeaderLengthsCardSaid : Prop := Claim7.holds Tryd.pinned (.plain (OpenSpec.ofChange headerLengthsSpec)) headerLengthsCard

/-- THE TIED CARD OF 'peeragelaw19.RefreshMakes'. -/
def refreshMakesCard : Claim7 := { stood := { row := refreshMakesRow, standIns := [], harness := (true, "87817f75312c93e9e3737c19b673fe9446d91d8065b56dc96622c3e28dca91e6"), looks := false }, kinds := [], alts := [], laidByText := true, laidKinds := [.data, .data, .data, .data], laidTests := true, laidLooks := .later }
def RefreshMakesCardSaid : Prop := Claim7.holds Tryd.pinned (.plain (OpenSpec.ofChange refreshMakesSpec)) refreshMakesCard

/-- THE TIED CARD OF 'peeragelaw19.RefreshUseful'. -/
def refreshUsefulCard : Claim7 := { stood := { row := refreshUsefulRow, standIns := [], harness := (true, "87817f75312c93e9e3737c19b673fe9446d91d8065b56dc96622c3e28dca91e6"), looks := false }, kinds := [], alts := [], laidByText := true, laidKinds := [.data, .data, .data, .data], laidTests := true, laidLooks := .later }
def RefreshUsefulCardSaid : Prop := Claim7.holds Tryd.pinned (.plain (OpenSpec.ofChange refreshUsefulSpec)) refreshUsefulCard

/-- THE TIED CARD OF 'peeragelaw19.RefreshParses'. -/
def refreshParsesCard : Claim7 := { stood := { row := refreshParsesRow, standIns := [], harness := (true, "87817f75312c93e9e3737c19b673fe9446d91d8065b56dc96622c3e28dca91e6"), looks := false }, kinds := [], alts := [], laidByText := true, laidKinds := [.data, .data, .data, .data], laidTests := true, laidLooks := .later }
def RefreshParsesCardSaid : Prop := Claim7.holds Tryd.pinned (.plain (OpenSpec.ofChange refreshParsesSpec)) refreshParsesCard

/-- THE TIED CARD OF 'peeragelaw19.RefreshForms'. -/
def refreshFormsCard : Claim7 := { stood := { row := refreshFormsRow, standIns := [], harness := (true, "87817f75312c93e9e3737c19b673fe9446d91d8065b56dc96622c3e28dca91e6"), looks := false }, kinds := [], alts := [], laidByText := true, laidKinds := [.data, .data, .data, .data], laidTests := true, laidLooks := .later }
def RefreshFormsCardSaid : Prop := Claim7.holds Tryd.pinned (.plain (OpenSpec.ofChange refreshFormsSpec)) refreshFormsCard

/-- THE TIED CARD OF 'peeragelaw19.RefreshApart'. -/
def refreshApartCard : Claim7 := { stood := { row := refreshApartRow, standIns := [], harness := (true, "87817f75312c93e9e3737c19b673fe9446d91d8065b56dc96622c3e28dca91e6"), looks := false }, kinds := [], alts := [], laidByText := true, laidKinds := [.data, .data, .data, .data], laidTests := true, laidLooks := .later }
def RefreshApartCardSaid : Prop := Claim7.holds Tryd.pinned (.plain (OpenSpec.ofChange refreshApartSpec)) refreshApartCard

/-- THE SECOND FORM's CARD OF 'peeragelaw04.HeaderParses'. -/
def headerParsesUptoCard : Claim7 := { stood := { row := headerParsesUptoRow, standIns := [], harness := (true, "87817f75312c93e9e3737c19b673fe9446d91d8065b56dc96622c3e28dca91e6"), looks := false }, kinds := [], alts := [], laidByText := true, laidKinds := [.data], laidTests := true, laidLooks := .later }
def HeaderParsesUptoCardSaid : Prop := Claim7.holds Tryd.pinned (.plain (OpenSpec.upto headerParsesSpec)) headerParsesUptoCard

/-- THE SECOND FORM's CARD OF 'peeragelaw04.HeaderWraps'. -/
def headerWrapsUptoCard : Claim7 := { stood := { row := headerWrapsUptoRow, standIns := [], harness := (true, "87817f75312c93e9e3737c19b673fe9446d91d8065b56dc96622c3e28dca91e6"), looks := false }, kinds := [], alts := [], laidByText := true, laidKinds := [.data], laidTests := true, laidLooks := .later }
def HeaderWrapsUptoCardSaid : Prop := Claim7.holds Tryd.pinned (.plain (OpenSpec.upto headerWrapsSpec)) headerWrapsUptoCard

/-- THE SECOND FORM's CARD OF 'peeragelaw04.HeaderForms'. -/
def headerFormsUptoCard : Claim7 := { stood := { row := headerFormsUptoRow, standIns := [], harness := (true, "87817f75312c93e9e3737c19b673fe9446d91d8065b56dc96622c3e28dca91e6"), looks := false }, kinds := [], alts := [], laidByText := true, laidKinds := [.data], laidTests := true, laidLooks := .later }
def HeaderFormsUptoCardSaid : Prop := Claim7.holds Tryd.pinned (.plain (OpenSpec.upto headerFormsSpec)) headerFormsUptoCard

/-- THE SECOND FORM's CARD OF 'peeragelaw04.HeaderMarkers'. -/
def headerMarkersUptoCard : Claim7 := { stood := { row := headerMarkersUptoRow, standIns := [], harness := (true, "87817f75312c93e9e3737c19b673fe9446d91d8065b56dc96622c3e28dca91e6"), looks := false }, kinds := [], alts := [], laidByText := true, laidKinds := [.data], laidTests := true, laidLooks := .later }
def HeaderMarkersUptoCardSaid : Prop := Claim7.holds Tryd.pinned (.plain (OpenSpec.upto headerMarkersSpec)) headerMarkersUptoCard

/-- THE SECOND FORM's CARD OF 'peeragelaw04.HeaderLengths'. -/
def headerLengthsUptoCard : Claim7 := { stood := { row := headerLengthsUptoRow, standIns := [], harness := (true, "87817f75312c93e9e3737c19b673fe9446d91d8065b56dc96622c3e28dca91e6"), looks := false }, kinds := [], alts := [], laidByText := true, laidKinds := [.data], laidTests := true, laidLooks := .later }
def HeaderLengthsUptoCardSaid : Prop := Claim7.holds Tryd.pinned (.plain (OpenSpec.upto headerLengthsSpec)) headerLengthsUptoCard

/-- THE SECOND FORM's CARD OF 'peeragelaw19.RefreshMakes'. -/
def refreshMakesUptoCard : Claim7 := { stood := { row := refreshMakesUptoRow, standIns := [], harness := (true, "87817f75312c93e9e3737c19b673fe9446d91d8065b56dc96622c3e28dca91e6"), looks := false }, kinds := [], alts := [], laidByText := true, laidKinds := [.data, .data, .data, .data], laidTests := true, laidLooks := .later }
def RefreshMakesUptoCardSaid : Prop := Claim7.holds Tryd.pinned (.plain (OpenSpec.upto refreshMakesSpec)) refreshMakesUptoCard

/-- THE SECOND FORM's CARD OF 'peeragelaw19.RefreshUseful'. -/
def refreshUsefulUptoCard : Claim7 := { stood := { row := refreshUsefulUptoRow, standIns := [], harness := (true, "87817f75312c93e9e3737c19b673fe9446d91d8065b56dc96622c3e28dca91e6"), looks := false }, kinds := [], alts := [], laidByText := true, laidKinds := [.data, .data, .data, .data], laidTests := true, laidLooks := .later }
def RefreshUsefulUptoCardSaid : Prop := Claim7.holds Tryd.pinned (.plain (OpenSpec.upto refreshUsefulSpec)) refreshUsefulUptoCard

/-- THE SECOND FORM's CARD OF 'peeragelaw19.RefreshParses'. -/
def refreshParsesUptoCard : Claim7 := { stood := { row := refreshParsesUptoRow, standIns := [], harness := (true, "87817f75312c93e9e3737c19b673fe9446d91d8065b56dc96622c3e28dca91e6"), looks := false }, kinds := [], alts := [], laidByText := true, laidKinds := [.data, .data, .data, .data], laidTests := true, laidLooks := .later }
def RefreshParsesUptoCardSaid : Prop := Claim7.holds Tryd.pinned (.plain (OpenSpec.upto refreshParsesSpec)) refreshParsesUptoCard

/-- THE SECOND FORM's CARD OF 'peeragelaw19.RefreshForms'. -/
def refreshFormsUptoCard : Claim7 := { stood := { row := refreshFormsUptoRow, standIns := [], harness := (true, "87817f75312c93e9e3737c19b673fe9446d91d8065b56dc96622c3e28dca91e6"), looks := false }, kinds := [], alts := [], laidByText := true, laidKinds := [.data, .data, .data, .data], laidTests := true, laidLooks := .later }
def RefreshFormsUptoCardSaid : Prop := Claim7.holds Tryd.pinned (.plain (OpenSpec.upto refreshFormsSpec)) refreshFormsUptoCard

/-- THE SECOND FORM's CARD OF 'peeragelaw19.RefreshApart'. -/
def refreshApartUptoCard : Claim7 := { stood := { row := refreshApartUptoRow, standIns := [], harness := (true, "87817f75312c93e9e3737c19b673fe9446d91d8065b56dc96622c3e28dca91e6"), looks := false }, kinds := [], alts := [], laidByText := true, laidKinds := [.data, .data, .data, .data], laidTests := true, laidLooks := .later }
def RefreshApartUptoCardSaid : Prop := Claim7.holds Tryd.pinned (.plain (OpenSpec.upto refreshApartSpec)) refreshApartUptoCard
end Rows
end Go.Proofs.YtejdpfhdjndefaaDoor

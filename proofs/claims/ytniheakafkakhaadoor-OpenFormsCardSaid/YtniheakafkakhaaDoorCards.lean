/-
  DERIVED. GIVEN WITH THE SEED: THE CARDS: each row of YtniheakafkakhaaDoorRows.lean that lists a variable, with what it lists TIED to the program's text (the seventh form; the later family's looks); each row that meets fmt, with fmt's text TOLD by the authors' own Lean function (tested against real Go, not proved from fmt's source: count such statements apart). THE CARD IS WHAT COUNTS. Prove the row's statement (the work); the ties are given (YtniheakafkakhaaDoorTie.lean); close each card by the builder's one call (the guide's Derived/Test/ToyasCard.lean, 'card_holds'). Laid BY PROGRAM, IN A SANDBOX (cutbox-door.mjs). By AI agents, Wed Nov 11 2026. No macro, syntax, notation, axiom, sorry.
-/
import Derived.Test.YtniheakafkakhaaDoorRows
import GoSem.ClaimSeven
namespace Go.Proofs.YtniheakafkakhaaDoor
namespace Rows

/-- THE TIED CARD OF 'peeragelaw16.CapabilityOptions'. -/
def capabilityOptionsCard : Claim7 := { stood := { row := capabilityOptionsRow, standIns := [], harness := (true, "8f32392e3f0f259863de660f3148b7793c4325dac02783ed9200f0129a8fd42d"), looks := false }, kinds := [], alts := [], laidByText := true, laidKinds := [.data], laidTests := true, laidLooks := .later }
def CapabilityOptionsCardSaid : Prop := Claim7.holds Tryd.pinned (.plain (OpenSpec.ofChange capabilityOptionsSpec)) capabilityOptionsCard

/-- THE TIED CARD OF 'peeragelaw17.OpenForms'. -/
def openFormsCard : Claim7 := { stood := { row := openFormsRow, standIns := [], harness := (true, "8f32392e3f0f259863de660f3148b7793c4325dac02783ed9200f0129a8fd42d"), looks := false }, kinds := [], alts := [], laidByText := true, laidKinds := [.data, .data, .data], laidTests := true, laidLooks := .later }
def OpenFormsCardSaid : Prop := Claim7.holds Tryd.pinned (.plain (OpenSpec.ofChange openFormsSpec)) openFormsCard

/-- THE TIED CARD OF 'peeragelaw17.OpenMakes'. -/
def openMakesCard : Claim7 := { stood := { row := openMakesRow, standIns := [], harness := (true, "8f32392e3f0f259863de660f3148b7793c4325dac02783ed9200f0129a8fd42d"), looks := false }, kinds := [], alts := [], laidByText := true, laidKinds := [.data], laidTests := true, laidLooks := .later }
def OpenMakesCardSaid : Prop := Claim7.holds Tryd.pinned (.plain (OpenSpec.ofChange openMakesSpec)) openMakesCard

/-- THE TIED CARD OF 'peeragelaw22.NegotiateOptions'. -/
def negotiateOptionsCard : Claim7 := { stood := { row := negotiateOptionsRow, standIns := [], harness := (true, "8f32392e3f0f259863de660f3148b7793c4325dac02783ed9200f0129a8fd42d"), looks := false }, kinds := [], alts := [], laidByText := true, laidKinds := [.data, .data, .data, .data], laidTests := true, laidLooks := .later }
def NegotiateOptionsCardSaid : Prop := Claim7.holds Tryd.pinned (.plain (OpenSpec.ofChange negotiateOptionsSpec)) negotiateOptionsCard

/-- THE TIED CARD OF 'peeragelaw22.NegotiateMakes'. -/
def negotiateMakesCard : Claim7 := { stood := { row := negotiateMakesRow, standIns := [], harness := (true, "8f32392e3f0f259863de660f3148b7793c4325dac02783ed9200f0129a8fd42d"), looks := false }, kinds := [], alts := [], laidByText := true, laidKinds := [.data, .data, .data, .data], laidTests := true, laidLooks := .later }
def NegotiateMakesCardSaid : Prop := Claim7.holds Tryd.pinned (.plain (OpenSpec.ofChange negotiateMakesSpec)) negotiateMakesCard

/-- THE TIED CARD OF 'peeragelaw22.NegotiateSessions'. -/
def negotiateSessionsCard : Claim7 := { stood := { row := negotiateSessionsRow, standIns := [], harness := (true, "8f32392e3f0f259863de660f3148b7793c4325dac02783ed9200f0129a8fd42d"), looks := false }, kinds := [], alts := [], laidByText := true, laidKinds := [.data, .data, .data, .data], laidTests := true, laidLooks := .later }
def NegotiateSessionsCardSaid : Prop := Claim7.holds Tryd.pinned (.plain (OpenSpec.ofChange negotiateSessionsSpec)) negotiateSessionsCard

/-- THE TIED CARD OF 'peeragelaw22.NegotiateWinners'. -/
def negotiateWinnersCard : Claim7 := { stood := { row := negotiateWinnersRow, standIns := [], harness := (true, "8f32392e3f0f259863de660f3148b7793c4325dac02783ed9200f0129a8fd42d"), looks := false }, kinds := [], alts := [], laidByText := true, laidKinds := [.data, .data, .data, .data], laidTests := true, laidLooks := .later }
def NegotiateWinnersCardSaid : Prop := Claim7.holds Tryd.pinned (.plain (OpenSpec.ofChange negotiateWinnersSpec)) negotiateWinnersCard

/-- THE TIED CARD OF 'peeragelaw22.NegotiateTexts'. -/
def negotiateTextsCard : Claim7 := { stood := { row := negotiateTextsRow, standIns := [], harness := (true, "8f32392e3f0f259863de660f3148b7793c4325dac02783ed9200f0129a8fd42d"), looks := false }, kinds := [], alts := [], laidByText := true, laidKinds := [.data, .data, .data, .data], laidTests := true, laidLooks := .later }
def NegotiateTextsCardSaid : Prop := Claim7.holds Tryd.pinned (.plain (OpenSpec.ofChange negotiateTextsSpec)) negotiateTextsCard

/-- THE SECOND FORM's CARD OF 'peeragelaw16.CapabilityOptions'. -/
def capabilityOptionsUptoCard : Claim7 := { stood := { row := capabilityOptionsUptoRow, standIns := [], harness := (true, "8f32392e3f0f259863de660f3148b7793c4325dac02783ed9200f0129a8fd42d"), looks := false }, kinds := [], alts := [], laidByText := true, laidKinds := [.data], laidTests := true, laidLooks := .later }
def CapabilityOptionsUptoCardSaid : Prop := Claim7.holds Tryd.pinned (.plain (OpenSpec.upto capabilityOptionsSpec)) capabilityOptionsUptoCard

/-- THE SECOND FORM's CARD OF 'peeragelaw17.OpenForms'. -/
def openFormsUptoCard : Claim7 := { stood := { row := openFormsUptoRow, standIns := [], harness := (true, "8f32392e3f0f259863de660f3148b7793c4325dac02783ed9200f0129a8fd42d"), looks := false }, kinds := [], alts := [], laidByText := true, laidKinds := [.data, .data, .data], laidTests := true, laidLooks := .later }
def OpenFormsUptoCardSaid : Prop := Claim7.holds Tryd.pinned (.plain (OpenSpec.upto openFormsSpec)) openFormsUptoCard

/-- THE SECOND FORM's CARD OF 'peeragelaw17.OpenMakes'. -/
def openMakesUptoCard : Claim7 := { stood := { row := openMakesUptoRow, standIns := [], harness := (true, "8f32392e3f0f259863de660f3148b7793c4325dac02783ed9200f0129a8fd42d"), looks := false }, kinds := [], alts := [], laidByText := true, laidKinds := [.data], laidTests := true, laidLooks := .later }
def OpenMakesUptoCardSaid : Prop := Claim7.holds Tryd.pinned (.plain (OpenSpec.upto openMakesSpec)) openMakesUptoCard

/-- THE SECOND FORM's CARD OF 'peeragelaw22.NegotiateOptions'. -/
def negotiateOptionsUptoCard : Claim7 := { stood := { row := negotiateOptionsUptoRow, standIns := [], harness := (true, "8f32392e3f0f259863de660f3148b7793c4325dac02783ed9200f0129a8fd42d"), looks := false }, kinds := [], alts := [], laidByText := true, laidKinds := [.data, .data, .data, .data], laidTests := true, laidLooks := .later }
def NegotiateOptionsUptoCardSaid : Prop := Claim7.holds Tryd.pinned (.plain (OpenSpec.upto negotiateOptionsSpec)) negotiateOptionsUptoCard

/-- THE SECOND FORM's CARD OF 'peeragelaw22.NegotiateMakes'. -/
def negotiateMakesUptoCard : Claim7 := { stood := { row := negotiateMakesUptoRow, standIns := [], harness := (true, "8f32392e3f0f259863de660f3148b7793c4325dac02783ed9200f0129a8fd42d"), looks := false }, kinds := [], alts := [], laidByText := true, laidKinds := [.data, .data, .data, .data], laidTests := true, laidLooks := .later }
def NegotiateMakesUptoCardSaid : Prop := Claim7.holds Tryd.pinned (.plain (OpenSpec.upto negotiateMakesSpec)) negotiateMakesUptoCard

/-- THE SECOND FORM's CARD OF 'peeragelaw22.NegotiateSessions'. -/
def negotiateSessionsUptoCard : Claim7 := { stood := { row := negotiateSessionsUptoRow, standIns := [], harness := (true, "8f32392e3f0f259863de660f3148b7793c4325dac02783ed9200f0129a8fd42d"), looks := false }, kinds := [], alts := [], laidByText := true, laidKinds := [.data, .data, .data, .data], laidTests := true, laidLooks := .later }
def NegotiateSessionsUptoCardSaid : Prop := Claim7.holds Tryd.pinned (.plain (OpenSpec.upto negotiateSessionsSpec)) negotiateSessionsUptoCard

/-- THE SECOND FORM's CARD OF 'peeragelaw22.NegotiateWinners'. -/
def negotiateWinnersUptoCard : Claim7 := { stood := { row := negotiateWinnersUptoRow, standIns := [], harness := (true, "8f32392e3f0f259863de660f3148b7793c4325dac02783ed9200f0129a8fd42d"), looks := false }, kinds := [], alts := [], laidByText := true, laidKinds := [.data, .data, .data, .data], laidTests := true, laidLooks := .later }
def NegotiateWinnersUptoCardSaid : Prop := Claim7.holds Tryd.pinned (.plain (OpenSpec.upto negotiateWinnersSpec)) negotiateWinnersUptoCard

/-- THE SECOND FORM's CARD OF 'peeragelaw22.NegotiateTexts'. -/
def negotiateTextsUptoCard : Claim7 := { stood := { row := negotiateTextsUptoRow, standIns := [], harness := (true, "8f32392e3f0f259863de660f3148b7793c4325dac02783ed9200f0129a8fd42d"), looks := false }, kinds := [], alts := [], laidByText := true, laidKinds := [.data, .data, .data, .data], laidTests := true, laidLooks := .later }
def NegotiateTextsUptoCardSaid : Prop := Claim7.holds Tryd.pinned (.plain (OpenSpec.upto negotiateTextsSpec)) negotiateTextsUptoCard
end Rows
end Go.Proofs.YtniheakafkakhaaDoor

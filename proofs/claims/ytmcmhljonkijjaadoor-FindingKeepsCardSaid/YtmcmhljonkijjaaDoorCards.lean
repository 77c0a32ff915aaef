/-
  DERIVED. GIVEN WITH THE SEED: THE CARDS: each row of YtmcmhljonkijjaaDoorRows.lean that lists a variable, with what it lists TIED to the program's text (the seventh form; the later family's looks); each row that meets fmt, with fmt's text TOLD by the authors' own Lean function (tested against real Go, not proved from fmt's source: count such statements apart). THE CARD IS WHAT COUNTS. Prove the row's statement (the work); the ties are given (YtmcmhljonkijjaaDoorTie.lean); close each card by the builder's one call (the guide's Derived/Test/ToyasCard.lean, 'card_holds'). Laid BY PROGRAM, IN A SANDBOX (cutbox-door.mjs). By AI agents, Wed Nov 11 2026. No macro, syntax, notation, axiom, sorry.
-/
import Derived.Test.YtmcmhljonkijjaaDoorRows
import GoSem.ClaimSeven
namespace Go.Proofs.YtmcmhljonkijjaaDoor
namespace Rows

/-- THE TIED CARD OF 'peeragelaw10.FlagNames'. -/
def flagNamesCard : Claim7 := { stood := { row := flagNamesRow, standIns := [], harness := (true, "fcc7a49deede47776fd20bf6a29ba4fd696f7d7a8066469e9ac739b8e5818eab"), looks := false }, kinds := [], alts := [], laidByText := true, laidKinds := [.data, .data, .data, .data], laidTests := true, laidLooks := .later }
def FlagNamesCardSaid : Prop := Claim7.holds Tryd.pinned (.plain (OpenSpec.ofChange flagNamesSpec)) flagNamesCard

/-- THE TIED CARD OF 'peeragelaw11.FindingLogs'. -/
def findingLogsCard : Claim7 := { stood := { row := findingLogsRow, standIns := [], harness := (true, "fcc7a49deede47776fd20bf6a29ba4fd696f7d7a8066469e9ac739b8e5818eab"), looks := false }, kinds := [], alts := [], laidByText := true, laidKinds := [.data, .data, .data], laidTests := true, laidLooks := .later }
def FindingLogsCardSaid : Prop := Claim7.holds Tryd.pinned (.plain (OpenSpec.ofChange findingLogsSpec)) findingLogsCard

/-- THE TIED CARD OF 'peeragelaw11.FindingKeeps'. -/
def findingKeepsCard : Claim7 := { stood := { row := findingKeepsRow, standIns := [], harness := (true, "fcc7a49deede47776fd20bf6a29ba4fd696f7d7a8066469e9ac739b8e5818eab"), looks := false }, kinds := [], alts := [], laidByText := true, laidKinds := [.data, .data, .data], laidTests := true, laidLooks := .later }
def FindingKeepsCardSaid : Prop := Claim7.holds Tryd.pinned (.plain (OpenSpec.ofChange findingKeepsSpec)) findingKeepsCard

/-- THE TIED CARD OF 'peeragelaw05.OptionNames'. -/
def optionNamesCard : Claim7 := { stood := { row := optionNamesRow, standIns := [], harness := (true, "fcc7a49deede47776fd20bf6a29ba4fd696f7d7a8066469e9ac739b8e5818eab"), looks := false }, kinds := [], alts := [], laidByText := true, laidKinds := [.listed, .data], laidTests := true, laidLooks := .later }
def OptionNamesCardSaid : Prop := Claim7.holds Tryd.pinned (.plain (OpenSpec.ofChange optionNamesSpec)) optionNamesCard

/-- THE TIED CARD OF 'peeragelaw05.OptionParses'. -/
def optionParsesCard : Claim7 := { stood := { row := optionParsesRow, standIns := [], harness := (true, "fcc7a49deede47776fd20bf6a29ba4fd696f7d7a8066469e9ac739b8e5818eab"), looks := false }, kinds := [], alts := [], laidByText := true, laidKinds := [.data, .pinned], laidTests := true, laidLooks := .later }
def OptionParsesCardSaid : Prop := Claim7.holds Tryd.pinned (.plain (OpenSpec.ofChange optionParsesSpec)) optionParsesCard

/-- THE SECOND FORM's CARD OF 'peeragelaw10.FlagNames'. -/
def flagNamesUptoCard : Claim7 := { stood := { row := flagNamesUptoRow, standIns := [], harness := (true, "fcc7a49deede47776fd20bf6a29ba4fd696f7d7a8066469e9ac739b8e5818eab"), looks := false }, kinds := [], alts := [], laidByText := true, laidKinds := [.data, .data, .data, .data], laidTests := true, laidLooks := .later }
def FlagNamesUptoCardSaid : Prop := Claim7.holds Tryd.pinned (.plain (OpenSpec.upto flagNamesSpec)) flagNamesUptoCard

/-- THE SECOND FORM's CARD OF 'peeragelaw11.FindingLogs'. -/
def findingLogsUptoCard : Claim7 := { stood := { row := findingLogsUptoRow, standIns := [], harness := (true, "fcc7a49deede47776fd20bf6a29ba4fd696f7d7a8066469e9ac739b8e5818eab"), looks := false }, kinds := [], alts := [], laidByText := true, laidKinds := [.data, .data, .data], laidTests := true, laidLooks := .later }
def FindingLogsUptoCardSaid : Prop := Claim7.holds Tryd.pinned (.plain (OpenSpec.upto findingLogsSpec)) findingLogsUptoCard

/-- THE SECOND FORM's CARD OF 'peeragelaw11.FindingKeeps'. -/
def findingKeepsUptoCard : Claim7 := { stood := { row := findingKeepsUptoRow, standIns := [], harness := (true, "fcc7a49deede47776fd20bf6a29ba4fd696f7d7a8066469e9ac739b8e5818eab"), looks := false }, kinds := [], alts := [], laidByText := true, laidKinds := [.data, .data, .data], laidTests := true, laidLooks := .later }
def FindingKeepsUptoCardSaid : Prop := Claim7.holds Tryd.pinned (.plain (OpenSpec.upto findingKeepsSpec)) findingKeepsUptoCard

/-- THE SECOND FORM's CARD OF 'peeragelaw05.OptionNames'. -/
def optionNamesUptoCard : Claim7 := { stood := { row := optionNamesUptoRow, standIns := [], harness := (true, "fcc7a49deede47776fd20bf6a29ba4fd696f7d7a8066469e9ac739b8e5818eab"), looks := false }, kinds := [], alts := [], laidByText := true, laidKinds := [.listed, .data], laidTests := true, laidLooks := .later }
def OptionNamesUptoCardSaid : Prop := Claim7.holds Tryd.pinned (.plain (OpenSpec.upto optionNamesSpec)) optionNamesUptoCard

/-- THE SECOND FORM's CARD OF 'peeragelaw05.OptionParses'. -/
def optionParsesUptoCard : Claim7 := { stood := { row := optionParsesUptoRow, standIns := [], harness := (true, "fcc7a49deede47776fd20bf6a29ba4fd696f7d7a8066469e9ac739b8e5818eab"), looks := false }, kinds := [], alts := [], laidByText := true, laidKinds := [.data, .pinned], laidTests := true, laidLooks := .later }
def OptionParsesUptoCardSaid : Prop := Claim7.holds Tryd.pinned (.plain (OpenSpec.upto optionParsesSpec)) optionParsesUptoCard
end Rows
end Go.Proofs.YtmcmhljonkijjaaDoor

/-
  DERIVED. GIVEN WITH THE SEED: THE CARDS: each row of YtgahjchngmojlabDoorRows.lean that lists a variable, with what it lists TIED to the program's text (the seventh form; the later family's looks); each row that meets fmt, with fmt's text TOLD by the authors' own Lean function (tested against real Go, not proved from fmt's source: count such statements apart). THE CARD IS WHAT COUNTS. Prove the row's statement (the work); the ties are given (YtgahjchngmojlabDoorTie.lean); close each card by the builder's one call (the guide's Derived/Test/ToyasCard.lean, 'card_holds'). Laid BY PROGRAM, IN A SANDBOX (cutbox-door.mjs). By AI agents, Wed Nov 11 2026. No macro, syntax, notation, axiom, sorry.
-/
import Derived.Test.YtgahjchngmojlabDoorRows
import GoSem.ClaimSeven
namespace Go.Proofs.YtgahjchngmojlabDoor
namespace Rows

/-- THE TIED CARD OF 'peeragelaw23.FrameMatches'. -/
def frameMatchesCard : Claim7 := { stood := { row := frameMatchesRow, standIns := [], harness := (true, "49330dbb7b1fd4518fe0bc879c66c1d8011efee2796f14ad958d0e81ce7108b8"), looks := false }, kinds := [], alts := [], laidByText := true, laidKinds := [.data], laidTests := true, laidLooks := .later }
def FrameMatchesCardSaid : Prop := Claim7.holds Tryd.pinned (.plain (OpenSpec.ofChange frameMatchesSpec)) frameMatchesCard

/-- THE TIED CARD OF 'peeragelaw23.FrameCuts'. -/
def frameCutsCard : Claim7 := { stood := { row := frameCutsRow, standIns := [], harness := (true, "49330dbb7b1fd4518fe0bc879c66c1d8011efee2796f14ad958d0e81ce7108b8"), looks := false }, kinds := [], alts := [], laidByText := true, laidKinds := [.data], laidTests := true, laidLooks := .later }
def FrameCutsCardSaid : Prop := Claim7.holds Tryd.pinned (.plain (OpenSpec.ofChange frameCutsSpec)) frameCutsCard

/-- THE TIED CARD OF 'peeragelaw23.FrameOnce'. -/
def frameOnceCard : Claim7 := { stood := { row := frameOnceRow, standIns := [], harness := (true, "49330dbb7b1fd4518fe0bc879c66c1d8011efee2796f14ad958d0e81ce7108b8"), looks := false }, kinds := [], alts := [], laidByText := true, laidKinds := [.data], laidTests := true, laidLooks := .later }
def FrameOnceCardSaid : Prop := Claim7.holds Tryd.pinned (.plain (OpenSpec.ofChange frameOnceSpec)) frameOnceCard

/-- THE TIED CARD OF 'peeragelaw23.FrameBounds'. -/
def frameBoundsCard : Claim7 := { stood := { row := frameBoundsRow, standIns := [], harness := (true, "49330dbb7b1fd4518fe0bc879c66c1d8011efee2796f14ad958d0e81ce7108b8"), looks := false }, kinds := [], alts := [], laidByText := true, laidKinds := [.data], laidTests := true, laidLooks := .later }
def FrameBoundsCardSaid : Prop := Claim7.holds Tryd.pinned (.plain (OpenSpec.ofChange frameBoundsSpec)) frameBoundsCard

/-- THE TIED CARD OF 'peeragelaw23.FrameNil'. -/
def frameNilCard : Claim7 := { stood := { row := frameNilRow, standIns := [], harness := (true, "49330dbb7b1fd4518fe0bc879c66c1d8011efee2796f14ad958d0e81ce7108b8"), looks := false }, kinds := [], alts := [], laidByText := true, laidKinds := [.data], laidTests := true, laidLooks := .later }
def FrameNilCardSaid : Prop := Claim7.holds Tryd.pinned (.plain (OpenSpec.ofChange frameNilSpec)) frameNilCard

/-- THE SECOND FORM's CARD OF 'peeragelaw23.FrameMatches'. -/
def frameMatchesUptoCard : Claim7 := { stood := { row := frameMatchesUptoRow, standIns := [], harness := (true, "49330dbb7b1fd4518fe0bc879c66c1d8011efee2796f14ad958d0e81ce7108b8"), looks := false }, kinds := [], alts := [], laidByText := true, laidKinds := [.data], laidTests := true, laidLooks := .later }
def FrameMatchesUptoCardSaid : Prop := Claim7.holds Tryd.pinned (.plain (OpenSpec.upto frameMatchesSpec)) frameMatchesUptoCard

/-- THE SECOND FORM's CARD OF 'peeragelaw23.FrameCuts'. -/
def frameCutsUptoCard : Claim7 := { stood := { row := frameCutsUptoRow, standIns := [], harness := (true, "49330dbb7b1fd4518fe0bc879c66c1d8011efee2796f14ad958d0e81ce7108b8"), looks := false }, kinds := [], alts := [], laidByText := true, laidKinds := [.data], laidTests := true, laidLooks := .later }
def FrameCutsUptoCardSaid : Prop := Claim7.holds Tryd.pinned (.plain (OpenSpec.upto frameCutsSpec)) frameCutsUptoCard

/-- THE SECOND FORM's CARD OF 'peeragelaw23.FrameOnce'. -/
def frameOnceUptoCard : Claim7 := { stood := { row := frameOnceUptoRow, standIns := [], harness := (true, "49330dbb7b1fd4518fe0bc879c66c1d8011efee2796f14ad958d0e81ce7108b8"), looks := false }, kinds := [], alts := [], laidByText := true, laidKinds := [.data], laidTests := true, laidLooks := .later }
def FrameOnceUptoCardSaid : Prop := Claim7.holds Tryd.pinned (.plain (OpenSpec.upto frameOnceSpec)) frameOnceUptoCard

/-- THE SECOND FORM's CARD OF 'peeragelaw23.FrameBounds'. -/
def frameBoundsUptoCard : Claim7 := { stood := { row := frameBoundsUptoRow, standIns := [], harness := (true, "49330dbb7b1fd4518fe0bc879c66c1d8011efee2796f14ad958d0e81ce7108b8"), looks := false }, kinds := [], alts := [], laidByText := true, laidKinds := [.data], laidTests := true, laidLooks := .later }
def FrameBoundsUptoCardSaid : Prop := Claim7.holds Tryd.pinned (.plain (OpenSpec.upto frameBoundsSpec)) frameBoundsUptoCard

/-- THE SECOND FORM's CARD OF 'peeragelaw23.FrameNil'. -/
def frameNilUptoCard : Claim7 := { stood := { row := frameNilUptoRow, standIns := [], harness := (true, "49330dbb7b1fd4518fe0bc879c66c1d8011efee2796f14ad958d0e81ce7108b8"), looks := false }, kinds := [], alts := [], laidByText := true, laidKinds := [.data], laidTests := true, laidLooks := .later }
def FrameNilUptoCardSaid : Prop := Claim7.holds Tryd.pinned (.plain (OpenSpec.upto frameNilSpec)) frameNilUptoCard
end Rows
end Go.Proofs.YtgahjchngmojlabDoor

/-
  DERIVED. GIVEN WITH THE SEED: THE CARDS: each row of YtmcmhljonkijjabDoorRows.lean that lists a variable, with what it lists TIED to the program's text (the seventh form; the later family's looks); each row that meets fmt, with fmt's text TOLD by the authors' own Lean function (tested against real Go, not proved from fmt's source: count such statements apart). THE CARD IS WHAT COUNTS. Prove the row's statement (the work); the ties are given (YtmcmhljonkijjabDoorTie.lean); close each card by the builder's one call (the guide's Derived/Test/ToyasCard.lean, 'card_holds'). Laid BY PROGRAM, IN A SANDBOX (cutbox-door.mjs). By AI agents, Wed Nov 11 2026. No macro, syntax, notation, axiom, sorry.
-/
import Derived.Test.YtmcmhljonkijjabDoorRows
import GoSem.ClaimSeven
namespace Go.Proofs.YtmcmhljonkijjabDoor
namespace Rows

/-- THE TIED CARD OF 'peeragelaw06.SegmentSame'. -/
def segmentSameCard : Claim7 := { stood := { row := segmentSameRow, standIns := [], harness := (true, "28bd3328256d9bc527434ea59d548fb0e61ff822643d31e3c9f88009864cc78c"), looks := false }, kinds := [], alts := [], laidByText := true, laidKinds := [.data, .data, .data, .data], laidTests := true, laidLooks := .later }
def SegmentSameCardSaid : Prop := Claim7.holds Tryd.pinned (.plain (OpenSpec.ofChange segmentSameSpec)) segmentSameCard

/-- THE TIED CARD OF 'peeragelaw06.SegmentReads'. -/
def segmentReadsCard : Claim7 := { stood := { row := segmentReadsRow, standIns := [], harness := (true, "28bd3328256d9bc527434ea59d548fb0e61ff822643d31e3c9f88009864cc78c"), looks := false }, kinds := [], alts := [], laidByText := true, laidKinds := [.data, .data, .data, .data], laidTests := true, laidLooks := .later }
def SegmentReadsCardSaid : Prop := Claim7.holds Tryd.pinned (.plain (OpenSpec.ofChange segmentReadsSpec)) segmentReadsCard

/-- THE TIED CARD OF 'peeragelaw06.SegmentLengths'. -/
def segmentLengthsCard : Claim7 := { stood := { row := segmentLengthsRow, standIns := [], harness := (true, "28bd3328256d9bc527434ea59d548fb0e61ff822643d31e3c9f88009864cc78c"), looks := false }, kinds := [], alts := [], laidByText := true, laidKinds := [.data, .data, .data, .data], laidTests := true, laidLooks := .later }
def SegmentLengthsCardSaid : Prop := Claim7.holds Tryd.pinned (.plain (OpenSpec.ofChange segmentLengthsSpec)) segmentLengthsCard

/-- THE TIED CARD OF 'peeragelaw09.CommunityReads'. -/
def communityReadsCard : Claim7 := { stood := { row := communityReadsRow, standIns := [], harness := (true, "28bd3328256d9bc527434ea59d548fb0e61ff822643d31e3c9f88009864cc78c"), looks := false }, kinds := [], alts := [], laidByText := true, laidKinds := [.data, .data, .data], laidTests := true, laidLooks := .later }
def CommunityReadsCardSaid : Prop := Claim7.holds Tryd.pinned (.plain (OpenSpec.ofChange communityReadsSpec)) communityReadsCard

/-- THE TIED CARD OF 'peeragelaw09.CommunityKinds'. -/
def communityKindsCard : Claim7 := { stood := { row := communityKindsRow, standIns := [], harness := (true, "28bd3328256d9bc527434ea59d548fb0e61ff822643d31e3c9f88009864cc78c"), looks := false }, kinds := [], alts := [], laidByText := true, laidKinds := [.data, .data, .data], laidTests := true, laidLooks := .later }
def CommunityKindsCardSaid : Prop := Claim7.holds Tryd.pinned (.plain (OpenSpec.ofChange communityKindsSpec)) communityKindsCard

/-- THE TIED CARD OF 'peeragelaw09.CommunityForms'. -/
def communityFormsCard : Claim7 := { stood := { row := communityFormsRow, standIns := [], harness := (true, "28bd3328256d9bc527434ea59d548fb0e61ff822643d31e3c9f88009864cc78c"), looks := false }, kinds := [], alts := [], laidByText := true, laidKinds := [.data, .data, .data], laidTests := true, laidLooks := .later }
def CommunityFormsCardSaid : Prop := Claim7.holds Tryd.pinned (.plain (OpenSpec.ofChange communityFormsSpec)) communityFormsCard

/-- THE TIED CARD OF 'peeragelaw09.CommunityHas'. -/
def communityHasCard : Claim7 := { stood := { row := communityHasRow, standIns := [], harness := (true, "28bd3328256d9bc527434ea59d548fb0e61ff822643d31e3c9f88009864cc78c"), looks := false }, kinds := [], alts := [], laidByText := true, laidKinds := [.data, .data, .data], laidTests := true, laidLooks := .later }
def CommunityHasCardSaid : Prop := Claim7.holds Tryd.pinned (.plain (OpenSpec.ofChange communityHasSpec)) communityHasCard

/-- THE TIED CARD OF 'peeragelaw09.CommunityUnique'. -/
def communityUniqueCard : Claim7 := { stood := { row := communityUniqueRow, standIns := [], harness := (true, "28bd3328256d9bc527434ea59d548fb0e61ff822643d31e3c9f88009864cc78c"), looks := false }, kinds := [], alts := [], laidByText := true, laidKinds := [.data, .data, .data], laidTests := true, laidLooks := .later }
def CommunityUniqueCardSaid : Prop := Claim7.holds Tryd.pinned (.plain (OpenSpec.ofChange communityUniqueSpec)) communityUniqueCard

/-- THE SECOND FORM's CARD OF 'peeragelaw06.SegmentSame'. -/
def segmentSameUptoCard : Claim7 := { stood := { row := segmentSameUptoRow, standIns := [], harness := (true, "28bd3328256d9bc527434ea59d548fb0e61ff822643d31e3c9f88009864cc78c"), looks := false }, kinds := [], alts := [], laidByText := true, laidKinds := [.data, .data, .data, .data], laidTests := true, laidLooks := .later }
def SegmentSameUptoCardSaid : Prop := Claim7.holds Tryd.pinned (.plain (OpenSpec.upto segmentSameSpec)) segmentSameUptoCard

/-- THE SECOND FORM's CARD OF 'peeragelaw06.SegmentReads'. -/
def segmentReadsUptoCard : Claim7 := { stood := { row := segmentReadsUptoRow, standIns := [], harness := (true, "28bd3328256d9bc527434ea59d548fb0e61ff822643d31e3c9f88009864cc78c"), looks := false }, kinds := [], alts := [], laidByText := true, laidKinds := [.data, .data, .data, .data], laidTests := true, laidLooks := .later }
def SegmentReadsUptoCardSaid : Prop := Claim7.holds Tryd.pinned (.plain (OpenSpec.upto segmentReadsSpec)) segmentReadsUptoCard

/-- THE SECOND FORM's CARD OF 'peeragelaw06.SegmentLengths'. -/
def segmentLengthsUptoCard : Claim7 := { stood := { row := segmentLengthsUptoRow, standIns := [], harness := (true, "28bd3328256d9bc527434ea59d548fb0e61ff822643d31e3c9f88009864cc78c"), looks := false }, kinds := [], alts := [], laidByText := true, laidKinds := [.data, .data, .data, .data], laidTests := true, laidLooks := .later }
def SegmentLengthsUptoCardSaid : Prop := Claim7.holds Tryd.pinned (.plain (OpenSpec.upto segmentLengthsSpec)) segmentLengthsUptoCard

/-- THE SECOND FORM's CARD OF 'peeragelaw09.CommunityReads'. -/
def communityReadsUptoCard : Claim7 := { stood := { row := communityReadsUptoRow, standIns := [], harness := (true, "28bd3328256d9bc527434ea59d548fb0e61ff822643d31e3c9f88009864cc78c"), looks := false }, kinds := [], alts := [], laidByText := true, laidKinds := [.data, .data, .data], laidTests := true, laidLooks := .later }
def CommunityReadsUptoCardSaid : Prop := Claim7.holds Tryd.pinned (.plain (OpenSpec.upto communityReadsSpec)) communityReadsUptoCard

/-- THE SECOND FORM's CARD OF 'peeragelaw09.CommunityKinds'. -/
def communityKindsUptoCard : Claim7 := { stood := { row := communityKindsUptoRow, standIns := [], harness := (true, "28bd3328256d9bc527434ea59d548fb0e61ff822643d31e3c9f88009864cc78c"), looks := false }, kinds := [], alts := [], laidByText := true, laidKinds := [.data, .data, .data], laidTests := true, laidLooks := .later }
def CommunityKindsUptoCardSaid : Prop := Claim7.holds Tryd.pinned (.plain (OpenSpec.upto communityKindsSpec)) communityKindsUptoCard

/-- THE SECOND FORM's CARD OF 'peeragelaw09.CommunityForms'. -/
def communityFormsUptoCard : Claim7 := { stood := { row := communityFormsUptoRow, standIns := [], harness := (true, "28bd3328256d9bc527434ea59d548fb0e61ff822643d31e3c9f88009864cc78c"), looks := false }, kinds := [], alts := [], laidByText := true, laidKinds := [.data, .data, .data], laidTests := true, laidLooks := .later }
def CommunityFormsUptoCardSaid : Prop := Claim7.holds Tryd.pinned (.plain (OpenSpec.upto communityFormsSpec)) communityFormsUptoCard

/-- THE SECOND FORM's CARD OF 'peeragelaw09.CommunityHas'. -/
def communityHasUptoCard : Claim7 := { stood := { row := communityHasUptoRow, standIns := [], harness := (true, "28bd3328256d9bc527434ea59d548fb0e61ff822643d31e3c9f88009864cc78c"), looks := false }, kinds := [], alts := [], laidByText := true, laidKinds := [.data, .data, .data], laidTests := true, laidLooks := .later }
def CommunityHasUptoCardSaid : Prop := Claim7.holds Tryd.pinned (.plain (OpenSpec.upto communityHasSpec)) communityHasUptoCard

/-- THE SECOND FORM's CARD OF 'peeragelaw09.CommunityUnique'. -/
def communityUniqueUptoCard : Claim7 := { stood := { row := communityUniqueUptoRow, standIns := [], harness := (true, "28bd3328256d9bc527434ea59d548fb0e61ff822643d31e3c9f88009864cc78c"), looks := false }, kinds := [], alts := [], laidByText := true, laidKinds := [.data, .data, .data], laidTests := true, laidLooks := .later }
def CommunityUniqueUptoCardSaid : Prop := Claim7.holds Tryd.pinned (.plain (OpenSpec.upto communityUniqueSpec)) communityUniqueUptoCard
end Rows
end Go.Proofs.YtmcmhljonkijjabDoor

/-
  DERIVED. GIVEN WITH THE SEED: THE CARDS: each row of YtniheakafkakhabDoorRows.lean that lists a variable, with what it lists TIED to the program's text (the seventh form; the later family's looks); each row that meets fmt, with fmt's text TOLD by the authors' own Lean function (tested against real Go, not proved from fmt's source: count such statements apart). THE CARD IS WHAT COUNTS. Prove the row's statement (the work); the ties are given (YtniheakafkakhabDoorTie.lean); close each card by the builder's one call (the guide's Derived/Test/ToyasCard.lean, 'card_holds'). Laid BY PROGRAM, IN A SANDBOX (cutbox-door.mjs). By AI agents, Wed Nov 11 2026. No macro, syntax, notation, axiom, sorry.
-/
import Derived.Test.YtniheakafkakhabDoorRows
import GoSem.ClaimSeven
namespace Go.Proofs.YtniheakafkakhabDoor
namespace Rows

/-- THE TIED CARD OF 'peeragelaw21.MergeHeads'. -/
def mergeHeadsCard : Claim7 := { stood := { row := mergeHeadsRow, standIns := [], harness := (true, "c20e4bf655cd216e88f1fdf11d5c8cf965715f16d29120b039ac94597ad9bbcc"), looks := false }, kinds := [], alts := [], laidByText := true, laidKinds := [.data, .data, .data, .data], laidTests := true, laidLooks := .later }
def MergeHeadsCardSaid : Prop := Claim7.holds Tryd.pinned (.plain (OpenSpec.ofChange mergeHeadsSpec)) mergeHeadsCard

/-- THE TIED CARD OF 'peeragelaw21.MergePaths'. -/
def mergePathsCard : Claim7 := { stood := { row := mergePathsRow, standIns := [], harness := (true, "c20e4bf655cd216e88f1fdf11d5c8cf965715f16d29120b039ac94597ad9bbcc"), looks := false }, kinds := [], alts := [], laidByText := true, laidKinds := [.data, .data, .data, .data], laidTests := true, laidLooks := .later }
def MergePathsCardSaid : Prop := Claim7.holds Tryd.pinned (.plain (OpenSpec.ofChange mergePathsSpec)) mergePathsCard

/-- THE TIED CARD OF 'peeragelaw21.MergeNarrows'. -/
def mergeNarrowsCard : Claim7 := { stood := { row := mergeNarrowsRow, standIns := [], harness := (true, "c20e4bf655cd216e88f1fdf11d5c8cf965715f16d29120b039ac94597ad9bbcc"), looks := false }, kinds := [], alts := [], laidByText := true, laidKinds := [.data, .data, .data, .data], laidTests := true, laidLooks := .later }
def MergeNarrowsCardSaid : Prop := Claim7.holds Tryd.pinned (.plain (OpenSpec.ofChange mergeNarrowsSpec)) mergeNarrowsCard

/-- THE SECOND FORM's CARD OF 'peeragelaw21.MergeHeads'. -/
def mergeHeadsUptoCard : Claim7 := { stood := { row := mergeHeadsUptoRow, standIns := [], harness := (true, "c20e4bf655cd216e88f1fdf11d5c8cf965715f16d29120b039ac94597ad9bbcc"), looks := false }, kinds := [], alts := [], laidByText := true, laidKinds := [.data, .data, .data, .data], laidTests := true, laidLooks := .later }
def MergeHeadsUptoCardSaid : Prop := Claim7.holds Tryd.pinned (.plain (OpenSpec.upto mergeHeadsSpec)) mergeHeadsUptoCard

/-- THE SECOND FORM's CARD OF 'peeragelaw21.MergePaths'. -/
def mergePathsUptoCard : Claim7 := { stood := { row := mergePathsUptoRow, standIns := [], harness := (true, "c20e4bf655cd216e88f1fdf11d5c8cf965715f16d29120b039ac94597ad9bbcc"), looks := false }, kinds := [], alts := [], laidByText := true, laidKinds := [.data, .data, .data, .data], laidTests := true, laidLooks := .later }
def MergePathsUptoCardSaid : Prop := Claim7.holds Tryd.pinned (.plain (OpenSpec.upto mergePathsSpec)) mergePathsUptoCard

/-- THE SECOND FORM's CARD OF 'peeragelaw21.MergeNarrows'. -/
def mergeNarrowsUptoCard : Claim7 := { stood := { row := mergeNarrowsUptoRow, standIns := [], harness := (true, "c20e4bf655cd216e88f1fdf11d5c8cf965715f16d29120b039ac94597ad9bbcc"), looks := false }, kinds := [], alts := [], laidByText := true, laidKinds := [.data, .data, .data, .data], laidTests := true, laidLooks := .later }
def MergeNarrowsUptoCardSaid : Prop := Claim7.holds Tryd.pinned (.plain (OpenSpec.upto mergeNarrowsSpec)) mergeNarrowsUptoCard
end Rows
end Go.Proofs.YtniheakafkakhabDoor

/- What a tied row's condition gives the walks of layer 4 -/
import Derived.Test.YtgahjchngmojlabDoorTab
import Derived.Test.YtgahjchngmojlabDoorHdA
import Derived.Test.YtgahjchngmojlabDoorRows
import Derived.Deep.RegionHeld
namespace Go.Proofs.YtgahjchngmojlabDoor
open Go.ChangeShapes Go.WideShapes Go.RowKit

set_option maxRecDepth 100000 in
theorem rows_of {l : List (String × DataW Unit)} {W : World} (h : laidMetH Tryd.prog l W) (hp : (l.all fun x => x.2.handleName?.isNone) = true) (hm : ("peerage/header.rows", Rows.laid_peerage_header_rows) ∈ l) : HRows W := by
  rw [MakeChecks.laidMetH_plain _ _ _ hp] at h
  have hc := laid_cells h hm (g := 0) (t := 106) (by kernel_rfl) (by kernel_rfl) 5 (vals := [.string ⟨#[]⟩, .int .i64 0, .int .i64 0, .int .i64 0, .string ⟨#[79, 80, 69, 78]⟩, .int .i64 29, .int .i64 4096, .int .i64 4096, .string ⟨#[85, 80, 68, 65, 84, 69]⟩, .int .i64 23, .int .i64 4096, .int .i64 65535, .string ⟨#[78, 79, 84, 73, 70, 73, 67, 65, 84, 73, 79, 78]⟩, .int .i64 21, .int .i64 4096, .int .i64 65535, .string ⟨#[75, 69, 69, 80, 65, 76, 73, 86, 69]⟩, .int .i64 19, .int .i64 19, .int .i64 19, .string ⟨#[82, 79, 85, 84, 69, 45, 82, 69, 70, 82, 69, 83, 72]⟩, .int .i64 23, .int .i64 23, .int .i64 23]) (by kernel_rfl)
  have h0 := hc 0 _ rfl
  exact ⟨fun i v hi => hc i v (by simpa using hi), World.block_lt_of_cell? W _ h0⟩
end Go.Proofs.YtgahjchngmojlabDoor

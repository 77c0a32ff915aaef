/- What a tied row's condition gives the walks -/
import Derived.Test.YtniheakafkakhaaDoorTab
import Derived.Test.YtniheakafkakhaaDoorRfD
import Derived.Test.YtniheakafkakhaaDoorRows
import Derived.Deep.RegionHeld
namespace Go.Proofs.YtniheakafkakhaaDoor
open Go.ChangeShapes Go.WideShapes Go.RowKit

set_option maxRecDepth 100000 in
theorem fams_of {l : List (String × DataW Unit)} {W : World} (h : laidMetH Tryd.prog l W) (hp : (l.all fun x => x.2.handleName?.isNone) = true) (hm : ("peerage/mp.families", Rows.laid_peerage_mp_families) ∈ l) : Fams W := by
  rw [MakeChecks.laidMetH_plain _ _ _ hp] at h
  have hc := laid_cells h hm (g := 0) (t := 136) (by kernel_rfl) (by kernel_rfl) 5 (vals := [.string ⟨#[]⟩, .int .u32 0, .string ⟨#[105, 112, 118, 52]⟩, .int .u32 1, .string ⟨#[105, 112, 118, 54]⟩, .int .u32 2]) (by kernel_rfl)
  have h3 := hc 3 _ rfl
  exact ⟨h3, hc 5 _ rfl, World.block_lt_of_cell? W _ h3⟩
end Go.Proofs.YtniheakafkakhaaDoor

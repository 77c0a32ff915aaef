/- What a tied row's condition gives the walks that write numbers -/
import Derived.Test.YtngeldgohijheaaDoorTab
import Derived.Test.YtngeldgohijheaaDoorTen
import Derived.Test.YtngeldgohijheaaDoorRows
import Derived.Deep.RegionHeld
import Derived.Lib.LaidTab
namespace Go.Proofs.YtngeldgohijheaaDoor
open Go.ChangeShapes Go.WideShapes Go.RowKit

set_option maxRecDepth 100000 in
theorem tens_of {l : List (String × DataW Unit)} {W : World} (h : laidMetH Tryd.prog l W) (hp : (l.all fun x => x.2.handleName?.isNone) = true) (hm : ("internal/strconv.uint64pow10", Rows.laid_internal_strconv_uint64pow10) ∈ l) : Tens W := by
  rw [MakeChecks.laidMetH_plain _ _ _ hp] at h
  obtain ⟨ps, hl, _⟩ := h
  obtain ⟨g, t, cs, fuel, p, h1, h2, h3, h4⟩ := laid_read hl hm
  obtain rfl := Option.some.inj (tens_named.symm.trans h1)
  have ht : (Tryd.prog.globals[2]?).map (·.type) = some 141 := by kernel_rfl
  obtain rfl := Option.some.inj (ht.symm.trans h2)
  have hd : (Rows.laid_internal_strconv_uint64pow10 : DataW Unit) = Lib.tabData .u64 Lib.pow10Tab := rfl
  rw [hd] at h4
  have hc := Lib.cells_of_tab Tryd.underlying141 Tryd.underlying97 (by kernel_rfl) (by kernel_rfl) h4
  show W.var? _ _ = _
  rw [h3, ← hc]
end Go.Proofs.YtngeldgohijheaaDoor

/- What a tied row's condition gives the walks that write numbers and look into the table of families -/
import Derived.Test.YtiehbmhekncbhaaDoorTiedT
import Derived.Test.YtiehbmhekncbhaaDoorTied
namespace Go.Proofs.YtiehbmhekncbhaaDoor
open Go.RowKit

set_option maxRecDepth 100000 in
theorem tf_of {l : List (String × DataW Unit)} {W : World} (h : laidMetH Tryd.prog l W) (hp : (l.all fun x => x.2.handleName?.isNone) = true) (hm : ("internal/strconv.uint64pow10", Rows.laid_internal_strconv_uint64pow10) ∈ l) (hn : ("peerage/mp.families", Rows.laid_peerage_mp_families) ∈ l) : Tens W ∧ Fams W :=
  ⟨tens_of h hp hm, fams_of h hp hn⟩
end Go.Proofs.YtiehbmhekncbhaaDoor

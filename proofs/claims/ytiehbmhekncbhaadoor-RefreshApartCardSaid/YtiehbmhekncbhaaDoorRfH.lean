/- RefreshUseful: the walk -/
import Derived.Test.YtiehbmhekncbhaaDoorRfG
namespace Go.Proofs.YtiehbmhekncbhaaDoor
open Go.RowKit Extern.Stop

end Go.Proofs.YtiehbmhekncbhaaDoor

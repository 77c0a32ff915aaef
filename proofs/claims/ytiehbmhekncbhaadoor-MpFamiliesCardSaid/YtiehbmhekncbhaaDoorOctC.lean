/- OctetCats: the walk -/
import Derived.Test.YtiehbmhekncbhaaDoorTot
import Derived.Test.YtiehbmhekncbhaaDoorAlive
namespace Go.Proofs.YtiehbmhekncbhaaDoor
open Go.RowKit

end Go.Proofs.YtiehbmhekncbhaaDoor

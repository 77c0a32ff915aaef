/- peeragelaw01.alive -/
import Derived.Test.YtiehbmhekncbhaaDoorPut
import Derived.Deep.QuietTactic
import Derived.BigQuiet
namespace Go.Proofs.YtiehbmhekncbhaaDoor
open Go.RowKit

end Go.Proofs.YtiehbmhekncbhaaDoor

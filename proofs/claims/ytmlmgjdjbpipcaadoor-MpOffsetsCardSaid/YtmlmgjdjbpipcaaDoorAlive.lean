/- peeragelaw01.alive -/
import Derived.Test.YtmlmgjdjbpipcaaDoorPut
import Derived.Deep.QuietTactic
import Derived.BigQuiet
namespace Go.Proofs.YtmlmgjdjbpipcaaDoor
open Go.RowKit

end Go.Proofs.YtmlmgjdjbpipcaaDoor

/- peeragelaw01.alive -/
import Derived.Test.YtniheakafkakhaaDoorPut
import Derived.Deep.QuietTactic
import Derived.BigQuiet
namespace Go.Proofs.YtniheakafkakhaaDoor
open Go.RowKit

end Go.Proofs.YtniheakafkakhaaDoor

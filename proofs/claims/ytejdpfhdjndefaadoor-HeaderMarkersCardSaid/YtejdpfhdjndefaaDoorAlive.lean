/- peeragelaw01.alive -/
import Derived.Test.YtejdpfhdjndefaaDoorPut
import Derived.Deep.QuietTactic
import Derived.BigQuiet
namespace Go.Proofs.YtejdpfhdjndefaaDoor
open Go.RowKit

end Go.Proofs.YtejdpfhdjndefaaDoor

/- peeragelaw01.alive -/
import Derived.Test.YtniheakafkakhaaPut
import Derived.Deep.QuietTactic
import Derived.BigQuiet
namespace Go.Proofs.Ytniheakafkakhaa
open Go.RowKit

end Go.Proofs.Ytniheakafkakhaa

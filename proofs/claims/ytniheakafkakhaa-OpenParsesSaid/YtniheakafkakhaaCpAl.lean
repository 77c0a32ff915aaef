/- capability: alive -/
import Derived.Test.YtniheakafkakhaaCpC
namespace Go.Proofs.Ytniheakafkakhaa
open Go.RowKit

end Go.Proofs.Ytniheakafkakhaa

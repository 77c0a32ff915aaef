/- OctetCats: the walk -/
import Derived.Test.YtniheakafkakhaaTot
import Derived.Test.YtniheakafkakhaaAlive
namespace Go.Proofs.Ytniheakafkakhaa
open Go.RowKit

end Go.Proofs.Ytniheakafkakhaa

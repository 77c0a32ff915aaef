/- prefix.Valid -/
import Derived.Test.YtniheakafkakhaaPfxE
namespace Go.Proofs.Ytniheakafkakhaa
open Go.RowKit

end Go.Proofs.Ytniheakafkakhaa

/- OctetCats: the walk -/
import Derived.Test.YtniheakafkakhaaDoorTot
import Derived.Test.YtniheakafkakhaaDoorAlive
namespace Go.Proofs.YtniheakafkakhaaDoor
open Go.RowKit

end Go.Proofs.YtniheakafkakhaaDoor

/- prefix.Valid -/
import Derived.Test.YtniheakafkakhaaDoorPfxE
namespace Go.Proofs.YtniheakafkakhaaDoor
open Go.RowKit

end Go.Proofs.YtniheakafkakhaaDoor

/- prefix.Valid -/
import Derived.Test.YtniheakafkakhabDoorPfxE
namespace Go.Proofs.YtniheakafkakhabDoor
open Go.RowKit

end Go.Proofs.YtniheakafkakhabDoor

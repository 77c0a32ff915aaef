/- prefix.Valid -/
import Derived.Test.YtgahjchngmojlabDoorPfxE
namespace Go.Proofs.YtgahjchngmojlabDoor
open Go.RowKit

end Go.Proofs.YtgahjchngmojlabDoor

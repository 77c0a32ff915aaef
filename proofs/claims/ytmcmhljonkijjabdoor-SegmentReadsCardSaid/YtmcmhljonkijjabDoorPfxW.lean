/- prefix.Valid -/
import Derived.Test.YtmcmhljonkijjabDoorPfxE
namespace Go.Proofs.YtmcmhljonkijjabDoor
open Go.RowKit

end Go.Proofs.YtmcmhljonkijjabDoor

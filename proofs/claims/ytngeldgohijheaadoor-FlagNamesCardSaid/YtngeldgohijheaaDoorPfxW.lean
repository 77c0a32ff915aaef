/- prefix.Valid -/
import Derived.Test.YtngeldgohijheaaDoorPfxE
namespace Go.Proofs.YtngeldgohijheaaDoor
open Go.RowKit

end Go.Proofs.YtngeldgohijheaaDoor

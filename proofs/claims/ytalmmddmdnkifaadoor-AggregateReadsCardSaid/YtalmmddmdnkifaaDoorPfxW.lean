/- prefix.Valid -/
import Derived.Test.YtalmmddmdnkifaaDoorPfxE
namespace Go.Proofs.YtalmmddmdnkifaaDoor
open Go.RowKit

end Go.Proofs.YtalmmddmdnkifaaDoor

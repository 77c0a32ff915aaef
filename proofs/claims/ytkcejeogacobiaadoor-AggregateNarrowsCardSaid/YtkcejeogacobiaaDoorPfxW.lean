/- prefix.Valid -/
import Derived.Test.YtkcejeogacobiaaDoorPfxE
namespace Go.Proofs.YtkcejeogacobiaaDoor
open Go.RowKit

end Go.Proofs.YtkcejeogacobiaaDoor

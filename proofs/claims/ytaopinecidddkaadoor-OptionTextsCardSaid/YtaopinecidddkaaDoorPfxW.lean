/- prefix.Valid -/
import Derived.Test.YtaopinecidddkaaDoorPfxE
namespace Go.Proofs.YtaopinecidddkaaDoor
open Go.RowKit

end Go.Proofs.YtaopinecidddkaaDoor

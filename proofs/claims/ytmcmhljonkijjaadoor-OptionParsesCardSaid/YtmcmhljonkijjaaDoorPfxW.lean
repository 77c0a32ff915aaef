/- prefix.Valid -/
import Derived.Test.YtmcmhljonkijjaaDoorPfxE
namespace Go.Proofs.YtmcmhljonkijjaaDoor
open Go.RowKit

end Go.Proofs.YtmcmhljonkijjaaDoor

/- prefix.Valid -/
import Derived.Test.YtejdpfhdjndefaaDoorPfxE
namespace Go.Proofs.YtejdpfhdjndefaaDoor
open Go.RowKit

end Go.Proofs.YtejdpfhdjndefaaDoor

/- peerageref10.Canonical -/
import Derived.Test.YtngeldgohijheaaDoorFlCa
namespace Go.Proofs.YtngeldgohijheaaDoor
open Go.RowKit

end Go.Proofs.YtngeldgohijheaaDoor

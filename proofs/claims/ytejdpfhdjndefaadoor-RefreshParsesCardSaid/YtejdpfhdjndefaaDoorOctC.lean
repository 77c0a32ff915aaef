/- OctetCats: the walk -/
import Derived.Test.YtejdpfhdjndefaaDoorTot
import Derived.Test.YtejdpfhdjndefaaDoorAlive
namespace Go.Proofs.YtejdpfhdjndefaaDoor
open Go.RowKit

end Go.Proofs.YtejdpfhdjndefaaDoor

/- OctetCats: the walk -/
import Derived.Test.YtmlmgjdjbpipcaaDoorTot
import Derived.Test.YtmlmgjdjbpipcaaDoorAlive
namespace Go.Proofs.YtmlmgjdjbpipcaaDoor
open Go.RowKit

end Go.Proofs.YtmlmgjdjbpipcaaDoor

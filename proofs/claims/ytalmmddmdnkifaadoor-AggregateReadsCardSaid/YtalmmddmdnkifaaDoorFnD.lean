/- peerageref11.Text -/
import Derived.Test.YtalmmddmdnkifaaDoorFnC
namespace Go.Proofs.YtalmmddmdnkifaaDoor
open Go.RowKit Go.Sort

end Go.Proofs.YtalmmddmdnkifaaDoor

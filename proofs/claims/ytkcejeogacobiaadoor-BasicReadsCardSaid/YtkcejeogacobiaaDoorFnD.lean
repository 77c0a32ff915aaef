/- peerageref11.Text -/
import Derived.Test.YtkcejeogacobiaaDoorFnC
namespace Go.Proofs.YtkcejeogacobiaaDoor
open Go.RowKit Go.Sort

end Go.Proofs.YtkcejeogacobiaaDoor

/- peerageref11.Text -/
import Derived.Test.YtaopinecidddkaaDoorFnC
namespace Go.Proofs.YtaopinecidddkaaDoor
open Go.RowKit Go.Sort

end Go.Proofs.YtaopinecidddkaaDoor

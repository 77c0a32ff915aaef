/- peerageref11.Text -/
import Derived.Test.YtmcmhljonkijjaaDoorFnC
namespace Go.Proofs.YtmcmhljonkijjaaDoor
open Go.RowKit Go.Sort

end Go.Proofs.YtmcmhljonkijjaaDoor

/- peerageref01.Part -/
import Derived.Test.YtkcejeogacobiaaDoorRef1
namespace Go.Proofs.YtkcejeogacobiaaDoor
open Go.RowKit

end Go.Proofs.YtkcejeogacobiaaDoor

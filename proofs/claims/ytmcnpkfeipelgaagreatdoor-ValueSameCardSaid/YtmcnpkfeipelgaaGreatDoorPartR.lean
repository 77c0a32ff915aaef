/- peerageref01.Part -/
import Derived.Test.YtmcnpkfeipelgaaGreatDoorRef1
namespace Go.Proofs.YtmcnpkfeipelgaaGreatDoor
open Go.RowKit

end Go.Proofs.YtmcnpkfeipelgaaGreatDoor

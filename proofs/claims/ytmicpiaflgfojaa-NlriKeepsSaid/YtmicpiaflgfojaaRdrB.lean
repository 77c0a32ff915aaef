/- Readers whose bytes lie below a bound -/
import Derived.Test.YtmicpiaflgfojaaNum
namespace Go.Proofs.Ytmicpiaflgfojaa
open Go.RowKit

end Go.Proofs.Ytmicpiaflgfojaa

/- Readers whose bytes lie below a bound -/
import Derived.Test.YtgahjchngmojlaaNum
namespace Go.Proofs.Ytgahjchngmojlaa
open Go.RowKit

end Go.Proofs.Ytgahjchngmojlaa

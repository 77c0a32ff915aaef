/- NlriForms: the walk -/
import Derived.Test.YteoegejbaahlpaaAl3
namespace Go.Proofs.Yteoegejbaahlpaa
open Go.RowKit

end Go.Proofs.Yteoegejbaahlpaa

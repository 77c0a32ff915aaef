/- FindingTexts -/
import Derived.Test.YtaopinecidddkaaDoorFnE
namespace Go.Proofs.YtaopinecidddkaaDoor
open Go.RowKit Go.Sort

set_option maxRecDepth 100000 in
theorem vd_info5 (a b c d e : Value) : (Tryd.prog.info? 26).map (·.size) = some (#[a, b, c, d, e] : Array Value).size := by kernel_rfl
end Go.Proofs.YtaopinecidddkaaDoor

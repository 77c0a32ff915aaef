/- peerageref19.Valid, Make -/
import Derived.Test.YtniheakafkakhaaDoorRfB
namespace Go.Proofs.YtniheakafkakhaaDoor
open Go.RowKit Extern.Stop

def mkOk (f s : Int) : Bool := (decide (f = 1) || decide (f = 2)) && (decide (0 ≤ s) && decide (s ≤ 255))
def mkR (f s : Int) : Value := if mkOk f s then .agg #[.int .i64 f, .int .i64 s, .int .i64 1] else .agg #[.int .i64 0, .int .i64 0, .int .i64 0]
end Go.Proofs.YtniheakafkakhaaDoor

/- peerageref16.Bytes -/
import Derived.Test.YtniheakafkakhaaCpC
namespace Go.Proofs.Ytniheakafkakhaa
open Go.RowKit

theorem map8_append (xs ys : List Int) : (xs ++ ys).map (Value.int .u8) = xs.map (Value.int .u8) ++ ys.map (Value.int .u8) := List.map_append
end Go.Proofs.Ytniheakafkakhaa

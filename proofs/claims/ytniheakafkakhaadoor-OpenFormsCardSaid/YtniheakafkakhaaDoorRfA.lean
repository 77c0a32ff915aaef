/- option.Families, peerageref05.MP, peerageref19.Make -/
import Derived.Test.YtniheakafkakhaaDoorPut
namespace Go.Proofs.YtniheakafkakhaaDoor
open Go.RowKit

def opts (a0 a1 a2 a3 a4 a5 : Bool) : Value := .agg #[.bool a0, .bool a1, .bool a2, .bool a3, .bool a4, .bool a5]
def famsOf (a3 : Bool) : List Int := if a3 then [1, 2] else [1]
end Go.Proofs.YtniheakafkakhaaDoor

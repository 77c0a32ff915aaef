/- peerageref01: All, Cat, Take, Part, Big, Number -/
import Derived.Test.YtecbbjdcnlocdaaDoorEq
import Derived.Test.YtecbbjdcnlocdaaDoorAll
import Derived.Deep.RegionWith
namespace Go.Proofs.YtecbbjdcnlocdaaDoor
open Go.RowKit

/-- The slice (A1, m) holds what the slice (A, n) holds behind its first k bytes, in every world. -/
def Behind (A : Option Addr) (n k : Nat) (A1 : Option Addr) : Prop := ∀ (W : World) (B : Nat) (xs : List Int), Bytes W B A n xs → Bytes W B A1 (n - k) (xs.drop k)

end Go.Proofs.YtecbbjdcnlocdaaDoor

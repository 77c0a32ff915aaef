/- HeaderForms: the walk, every kind -/
import Derived.Test.YtejdpfhdjndefaaDoorHdGa
import Derived.Test.YtejdpfhdjndefaaDoorHdGb
namespace Go.Proofs.YtejdpfhdjndefaaDoor
open Go.RowKit

set_option maxRecDepth 100000 in
theorem hforms_all (a0 a1 a2 a3 a4 a5 : Bool) (n k : Int) (w : World) (ht : HRows w) :
    Calls Tryd.prog 5 #[.agg #[.bool a0, .bool a1, .bool a2, .bool a3, .bool a4, .bool a5], .int .i64 n, .int .i64 k] w fun e w' => e = .returned (.bool true) ∧ Below w.heap.size w w' := by
  by_cases h0 : k < 1
  · exact hforms_lo a0 a1 a2 a3 a4 a5 n k h0 w ht
  by_cases h1 : 5 < k
  · exact hforms_hi a0 a1 a2 a3 a4 a5 n k h1 w ht
  rcases (by omega : k = 1 ∨ k = 2 ∨ k = 3 ∨ k = 4 ∨ k = 5) with rfl | rfl | rfl | rfl | rfl
  · exact hforms_1 a0 a1 a2 a3 a4 a5 n w ht
  · exact hforms_2 a0 a1 a2 a3 a4 a5 n w ht
  · exact hforms_3 a0 a1 a2 a3 a4 a5 n w ht
  · exact hforms_4 a0 a1 a2 a3 a4 a5 n w ht
  · exact hforms_5 a0 a1 a2 a3 a4 a5 n w ht
end Go.Proofs.YtejdpfhdjndefaaDoor

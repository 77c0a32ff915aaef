/- RefreshParses: the walk -/
import Derived.Test.YtiehbmhekncbhaaDoorRfJ
import Derived.Test.YtiehbmhekncbhaaDoorRfI
namespace Go.Proofs.YtiehbmhekncbhaaDoor
open Go.RowKit Extern.Stop

set_option maxRecDepth 100000 in
theorem rf_eql_same (a b c : Int) (W : World) : (binOp .eql 70 (.agg #[.int .i64 a, .int .i64 b, .int .i64 c]) (.agg #[.int .i64 a, .int .i64 b, .int .i64 c])).run Tryd.prog W = Result.ok (.bool true) W := by
  rw [rf_eql]; simp
theorem rfForm_back {x0 x1 x2 x3 : Int} (l0 : 0 ≤ x0) (u0 : x0 ≤ 255) (l1 : 0 ≤ x1) (u1 : x1 ≤ 255) : rfForm (x0 * 256 + x1) x2 x3 = [x0, x1, x2, x3] := by
  unfold rfForm
  rw [show (2 : Int).toNat = 2 from rfl, digitsOf_2]
  rw [show (x0 * 256 + x1) / 256 % 256 = x0 by omega, show (x0 * 256 + x1) % 256 = x1 by omega]
  rfl
end Go.Proofs.YtiehbmhekncbhaaDoor

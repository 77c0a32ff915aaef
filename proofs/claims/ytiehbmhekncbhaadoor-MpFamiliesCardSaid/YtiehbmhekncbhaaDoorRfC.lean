/- peerageref19.Valid, Make -/
import Derived.Test.YtiehbmhekncbhaaDoorRfB
namespace Go.Proofs.YtiehbmhekncbhaaDoor
open Go.RowKit Extern.Stop

set_option maxRecDepth 100000 in
set_option maxHeartbeats 800000 in
theorem rrfvalid_any (a b c : Int) (w : World) :
    Calls Tryd.prog 63 #[.agg #[.int .i64 a, .int .i64 b, .int .i64 c]] w fun e w' => e = .returned (.bool (rfOk a b c)) ∧ Below w.heap.size w w' := by
  have hb0 := bl_alloc (bl_refl w) (.cells #[.int .i64 a, .int .i64 b, .int .i64 c] 68)
  have HO := Lib.hid (show rfOk a b c = ((((((decide (0 ≤ a) && decide (a ≤ 65535)) && decide (0 ≤ b)) && decide (b ≤ 255)) && decide (0 ≤ c)) && decide (c ≤ 255))) by
    unfold rfOk
    simp only [Bool.decide_and, Bool.and_assoc])
  go_enter Tryd.func63, Tryd.ntmps63
  go_wp2
  all_goals go_ret
  all_goals refine ⟨?_, hb0⟩
  all_goals rw [HO.out]
  all_goals first | rfl | (simp_all; done) | (simp_all; omega)
def mkOk (f s : Int) : Bool := (decide (f = 1) || decide (f = 2)) && (decide (0 ≤ s) && decide (s ≤ 255))
def mkR (f s : Int) : Value := if mkOk f s then .agg #[.int .i64 f, .int .i64 s, .int .i64 1] else .agg #[.int .i64 0, .int .i64 0, .int .i64 0]
end Go.Proofs.YtiehbmhekncbhaaDoor

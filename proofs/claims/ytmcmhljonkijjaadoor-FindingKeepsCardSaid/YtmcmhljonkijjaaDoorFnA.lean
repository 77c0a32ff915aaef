/- finding.Proper and its reference -/
import Derived.Test.YtmcmhljonkijjaaDoorRHex
namespace Go.Proofs.YtmcmhljonkijjaaDoor
open Go.RowKit Go.Sort

/-- A proper verdict. -/
def vdOk (k c s : Int) (n : Nat) (t : Int) : Bool :=
  decide (0 ≤ t ∧ ((k = 0 ∧ c = 0 ∧ s = 0 ∧ n = 0 ∧ t = 0) ∨ ((k = 1 ∨ k = 2) ∧ c = 0 ∧ s = 0 ∧ n = 0) ∨ (k = 3 ∧ c = 0 ∧ (s = 1 ∨ s = 2) ∧ n = 0) ∨ (k = 4 ∧ 1 ≤ c ∧ c ≤ 6 ∧ 0 ≤ s ∧ s ≤ 255)))
theorem ret_bool {a b : Bool} (h : a = b) : Ending.returned (.bool a) = .returned (.bool b) := by rw [h]
set_option maxRecDepth 100000 in
set_option maxHeartbeats 1600000 in
theorem fproper_any (k c s t : Int) (A : Option Addr) (n cp : Nat) (w : World) :
    Calls Tryd.prog 72 #[.agg #[.int .i64 k, .int .i64 c, .int .i64 s, .slice A n cp, .int .i64 t]] w fun e w' => e = .returned (.bool (vdOk k c s n t)) ∧ Below w.heap.size w w' := by
  go_enter Tryd.func72, Tryd.ntmps72
  go_wp2
  all_goals go_ret
  all_goals refine ⟨ret_bool ?_, bl_alloc (bl_refl w) _⟩
  all_goals (unfold vdOk; rw [Bool.eq_iff_iff]; simp only [decide_eq_true_eq, beq_iff_eq, Bool.false_eq_true, false_iff, true_iff, eq_self, beq_eq_false_iff_ne, ne_eq, Bool.or_eq_true] at *; omega)
end Go.Proofs.YtmcmhljonkijjaaDoor

/- RefreshMakes: the walk -/
import Derived.Test.YtiehbmhekncbhaaDoorRfH
namespace Go.Proofs.YtiehbmhekncbhaaDoor
open Go.RowKit Extern.Stop

theorem own_six {W : World} {g : Nat} {T : TypeId} {a0 a1 a2 a3 a4 a5 : Bool} (o : Own W g T #[.bool a0, .bool a1, .bool a2, .bool a3, .bool a4, .bool a5]) :
    W.cell? ⟨g, 0, none⟩ = some (.bool a0) ∧ W.cell? ⟨g, 1, none⟩ = some (.bool a1) ∧ W.cell? ⟨g, 2, none⟩ = some (.bool a2) ∧ W.cell? ⟨g, 3, none⟩ = some (.bool a3) ∧ W.cell? ⟨g, 4, none⟩ = some (.bool a4) ∧ W.cell? ⟨g, 5, none⟩ = some (.bool a5) :=
  ⟨o.cell rfl, o.cell rfl, o.cell rfl, o.cell rfl, o.cell rfl, o.cell rfl⟩
theorem own_thr {W : World} {k : Nat} {U : TypeId} {a b c : Int} (p : Own W k U #[.int .i64 a, .int .i64 b, .int .i64 c]) :
    W.cell? ⟨k, 0, none⟩ = some (.int .i64 a) ∧ W.cell? ⟨k, 1, none⟩ = some (.int .i64 b) ∧ W.cell? ⟨k, 2, none⟩ = some (.int .i64 c) := ⟨p.cell rfl, p.cell rfl, p.cell rfl⟩
set_option maxRecDepth 100000 in
theorem rf_neq_same (a b c : Int) (W : World) : (binOp .neq 70 (.agg #[.int .i64 a, .int .i64 b, .int .i64 c]) (.agg #[.int .i64 a, .int .i64 b, .int .i64 c])).run Tryd.prog W = Result.ok (.bool false) W := by
  rw [rf_neq]; simp
end Go.Proofs.YtiehbmhekncbhaaDoor

/- peerageref06.Narrow, right, Valid -/
import Derived.Test.YtngeldgohijheaaDoorSgN
namespace Go.Proofs.YtngeldgohijheaaDoor
open Go.RowKit Go.Sort

theorem seg_two {W : World} {g : Nat} {T : TypeId} {a b : Value} (o : Own W g T #[a, b]) : W.cell? ⟨g, 0, none⟩ = some a ∧ W.cell? ⟨g, 1, none⟩ = some b := ⟨o.cell rfl, o.cell rfl⟩
end Go.Proofs.YtngeldgohijheaaDoor

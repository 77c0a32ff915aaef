/- OctetKeeps: the walk -/
import Derived.Test.YtejdpfhdjndefaaDoorTot
import Derived.Test.YtejdpfhdjndefaaDoorAlive
namespace Go.Proofs.YtejdpfhdjndefaaDoor
open Go.RowKit

theorem own_store {w : World} {base : Nat} {e : TypeId} {n k : Nat} {v : Value} {ys : List Int} (h : w.ownsRow base e 1 v n (ys.map (Value.int .u8))) (hk : k < n) :
    ∃ b c, v = .slice (some ⟨b, 0, none⟩) n c ∧ base ≤ b ∧ b < w.heap.size ∧ w.cell? ⟨b, k, none⟩ = some (.int .u8 (nth ys k)) ∧ w.frozen? ⟨b, k, none⟩ = false ∧
      ∀ z : Int, (w.setCell ⟨b, k, none⟩ (.int .u8 z)).ownsRow base e 1 v n ((ys.set k z).map (Value.int .u8)) ∧ w.grownBy (w.setCell ⟨b, k, none⟩ (.int .u8 z)) (some b) := by
  have hlen : ys.length = n := by have := h.1; simpa using this
  have h0 := h
  rcases h.2 with ⟨_, h2⟩ | ⟨g, cap, cur, rfl, hb, hg, _⟩
  · omega
  · have hc := h0.cellAt k (by omega)
    rw [List.getElem?_map, nth_some (by omega)] at hc
    refine ⟨g, cap, rfl, hb, (Array.getElem?_eq_some_iff.1 hg).1, hc, h0.frozenAt k, fun z => ?_⟩
    have hst := h0.stored k (.int .u8 z)
    refine ⟨?_, only_setCell (p := ⟨g, k, none⟩) (World.grownBy.refl w _) rfl _⟩
    rw [List.map_set]
    exact hst.1

end Go.Proofs.YtejdpfhdjndefaaDoor

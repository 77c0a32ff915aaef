/- peerageref03.Valid, form, Bytes -/
import Derived.Test.YtngeldgohijheaaDoorNb
namespace Go.Proofs.YtngeldgohijheaaDoor
open Go.RowKit

theorem own_base_le {w : World} {base b : Nat} {e : TypeId} {size n : Nat} {v : Value} {xs : List Value} (h : w.ownsRow base e size v n xs) (hb : b ≤ base) : w.ownsRow b e size v n xs := by
  refine ⟨h.1, ?_⟩
  rcases h.2 with hn | ⟨g, cap, cur, hv, hbg, rest⟩
  · exact .inl hn
  · exact .inr ⟨g, cap, cur, hv, Nat.le_trans hb hbg, rest⟩

end Go.Proofs.YtngeldgohijheaaDoor

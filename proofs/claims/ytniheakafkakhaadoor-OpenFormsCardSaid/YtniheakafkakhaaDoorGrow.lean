/- slices.Grow of nil and slices.Concat, at bytes -/
import Derived.Test.YtniheakafkakhaaDoorCat
import Derived.Test.YtniheakafkakhaaDoorOwn
namespace Go.Proofs.YtniheakafkakhaaDoor
open Go.RowKit

theorem own_head {w : World} {base : Nat} {e : TypeId} {size n cap : Nat} {A : Option Addr} {xs : List Value} (h : w.ownsRow base e size (.slice A n cap) n xs) : w.ownsRow base e size (.slice A 0 cap) 0 [] := by
  refine ⟨by simp, ?_⟩
  rcases h.2 with ⟨hv, hn⟩ | ⟨g, cap', cur, hv, hb, hg, hnc, hm, hs, htake⟩
  · injection hv with h1 h2 h3
    subst h1 h3
    exact .inl ⟨rfl, rfl⟩
  · injection hv with h1 h2 h3
    subst h1 h3
    exact .inr ⟨g, cap, cur, rfl, hb, hg, Nat.zero_le _, hm, hs, by simp⟩
end Go.Proofs.YtniheakafkakhaaDoor

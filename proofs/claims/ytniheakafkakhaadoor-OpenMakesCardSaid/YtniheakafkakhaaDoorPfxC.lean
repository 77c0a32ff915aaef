/- peerageref02.Bytes -/
import Derived.Test.YtniheakafkakhaaDoorPfxB
namespace Go.Proofs.YtniheakafkakhaaDoor
open Go.RowKit

theorem own_blk {w : World} {base g : Nat} {e t : TypeId} {size n : Nat} {v : Value} {xs : List Value} {cs : Array Value} (h : w.ownsRow base e size v n xs) (ho : Own w g t cs) (hne : e ≠ t) : v.ownBlock ≠ some g := by
  rcases h.2 with ⟨rfl, _⟩ | ⟨g', cap, cur, rfl, _, hg, _⟩
  · simp [Value.ownBlock]
  · intro he
    have : g' = g := by simpa [Value.ownBlock] using he
    subst this
    unfold Own at ho
    rw [hg] at ho
    injection ho with ho
    injection ho with _ h2 _
    exact hne h2
theorem form_step {l : Int} {a : List Int} {k : Nat} (ha : a.length = 16) (hk : k < 16) : (l :: a.take k) ++ [nth a k] = l :: a.take (k + 1) := by
  rw [take_nth (by omega)]; rfl

end Go.Proofs.YtniheakafkakhaaDoor

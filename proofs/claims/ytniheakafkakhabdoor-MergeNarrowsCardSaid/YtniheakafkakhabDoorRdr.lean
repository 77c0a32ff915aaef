/- octet.New, Reader.some, cursor.next, place, size -/
import Derived.Test.YtniheakafkakhabDoorOwn
import Derived.Test.YtniheakafkakhabDoorCat
namespace Go.Proofs.YtniheakafkakhabDoor
open Go.RowKit

theorem flat_one (p : Part) : flat [p] = p.xs := by simp [flat]
theorem parts_one {w : World} {A : Option Addr} {n c : Nat} {xs : List Int} (hx : Bytes w w.heap.size A n xs) (t : TypeId) :
    Parts (w.alloc (.cells #[.slice A n c] t)) (w.alloc (.cells #[.slice A n c] t)).heap.size (some ⟨w.heap.size, 0, none⟩) 1 [⟨A, n, c, xs⟩] := by
  have hb : Below w.heap.size w (w.alloc (.cells #[.slice A n c] t)) := (Below.refl _ _).alloc (Nat.le_refl _) _
  refine ⟨rfl, ?_, Shows.of_owned (Own.new w t _) (by simp)⟩
  intro p hp
  simp at hp
  subst hp
  exact (hx.below hb).more (by simp)

theorem own_two {w : World} {g : Nat} {t : TypeId} {a b : Value} (h : Own w g t #[a, b]) (x y : Value) :
    Own ((w.setCell ⟨g, 0, none⟩ x).setCell ⟨g, 1, none⟩ y) g t #[x, y] ∧ w.grownBy ((w.setCell ⟨g, 0, none⟩ x).setCell ⟨g, 1, none⟩ y) (some g) := by
  constructor
  · have h2 := (h.set_ 0 x).set_ 1 y
    simpa using h2
  · exact only_setCell (p := ⟨g, 1, none⟩) (only_setCell (p := ⟨g, 0, none⟩) (World.grownBy.refl w (some g)) rfl x) rfl y
end Go.Proofs.YtniheakafkakhabDoor

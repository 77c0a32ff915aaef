/- header.failure, peerageref04.bad, slices.IndexFunc at bytes that are not 255 -/
import Derived.Test.YtaopinecidddkaaDoorHdG
namespace Go.Proofs.YtaopinecidddkaaDoor
open Go.RowKit

set_option maxRecDepth 100000 in
theorem vd_desc : Tryd.prog.underlying 26 = some (.struct (Tryd.prog.fieldsOf 26)) := by kernel_rfl
set_option maxRecDepth 100000 in
theorem vd_info (a b c d e : Value) : (Tryd.prog.info? 26).map (·.size) = some (#[a, b, c, d, e] : Array Value).size := by kernel_rfl
theorem own_five {w : World} {g : Nat} {t : TypeId} {a b c d e : Value} (h : Own w g t #[a, b, c, d, e]) (x y z u v : Value) :
    Own (((((w.setCell ⟨g, 0, none⟩ x).setCell ⟨g, 1, none⟩ y).setCell ⟨g, 2, none⟩ z).setCell ⟨g, 3, none⟩ u).setCell ⟨g, 4, none⟩ v) g t #[x, y, z, u, v] := by
  have h2 := ((((h.set_ 0 x).set_ 1 y).set_ 2 z).set_ 3 u).set_ 4 v
  simpa using h2
theorem below_five {w V : World} {g : Nat} (hb : Below w.heap.size w V) (hg : w.heap.size ≤ g) (x y z u v : Value) :
    Below w.heap.size w (((((V.setCell ⟨g, 0, none⟩ x).setCell ⟨g, 1, none⟩ y).setCell ⟨g, 2, none⟩ z).setCell ⟨g, 3, none⟩ u).setCell ⟨g, 4, none⟩ v) :=
  ((((hb.setCell (p := ⟨g, 0, none⟩) hg x).setCell (p := ⟨g, 1, none⟩) hg y).setCell (p := ⟨g, 2, none⟩) hg z).setCell (p := ⟨g, 3, none⟩) hg u).setCell (p := ⟨g, 4, none⟩) hg v
theorem parts_one4 {W : World} {j : Nat} {T : TypeId} {A1 : Option Addr} {n1 c1 : Nat} {xs1 : List Int} (ho : Own W j T #[.slice A1 n1 c1]) (h1 : Bytes W W.heap.size A1 n1 xs1) :
    Parts W W.heap.size (some ⟨j, 0, none⟩) 1 [⟨A1, n1, c1, xs1⟩] := by
  refine ⟨rfl, fun p hp => ?_, Shows.of_owned ho ho.lt⟩
  simp at hp
  rw [hp]
  exact h1
end Go.Proofs.YtaopinecidddkaaDoor

/- Struct arguments with bytes among their fields -/
import Derived.Test.YtniheakafkakhaaDoorStruct
namespace Go.Proofs.YtniheakafkakhaaDoor
open Go.ChangeShapes Go.WideShapes Go.ChangeAt Go.RowKit Go.Deep

section
variable {H : Type} {enc : TypeId × Value → H} {P : Program} {w : World} {spare : Nat → Bool} {held : Bool}
theorem leaf_bytes {n : Nat} {t : TypeId} {i : Nat} {l q : TypeId} (hl : leafAt P n t i = some l) (he : P.underlying l = some (.slice q)) (hq : P.underlying q = some (.int .u8)) (hc : P.cellsOf q = 1) {fuel : Nat} {cs : List Value} {x : DataW H × List MemPlace}
    (hx : DataW.trod enc P w 0 spare held fuel t cs = some x) (hi : i < cs.length) (hsp : ∀ b, spare b = true) :
    ∃ A n c xs, cs[i]? = some (.slice A n c) ∧ n ≤ c ∧ c ≤ maxLen ∧ Bytes w w.heap.size A n xs := by
  obtain ⟨f, y, hy⟩ := leaf_any hl hx (List.getElem?_eq_getElem hi)
  obtain ⟨A, n, c, xs, hv, h1, h2, h3⟩ := bytes_of_trod he hq hc hy hsp
  exact ⟨A, n, c, xs, by rw [List.getElem?_eq_getElem hi, hv], h1, h2, h3⟩
end
theorem arr5 {C : Array Value} {x y z u v : Value} (h : C.size = 5) (h0 : C.toList[0]? = some x) (h1 : C.toList[1]? = some y) (h2 : C.toList[2]? = some z) (h3 : C.toList[3]? = some u) (h4 : C.toList[4]? = some v) : C = #[x, y, z, u, v] := by
  obtain ⟨l⟩ := C
  match l, h, h0, h1, h2, h3, h4 with
  | [a, b, c, d, e], _, h0, h1, h2, h3, h4 =>
    simp at h0 h1 h2 h3 h4
    subst h0 h1 h2 h3 h4
    rfl
end Go.Proofs.YtniheakafkakhaaDoor

/- an OPEN of the reference that came in -/
import Derived.Test.YtniheakafkakhaaCpA
import Derived.Test.YtniheakafkakhaaOpen
namespace Go.Proofs.Ytniheakafkakhaa
open Go.ChangeShapes Go.WideShapes Go.ChangeAt Go.RowKit Go.Deep
theorem arr4O {C : Array Value} {x y z u : Value} (h : C.size = 4) (h0 : C.toList[0]? = some x) (h1 : C.toList[1]? = some y) (h2 : C.toList[2]? = some z) (h3 : C.toList[3]? = some u) : C = #[x, y, z, u] := by
  obtain ⟨l⟩ := C
  match l, h, h0, h1, h2, h3 with
  | [a, b, c, d], _, h0, h1, h2, h3 =>
    simp at h0 h1 h2 h3
    subst h0 h1 h2 h3
    rfl
section
variable {H : Type} {enc : TypeId × Value → H} {w : World} {spare : Nat → Bool} {held : Bool}
set_option maxRecDepth 100000 in
theorem open_opn {C : Array Value} {fuel : Nat} {x : DataW H × List MemPlace} (hz : C.size = Try.prog.cellsOf 34) (hx : DataW.trod enc Try.prog w 0 spare held fuel 34 C.toList = some x) (hsp : ∀ b, spare b = true) :
    ∃ p q r A n c ss, C = #[.int .u32 p, .int .i64 q, .int .u32 r, .slice A n c] ∧ (0 ≤ p ∧ p < 4294967296) ∧ (Lit.int .i64 q).wf = true ∧ (0 ≤ r ∧ r < 4294967296) ∧ n ≤ c ∧ c ≤ maxLen ∧ Caps w w.heap.size A n ss := by
  have hz4 : C.size = 4 := hz.trans (by kernel_rfl)
  have hll : ∀ i, i < 4 → ∃ v, C.toList[i]? = some v := fun i hi => ⟨C.toList[i]'(by rw [Array.length_toList]; omega), List.getElem?_eq_getElem _⟩
  obtain ⟨p, e0, w0⟩ := leaf_int (n := 5) (i := 0) (l := 24) (by kernel_rfl) Try.underlying24 hx
  obtain ⟨q, e1, w1⟩ := leaf_int (n := 5) (i := 1) (l := 3) (by kernel_rfl) Try.underlying3 hx
  obtain ⟨r, e2, w2⟩ := leaf_int (n := 5) (i := 2) (l := 24) (by kernel_rfl) Try.underlying24 hx
  obtain ⟨v3, e3⟩ := hll 3 (by omega)
  obtain ⟨_, _, t3⟩ := leaf_any (n := 5) (i := 3) (l := 32) (by kernel_rfl) hx e3
  obtain ⟨A, n, c, ss, rfl, g1, g2, g3⟩ := caps_of_trod Try.underlying32 t3 hsp
  exact ⟨p, q, r, A, n, c, ss, arr4O hz4 e0 e1 e2 e3, wf_u32 w0, w1, wf_u32 w2, g1, g2, g3⟩
end
end Go.Proofs.Ytniheakafkakhaa

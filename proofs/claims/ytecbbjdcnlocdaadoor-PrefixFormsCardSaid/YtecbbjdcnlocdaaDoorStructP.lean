/- Prefixes that come in by value -/
import Derived.Test.YtecbbjdcnlocdaaDoorLeaf
import Derived.Test.YtecbbjdcnlocdaaDoorPfxV
namespace Go.Proofs.YtecbbjdcnlocdaaDoor
open Go.ChangeShapes Go.WideShapes Go.ChangeAt Go.RowKit Go.Deep

section
variable {H : Type} {enc : TypeId × Value → H} {w : World} {base : Nat} {spare : Nat → Bool} {held : Bool}
set_option maxRecDepth 100000 in
theorem open_pfx {C : Array Value} {fuel : Nat} {x : DataW H × List MemPlace} (hz : C.size = Tryd.prog.cellsOf 41) (hx : DataW.trod enc Tryd.prog w base spare held fuel 41 C.toList = some x) :
    ∃ f l us, C = pfx f l us ∧ IsAddr us ∧ (Lit.int .i64 f).wf = true ∧ (Lit.int .i64 l).wf = true := by
  have hz18 : C.size = 18 := hz.trans (by kernel_rfl)
  obtain ⟨f, hf, wf⟩ := leaf_int (n := 5) (i := 0) (l := 3) (by kernel_rfl) Tryd.underlying3 hx
  obtain ⟨l, hl, wl⟩ := leaf_int (n := 5) (i := 1) (l := 3) (by kernel_rfl) Tryd.underlying3 hx
  have hu : ∀ j, j < 16 → leafAt Tryd.prog 5 41 (2 + j) = some 5 := of_decide_eq_true (by kernel_rfl)
  obtain ⟨us, hus, hup⟩ := list_of (n := 16) (p := fun j (q : Int) => C.toList[2 + j]? = some (.int .u8 q) ∧ (Lit.int .u8 q).wf = true) (fun j hj => leaf_int (hu j hj) Tryd.underlying5 hx)
  have hur : IsAddr us := ⟨hus, fun q hq => by
    obtain ⟨j, hj⟩ := List.getElem?_of_mem hq
    exact wf_u8 (hup j q hj).2⟩
  refine ⟨f, l, us, ?_, hur, wf, wl⟩
  apply Array.ext_getElem?
  intro i
  by_cases hi : i < 18
  · match i, hi with
    | 0, _ => rw [pfx_0, ← Array.getElem?_toList]; exact hf
    | 1, _ => rw [pfx_1, ← Array.getElem?_toList]; exact hl
    | j + 2, hi =>
      rw [show j + 2 = 2 + j by omega, pfx_at, arr_get (by rw [hus]; omega), ← Array.getElem?_toList]
      exact (hup j _ (nth_some (by rw [hus]; omega))).1
  · rw [Array.getElem?_eq_none (by omega), Array.getElem?_eq_none (by rw [pfx_size hus]; omega)]
end
end Go.Proofs.YtecbbjdcnlocdaaDoor

/- segment.Same and its reference -/
import Derived.Test.YtecbbjdcnlocdaaDoorSgA
namespace Go.Proofs.YtecbbjdcnlocdaaDoor
open Go.RowKit

/-- What Same compares of a segment. -/
def sgK (s : Sg) : Int × List Int := (s.k, s.xs)
theorem sgtake_step {ss ts : List Sg} {k : Nat} (hk : k < ss.length) (hk' : k < ts.length) (h : (ss.map sgK).take k = (ts.map sgK).take k) (e : sgK (sgth ss k) = sgK (sgth ts k)) : (ss.map sgK).take (k + 1) = (ts.map sgK).take (k + 1) := by
  rw [List.take_add_one, List.take_add_one, h, List.getElem?_map, List.getElem?_map, sgth_some hk, sgth_some hk', Option.map_some, Option.map_some, e]
theorem sgne {ss ts : List Sg} {k : Nat} (hk : k < ss.length) (hk' : k < ts.length) (e : sgK (sgth ss k) ≠ sgK (sgth ts k)) : ss.map sgK ≠ ts.map sgK := fun h => e (by
  have h2 := congrArg (fun l => l[k]?) h
  simpa [List.getElem?_map, sgth_some hk, sgth_some hk'] using h2)
theorem sgK_ne {k k' : Int} {A A' : Option Addr} {n n' c c' : Nat} {xs xs' : List Int} (h : ¬ (k = k' ∧ xs = xs')) : sgK ⟨k, A, n, c, xs⟩ ≠ sgK ⟨k', A', n', c', xs'⟩ := fun e => h (Prod.mk.injEq .. ▸ e)
theorem sgK_eq {k k' : Int} {A A' : Option Addr} {n n' c c' : Nat} {xs xs' : List Int} (h : k = k' ∧ xs = xs') : sgK ⟨k, A, n, c, xs⟩ = sgK ⟨k', A', n', c', xs'⟩ := by
  obtain ⟨rfl, rfl⟩ := h
  rfl
theorem segs_u32 {w : World} {B n : Nat} {A : Option Addr} {ss : List Sg} (h : Segs w B A n ss) {k : Nat} (hk : k < ss.length) : U32s w B (sgth ss k).A (sgth ss k).n (sgth ss k).xs := (h.2.1 _ (sgth_mem hk)).2.2.2.2
end Go.Proofs.YtecbbjdcnlocdaaDoor

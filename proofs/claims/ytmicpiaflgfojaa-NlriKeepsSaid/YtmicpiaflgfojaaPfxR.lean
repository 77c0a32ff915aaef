/- prefix.Read -/
import Derived.Test.YtmicpiaflgfojaaPfxM
import Derived.Test.YtmicpiaflgfojaaRdrB
namespace Go.Proofs.Ytmicpiaflgfojaa
open Go.RowKit

theorem only_setRow {a w : World} {g k : Nat} {cs : Array Value} (h : a.grownBy w (some g)) (hk : a.heap.size ≤ k) : a.grownBy (w.setRow k cs) (some g) :=
  ⟨h.os, h.tape, h.output, by simpa using h.size, fun i hi hne => (setRow_other w k i _ (by omega)).trans (h.block i hi hne)⟩

theorem lenOk_range {f x : Int} (h : lenOk f x = true) : 0 ≤ x ∧ x ≤ 128 := by
  have := width_ge f
  simp only [lenOk, decide_eq_true_eq] at h
  omega
theorem lenOk_make {f x : Int} (h : lenOk f x = true) : makeOk f x (sizeOfBits x).toNat = true := by
  have hr := lenOk_range h
  have hw : widthOf f = 32 ∨ widthOf f = 128 ∨ widthOf f = 0 := by unfold widthOf; split <;> (try split) <;> omega
  simp only [makeOk, h, Bool.true_and, decide_eq_true_eq]
  simp only [lenOk, decide_eq_true_eq] at h
  unfold sizeOfBits
  omega

end Go.Proofs.Ytmicpiaflgfojaa

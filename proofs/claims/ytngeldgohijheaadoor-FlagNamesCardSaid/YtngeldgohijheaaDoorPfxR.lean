/- prefix.Read -/
import Derived.Test.YtngeldgohijheaaDoorPfxM
import Derived.Test.YtngeldgohijheaaDoorRdrB
namespace Go.Proofs.YtngeldgohijheaaDoor
open Go.RowKit

theorem only_setRow {a w : World} {g k : Nat} {cs : Array Value} (h : a.grownBy w (some g)) (hk : a.heap.size ≤ k) : a.grownBy (w.setRow k cs) (some g) :=
  ⟨h.os, h.tape, h.output, by simpa using h.size, fun i hi hne => (setRow_other w k i _ (by omega)).trans (h.block i hi hne)⟩

set_option maxRecDepth 100000 in
theorem number_one (B g : Nat) (x : Int) (xs : List Int) (p : Nat) (w : World) (h : RdrB B w g (x :: xs) p) (hl : (x :: xs).length ≤ 1000000000) (hp : p ≤ 1000000000) :
    Calls Tryd.prog 38 #[.pointer (some ⟨g, 0, none⟩), .int .i64 1] w fun e w' => e = .returned (.tuple #[.int .u32 x, .bool true]) ∧
      RdrB B w' g xs (p + 1) ∧ w.grownBy w' (some g) := by
  refine (number_yesB B g _ p 1 w h hl hp (by omega) (by omega) (by rw [List.length_cons]; omega)).mono ?_
  rintro e w' ⟨rfl, hr, hg⟩
  refine ⟨?_, hr, hg⟩
  show Ending.returned (.tuple #[.int .u32 (big [x]), _]) = _
  simp [big]

theorem lenOk_range {f x : Int} (h : lenOk f x = true) : 0 ≤ x ∧ x ≤ 128 := by
  have := width_ge f
  simp only [lenOk, decide_eq_true_eq] at h
  omega
theorem lenOk_make {f x : Int} (h : lenOk f x = true) : makeOk f x (sizeOfBits x).toNat = true := by
  have hr := lenOk_range h
  have hw : widthOf f = 32 ∨ widthOf f = 128 ∨ widthOf f = 0 := by unfold widthOf; split <;> (try split) <;> omega
  simp only [makeOk, h, Bool.true_and, decide_eq_true_eq]
  simp only [lenOk, decide_eq_true_eq] at h
  unfold sizeOfBits
  omega

end Go.Proofs.YtngeldgohijheaaDoor

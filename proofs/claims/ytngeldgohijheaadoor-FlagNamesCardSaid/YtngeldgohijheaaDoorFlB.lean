/- flag.Right, lengthSize, isByte, Size, Canonical; peerageref10.bits, Right, Canonical -/
import Derived.Test.YtngeldgohijheaaDoorFlA
import Derived.Test.YtngeldgohijheaaDoorBits
import Derived.Deep.RegionWith
import Derived.Deep.QuietTactic
import Derived.BigQuiet
namespace Go.Proofs.YtngeldgohijheaaDoor
open Go.RowKit

theorem mask_c : ∀ a, a < 256 → ∀ c, c = 64 ∨ c = 128 ∨ c = 192 → decide (a &&& 192 = c) = (decide (a &&& 128 ≠ 0) == decide (c ≠ 64) && (decide (a &&& 64 ≠ 0) == decide (c ≠ 128))) := by
  intro a ha c hc
  rcases hc with rfl | rfl | rfl <;> (revert a; decide +kernel)
theorem and_ne (x : Int) (m : Nat) (hm : m < 256) : (bits BinOp.and IntKind.i64 x (m : Int) != 0) = decide (low8 x &&& m ≠ 0) := by
  rw [and_i64 x m hm]
  by_cases h : low8 x &&& m = 0
  · simp [h]
  · first | (simp [h]; done) | (simp [h]; omega)
theorem and_eq (x : Int) (m c : Nat) (hm : m < 256) : (bits BinOp.and IntKind.i64 x (m : Int) == (c : Int)) = decide (low8 x &&& m = c) := by
  rw [and_i64 x m hm]
  by_cases h : low8 x &&& m = c
  · simp [h]
  · first | (simp [h]; done) | (simp [h]; omega)
theorem and192 (f c : Int) (hc : c = 64 ∨ c = 128 ∨ c = 192) : (bits BinOp.and IntKind.i64 f 192 == c) = ((bits BinOp.and IntKind.i64 f 128 != 0) == (c != 64) && ((bits BinOp.and IntKind.i64 f 64 != 0) == (c != 128))) := by
  have e1 := and_ne f 128 (by omega)
  have e2 := and_ne f 64 (by omega)
  have hl := low8_lt f
  rcases hc with rfl | rfl | rfl
  · have e3 := and_eq f 192 64 (by omega)
    have := mask_c _ hl 64 (by omega)
    rw [show ((192 : Nat) : Int) = 192 from rfl, show ((64 : Nat) : Int) = 64 from rfl] at e3
    rw [show ((128 : Nat) : Int) = 128 from rfl] at e1
    rw [show ((64 : Nat) : Int) = 64 from rfl] at e2
    rw [e1, e2, e3, this]; rfl
  · have e3 := and_eq f 192 128 (by omega)
    have := mask_c _ hl 128 (by omega)
    rw [show ((192 : Nat) : Int) = 192 from rfl, show ((128 : Nat) : Int) = 128 from rfl] at e3
    rw [show ((128 : Nat) : Int) = 128 from rfl] at e1
    rw [show ((64 : Nat) : Int) = 64 from rfl] at e2
    rw [e1, e2, e3, this]; rfl
  · have e3 := and_eq f 192 192 (by omega)
    have := mask_c _ hl 192 (by omega)
    rw [show ((192 : Nat) : Int) = 192 from rfl] at e3
    rw [show ((128 : Nat) : Int) = 128 from rfl] at e1
    rw [show ((64 : Nat) : Int) = 64 from rfl] at e2
    rw [e1, e2, e3, this]; rfl
/-- Are the flags f right for type k? -/
def rightB (f k : Int) : Bool := if flagKnown k then !((bits BinOp.and IntKind.i64 f 32 != 0) && (flagCls k != 192)) && (bits BinOp.and IntKind.i64 f 192 == flagCls k) else (bits BinOp.and IntKind.i64 f 128 != 0)
theorem low8_ne (x : Int) : ∀ m : Nat, m < 256 → (bits BinOp.and IntKind.i64 x (m : Int)) = ((low8 x &&& m : Nat) : Int) := fun m hm => and_i64 x m hm
theorem right_low (f k low : Int) : rightB (bits BinOp.xor IntKind.i64 f (bits BinOp.and IntKind.i64 low 31)) k = rightB f k := by
  obtain ⟨j, hj, hjl⟩ := and31 low
  have hx := xor_low8 f j (by omega)
  obtain ⟨m1, m2, m3⟩ := keep_masks (low8 f) (low8_lt f) j hj
  have a1 : bits BinOp.and IntKind.i64 (bits BinOp.xor IntKind.i64 f (j : Int)) 128 = bits BinOp.and IntKind.i64 f 128 := by
    have h1 := and_i64 (bits BinOp.xor IntKind.i64 f (j : Int)) 128 (by omega)
    have h2 := and_i64 f 128 (by omega)
    rw [hx, m1] at h1
    exact h1.trans h2.symm
  have a2 : bits BinOp.and IntKind.i64 (bits BinOp.xor IntKind.i64 f (j : Int)) 192 = bits BinOp.and IntKind.i64 f 192 := by
    have h1 := and_i64 (bits BinOp.xor IntKind.i64 f (j : Int)) 192 (by omega)
    have h2 := and_i64 f 192 (by omega)
    rw [hx, m2] at h1
    exact h1.trans h2.symm
  have a3 : bits BinOp.and IntKind.i64 (bits BinOp.xor IntKind.i64 f (j : Int)) 32 = bits BinOp.and IntKind.i64 f 32 := by
    have h1 := and_i64 (bits BinOp.xor IntKind.i64 f (j : Int)) 32 (by omega)
    have h2 := and_i64 f 32 (by omega)
    rw [hx, m3] at h1
    exact h1.trans h2.symm
  rw [hjl]
  unfold rightB
  rw [a1, a2, a3]

set_option maxRecDepth 100000 in
theorem isByte_any (x : Int) (w : World) : Calls Tryd.prog 74 #[.int .i64 x] w fun e w' => e = .returned (.bool (decide (0 ≤ x ∧ x ≤ 255))) ∧ w = w' := by
  by_cases h0 : 0 ≤ x
  · have d0 : decide (0 ≤ x) = true := by simpa using h0
    go_enter Tryd.func74, Tryd.ntmps74
    go_wp2
    go_ret
    exact ⟨by simp [h0], rfl⟩
  · have d0 : decide (0 ≤ x) = false := by simpa using h0
    go_enter Tryd.func74, Tryd.ntmps74
    go_wp2
    go_ret
    exact ⟨by simp, rfl⟩
/-- The bytes of the length of a head with flags f. -/
def fk (f : Int) : Int := if (bits BinOp.and IntKind.i64 f 16 != 0) = true then 2 else 1
set_option maxRecDepth 100000 in
theorem lengthSize_any (f : Int) (w : World) : Calls Tryd.prog 75 #[.int .i64 f] w fun e w' => e = .returned (.int .i64 (fk f)) ∧ w = w' := by
  by_cases h : (bits BinOp.and IntKind.i64 f 16 != 0) = true
  · have HE := Lib.hid (show fk f = 2 by unfold fk; rw [if_pos h])
    go_enter Tryd.func75, Tryd.ntmps75
    go_wp2
    go_ret
    exact ⟨by rw [HE.out]; rfl, rfl⟩
  · have h' : (bits BinOp.and IntKind.i64 f 16 != 0) = false := by simpa using h
    have HE := Lib.hid (show fk f = 1 by unfold fk; rw [if_neg h])
    clear h
    go_enter Tryd.func75, Tryd.ntmps75
    go_wp2
    go_ret
    exact ⟨by rw [HE.out]; rfl, rfl⟩
end Go.Proofs.YtngeldgohijheaaDoor

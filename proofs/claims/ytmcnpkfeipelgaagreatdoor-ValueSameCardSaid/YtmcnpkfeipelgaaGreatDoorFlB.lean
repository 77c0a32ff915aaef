/- flag.Right, lengthSize, isByte, Size, Canonical; peerageref10.bits, Right, Canonical -/
import Derived.Test.YtmcnpkfeipelgaaGreatDoorFlA
import Derived.Test.YtmcnpkfeipelgaaGreatDoorBits
import Derived.Deep.RegionWith
import Derived.Deep.QuietTactic
import Derived.BigQuiet
namespace Go.Proofs.YtmcnpkfeipelgaaGreatDoor
open Go.RowKit

theorem mask_c : ∀ a, a < 256 → ∀ c, c = 64 ∨ c = 128 ∨ c = 192 → decide (a &&& 192 = c) = (decide (a &&& 128 ≠ 0) == decide (c ≠ 64) && (decide (a &&& 64 ≠ 0) == decide (c ≠ 128))) := by
  intro a ha c hc
  rcases hc with rfl | rfl | rfl <;> (revert a; decide +kernel)
theorem and_ne (x : Int) (m : Nat) (hm : m < 256) : (bits BinOp.and IntKind.i64 x (m : Int) != 0) = decide (low8 x &&& m ≠ 0) := by
  rw [and_i64 x m hm]
  by_cases h : low8 x &&& m = 0
  · simp [h]
  · first | (simp [h]; done) | (simp [h]; omega)
theorem and_eq (x : Int) (m c : Nat) (hm : m < 256) : (bits BinOp.and IntKind.i64 x (m : Int) == (c : Int)) = decide (low8 x &&& m = c) := by
  rw [and_i64 x m hm]
  by_cases h : low8 x &&& m = c
  · simp [h]
  · first | (simp [h]; done) | (simp [h]; omega)
theorem and192 (f c : Int) (hc : c = 64 ∨ c = 128 ∨ c = 192) : (bits BinOp.and IntKind.i64 f 192 == c) = ((bits BinOp.and IntKind.i64 f 128 != 0) == (c != 64) && ((bits BinOp.and IntKind.i64 f 64 != 0) == (c != 128))) := by
  have e1 := and_ne f 128 (by omega)
  have e2 := and_ne f 64 (by omega)
  have hl := low8_lt f
  rcases hc with rfl | rfl | rfl
  · have e3 := and_eq f 192 64 (by omega)
    have := mask_c _ hl 64 (by omega)
    rw [show ((192 : Nat) : Int) = 192 from rfl, show ((64 : Nat) : Int) = 64 from rfl] at e3
    rw [show ((128 : Nat) : Int) = 128 from rfl] at e1
    rw [show ((64 : Nat) : Int) = 64 from rfl] at e2
    rw [e1, e2, e3, this]; rfl
  · have e3 := and_eq f 192 128 (by omega)
    have := mask_c _ hl 128 (by omega)
    rw [show ((192 : Nat) : Int) = 192 from rfl, show ((128 : Nat) : Int) = 128 from rfl] at e3
    rw [show ((128 : Nat) : Int) = 128 from rfl] at e1
    rw [show ((64 : Nat) : Int) = 64 from rfl] at e2
    rw [e1, e2, e3, this]; rfl
  · have e3 := and_eq f 192 192 (by omega)
    have := mask_c _ hl 192 (by omega)
    rw [show ((192 : Nat) : Int) = 192 from rfl] at e3
    rw [show ((128 : Nat) : Int) = 128 from rfl] at e1
    rw [show ((64 : Nat) : Int) = 64 from rfl] at e2
    rw [e1, e2, e3, this]; rfl
/-- Are the flags f right for type k? -/
def rightB (f k : Int) : Bool := if flagKnown k then !((bits BinOp.and IntKind.i64 f 32 != 0) && (flagCls k != 192)) && (bits BinOp.and IntKind.i64 f 192 == flagCls k) else (bits BinOp.and IntKind.i64 f 128 != 0)
theorem low8_ne (x : Int) : ∀ m : Nat, m < 256 → (bits BinOp.and IntKind.i64 x (m : Int)) = ((low8 x &&& m : Nat) : Int) := fun m hm => and_i64 x m hm
theorem right_low (f k low : Int) : rightB (bits BinOp.xor IntKind.i64 f (bits BinOp.and IntKind.i64 low 31)) k = rightB f k := by
  obtain ⟨j, hj, hjl⟩ := and31 low
  have hx := xor_low8 f j (by omega)
  obtain ⟨m1, m2, m3⟩ := keep_masks (low8 f) (low8_lt f) j hj
  have a1 : bits BinOp.and IntKind.i64 (bits BinOp.xor IntKind.i64 f (j : Int)) 128 = bits BinOp.and IntKind.i64 f 128 := by
    have h1 := and_i64 (bits BinOp.xor IntKind.i64 f (j : Int)) 128 (by omega)
    have h2 := and_i64 f 128 (by omega)
    rw [hx, m1] at h1
    exact h1.trans h2.symm
  have a2 : bits BinOp.and IntKind.i64 (bits BinOp.xor IntKind.i64 f (j : Int)) 192 = bits BinOp.and IntKind.i64 f 192 := by
    have h1 := and_i64 (bits BinOp.xor IntKind.i64 f (j : Int)) 192 (by omega)
    have h2 := and_i64 f 192 (by omega)
    rw [hx, m2] at h1
    exact h1.trans h2.symm
  have a3 : bits BinOp.and IntKind.i64 (bits BinOp.xor IntKind.i64 f (j : Int)) 32 = bits BinOp.and IntKind.i64 f 32 := by
    have h1 := and_i64 (bits BinOp.xor IntKind.i64 f (j : Int)) 32 (by omega)
    have h2 := and_i64 f 32 (by omega)
    rw [hx, m3] at h1
    exact h1.trans h2.symm
  rw [hjl]
  unfold rightB
  rw [a1, a2, a3]

set_option maxRecDepth 100000 in
theorem rbits_any (f m : Int) (w : World) : Calls Tryz.prog 30 #[.int .i64 f, .int .i64 m] w fun e w' => e = .returned (.bool (bits BinOp.and IntKind.i64 f m != 0)) ∧ w = w' := by
  go_enter Tryz.func30, Tryz.ntmps30
  go_wp2
  go_ret
  exact ⟨rfl, rfl⟩
set_option maxRecDepth 100000 in
theorem isByte_any (x : Int) (w : World) : Calls Tryz.prog 103 #[.int .i64 x] w fun e w' => e = .returned (.bool (decide (0 ≤ x ∧ x ≤ 255))) ∧ w = w' := by
  by_cases h0 : 0 ≤ x
  · have d0 : decide (0 ≤ x) = true := by simpa using h0
    go_enter Tryz.func103, Tryz.ntmps103
    go_wp2
    go_ret
    exact ⟨by simp [h0], rfl⟩
  · have d0 : decide (0 ≤ x) = false := by simpa using h0
    go_enter Tryz.func103, Tryz.ntmps103
    go_wp2
    go_ret
    exact ⟨by simp, rfl⟩
/-- The bytes of the length of a head with flags f. -/
def fk (f : Int) : Int := if (bits BinOp.and IntKind.i64 f 16 != 0) = true then 2 else 1
set_option maxRecDepth 100000 in
theorem lengthSize_any (f : Int) (w : World) : Calls Tryz.prog 105 #[.int .i64 f] w fun e w' => e = .returned (.int .i64 (fk f)) ∧ w = w' := by
  by_cases h : (bits BinOp.and IntKind.i64 f 16 != 0) = true
  · have HE := Lib.hid (show fk f = 2 by unfold fk; rw [if_pos h])
    go_enter Tryz.func105, Tryz.ntmps105
    go_wp2
    go_ret
    exact ⟨by rw [HE.out]; rfl, rfl⟩
  · have h' : (bits BinOp.and IntKind.i64 f 16 != 0) = false := by simpa using h
    have HE := Lib.hid (show fk f = 1 by unfold fk; rw [if_neg h])
    clear h
    go_enter Tryz.func105, Tryz.ntmps105
    go_wp2
    go_ret
    exact ⟨by rw [HE.out]; rfl, rfl⟩
set_option maxRecDepth 100000 in
set_option maxHeartbeats 400000 in
theorem right_any (f k n : Int) (w : World) (hk : (Lit.int .i64 k).wf = true) : Calls Tryz.prog 35 #[.agg #[.int .i64 f, .int .i64 k, .int .i64 n]] w fun e w' => e = .returned (.bool (rightB f k)) ∧ Below w.heap.size w w' := by
  have hb0 := bl_alloc (bl_refl w) (.cells #[.int .i64 f, .int .i64 k, .int .i64 n] 42)
  have ho := Own.new w 42 #[.int .i64 f, .int .i64 k, .int .i64 n]
  rcases flagCls_cases k with hc | hc | hc | hc
  · have HK := Lib.hid (show flagKnown k = true by unfold flagKnown; rw [hc]; rfl)
    have HC := Lib.hid hc
    clear hc
    by_cases h32 : (bits BinOp.and IntKind.i64 f 32 != 0) = true
    · have HR := Lib.hid (show rightB f k = false by unfold rightB; rw [HK.out, if_pos rfl, h32, HC.out]; rfl)
      go_enter Tryz.func35, Tryz.ntmps35
      go_wp2_with fail
      refine (class_any k _ hk).mono ?_
      rw [HK.out, HC.out]
      rintro e w1 ⟨rfl, hb1⟩
      have c0 := (ho.below hb1 ho.lt).cell (i := 0) (v := .int .i64 f) rfl
      go_wp2
      go_ret
      exact ⟨by rw [HR.out]; rfl, bl_trans hb0 hb1⟩
    · have h32' : (bits BinOp.and IntKind.i64 f 32 != 0) = false := by simpa using h32
      have HR := Lib.hid (show rightB f k = (bits BinOp.and IntKind.i64 f 192 == 64) by unfold rightB; rw [HK.out, if_pos rfl, h32', HC.out]; simp)
      clear h32
      go_enter Tryz.func35, Tryz.ntmps35
      go_wp2_with fail
      refine (class_any k _ hk).mono ?_
      rw [HK.out, HC.out]
      rintro e w1 ⟨rfl, hb1⟩
      have c0 := (ho.below hb1 ho.lt).cell (i := 0) (v := .int .i64 f) rfl
      go_wp2
      go_ret
      exact ⟨by rw [HR.out]; rfl, bl_trans hb0 hb1⟩
  · have HK := Lib.hid (show flagKnown k = true by unfold flagKnown; rw [hc]; rfl)
    have HC := Lib.hid hc
    clear hc
    by_cases h32 : (bits BinOp.and IntKind.i64 f 32 != 0) = true
    · have HR := Lib.hid (show rightB f k = false by unfold rightB; rw [HK.out, if_pos rfl, h32, HC.out]; rfl)
      go_enter Tryz.func35, Tryz.ntmps35
      go_wp2_with fail
      refine (class_any k _ hk).mono ?_
      rw [HK.out, HC.out]
      rintro e w1 ⟨rfl, hb1⟩
      have c0 := (ho.below hb1 ho.lt).cell (i := 0) (v := .int .i64 f) rfl
      go_wp2
      go_ret
      exact ⟨by rw [HR.out]; rfl, bl_trans hb0 hb1⟩
    · have h32' : (bits BinOp.and IntKind.i64 f 32 != 0) = false := by simpa using h32
      have HR := Lib.hid (show rightB f k = (bits BinOp.and IntKind.i64 f 192 == 128) by unfold rightB; rw [HK.out, if_pos rfl, h32', HC.out]; simp)
      clear h32
      go_enter Tryz.func35, Tryz.ntmps35
      go_wp2_with fail
      refine (class_any k _ hk).mono ?_
      rw [HK.out, HC.out]
      rintro e w1 ⟨rfl, hb1⟩
      have c0 := (ho.below hb1 ho.lt).cell (i := 0) (v := .int .i64 f) rfl
      go_wp2
      go_ret
      exact ⟨by rw [HR.out]; rfl, bl_trans hb0 hb1⟩
  · have HK := Lib.hid (show flagKnown k = true by unfold flagKnown; rw [hc]; rfl)
    have HC := Lib.hid hc
    clear hc
    have HR := Lib.hid (show rightB f k = (bits BinOp.and IntKind.i64 f 192 == 192) by unfold rightB; rw [HK.out, if_pos rfl, HC.out]; simp)
    go_enter Tryz.func35, Tryz.ntmps35
    go_wp2_with fail
    refine (class_any k _ hk).mono ?_
    rw [HK.out, HC.out]
    rintro e w1 ⟨rfl, hb1⟩
    have c0 := (ho.below hb1 ho.lt).cell (i := 0) (v := .int .i64 f) rfl
    go_wp2
    all_goals go_ret
    all_goals exact ⟨by rw [HR.out]; rfl, bl_trans hb0 hb1⟩
  · have HK := Lib.hid (show flagKnown k = false by unfold flagKnown; rw [hc]; rfl)
    have HC := Lib.hid hc
    clear hc
    have HR := Lib.hid (show rightB f k = (bits BinOp.and IntKind.i64 f 128 != 0) by unfold rightB; rw [HK.out]; rfl)
    go_enter Tryz.func35, Tryz.ntmps35
    go_wp2_with fail
    refine (class_any k _ hk).mono ?_
    rw [HK.out, HC.out]
    rintro e w1 ⟨rfl, hb1⟩
    have c0 := (ho.below hb1 ho.lt).cell (i := 0) (v := .int .i64 f) rfl
    go_wp2
    go_ret
    exact ⟨by rw [HR.out]; rfl, bl_trans hb0 hb1⟩

set_option maxRecDepth 100000 in
set_option maxHeartbeats 1600000 in
theorem rright_any10 (f k : Int) (w : World) : Calls Tryz.prog 10 #[.int .i64 f, .int .i64 k] w fun e w' => e = .returned (.bool (rightB f k)) ∧ w = w' := by
  have b1 : (bits BinOp.and IntKind.i64 64 128 != 0) = false := by decide
  have b2 : (bits BinOp.and IntKind.i64 64 64 != 0) = true := by decide
  have b3 : (bits BinOp.and IntKind.i64 128 128 != 0) = true := by decide
  have b4 : (bits BinOp.and IntKind.i64 128 64 != 0) = false := by decide
  have b5 : (bits BinOp.and IntKind.i64 192 128 != 0) = true := by decide
  have b6 : (bits BinOp.and IntKind.i64 192 64 != 0) = true := by decide
  rcases flagCls_cases k with hc | hc | hc | hc
  all_goals
    first
      | (have HK := Lib.hid (show flagKnown k = true by unfold flagKnown; rw [hc]; rfl)
         have HC := Lib.hid hc
         have HM := Lib.hid (and192 f (flagCls k) (by omega))
         clear hc
         by_cases hp : (bits BinOp.and IntKind.i64 f 128 != 0) = true <;> by_cases hq : (bits BinOp.and IntKind.i64 f 64 != 0) = true
         all_goals
           try rw [Bool.not_eq_true] at hp
           try rw [Bool.not_eq_true] at hq
           have HP := Lib.hid hp
           have HQ := Lib.hid hq
           have HR := Lib.hid (show rightB f k = (!((bits BinOp.and IntKind.i64 f 32 != 0) && (flagCls k != 192)) && ((bits BinOp.and IntKind.i64 f 128 != 0) == (flagCls k != 64) && ((bits BinOp.and IntKind.i64 f 64 != 0) == (flagCls k != 128)))) by rw [← HM.out]; unfold rightB; rw [HK.out, if_pos rfl])
           go_enter Tryz.func10, Tryz.ntmps10
           go_wp2_with fail
           refine (rclass_any k _).mono ?_
           rw [HK.out, HC.out]
           rintro e w' ⟨rfl, rfl⟩
           go_wp2_with (go_at_call 30; refine (rbits_any _ _ _).mono ?_; rintro e w' ⟨rfl, rfl⟩)
           go_ret
           exact ⟨by rw [HR.out, HP.out, HQ.out, HC.out]; simp, rfl⟩)
      | (have HK := Lib.hid (show flagKnown k = false by unfold flagKnown; rw [hc]; rfl)
         have HC := Lib.hid hc
         have HR := Lib.hid (show rightB f k = (bits BinOp.and IntKind.i64 f 128 != 0) by unfold rightB; rw [HK.out]; rfl)
         clear hc
         go_enter Tryz.func10, Tryz.ntmps10
         go_wp2_with fail
         refine (rclass_any k _).mono ?_
         rw [HK.out, HC.out]
         rintro e w' ⟨rfl, rfl⟩
         go_wp2_with (go_at_call 30; refine (rbits_any _ _ _).mono ?_; rintro e w' ⟨rfl, rfl⟩)
         go_ret
         exact ⟨by rw [HR.out]; rfl, rfl⟩)
end Go.Proofs.YtmcnpkfeipelgaaGreatDoor

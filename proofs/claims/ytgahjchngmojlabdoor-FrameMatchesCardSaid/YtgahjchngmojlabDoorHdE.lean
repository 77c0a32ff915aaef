/- header.Wrap, peerageref04.Wrap -/
import Derived.Test.YtgahjchngmojlabDoorHdD
namespace Go.Proofs.YtgahjchngmojlabDoor
open Go.RowKit

theorem hKnown {x : Bool} {k n : Int} (hn : 0 < n) (h : hAllow x k n = true) : (k = 1 ∨ k = 2 ∨ k = 3 ∨ k = 4 ∨ k = 5) ∧ n ≤ 65535 := by
  simp only [hAllow, Bool.and_eq_true, decide_eq_true_eq] at h
  rcases hKinds k with rfl | rfl | rfl | rfl | rfl | ⟨h1, h2, h3, h4, n1, n2, n3, n4, n5⟩
  · refine ⟨by omega, Int.le_trans h.2 ?_⟩; cases x <;> decide
  · refine ⟨by omega, Int.le_trans h.2 ?_⟩; cases x <;> decide
  · refine ⟨by omega, Int.le_trans h.2 ?_⟩; cases x <;> decide
  · refine ⟨by omega, Int.le_trans h.2 ?_⟩; cases x <;> decide
  · refine ⟨by omega, Int.le_trans h.2 ?_⟩; cases x <;> decide
  · exfalso
    have : hLim x k = 0 := by unfold hLim; rw [h3, h4]; cases x <;> rfl
    omega
theorem hOkOf {x : Bool} {k n : Int} (hn : 0 < n) (h : hAllow x k n = true) : hbOk n k = true := by
  obtain ⟨h1, h2⟩ := hKnown hn h
  simp only [hbOk, Bool.and_eq_true, decide_eq_true_eq]
  omega
theorem hName_ne {k : Int} (h : k = 1 ∨ k = 2 ∨ k = 3 ∨ k = 4 ∨ k = 5) : ¬ (hName k).toList = [] := by
  rcases h with rfl | rfl | rfl | rfl | rfl <;> decide +kernel
theorem hName_nil {k : Int} (h : hName k = ⟨#[]⟩) : (hName k).toList = [] := by
  rw [h]; decide +kernel
set_option maxRecDepth 100000 in
set_option maxHeartbeats 800000 in
theorem wrap_yes (a0 a1 a2 a3 a4 a5 : Bool) (k : Int) (A : Option Addr) (n c : Nat) (xs : List Int) (w : World) (ht : HRows w) (hx : Bytes w w.heap.size A n xs) (hk : hAllow a1 k (19 + n) = true) :
    Calls Tryd.prog 25 #[.agg #[.bool a0, .bool a1, .bool a2, .bool a3, .bool a4, .bool a5], .int .i64 k, .slice A n c] w fun e w' => ∃ g, e = .returned (.tuple #[.slice (some ⟨g, 0, none⟩) (19 + n) (19 + n), .bool true]) ∧ w.heap.size ≤ g ∧ Own w' g 5 ((hForm (19 + n) k ++ xs).map (Value.int .u8)).toArray ∧ Below w.heap.size w w' := by
  obtain ⟨hkn, hn⟩ := hKnown (by omega) hk
  have HK := Lib.hid hk
  have HO := Lib.hid (hOkOf (by omega) hk)
  have hne := hName_ne hkn
  have hne2 : (hName k).toList.isEmpty = false := by simpa using hne
  have hk255 : 0 ≤ k ∧ k ≤ 255 := by omega
  have hk2 := Lib.hid hk255
  have hb0 := bl_alloc (bl_refl w) (.cells #[.bool a0, .bool a1, .bool a2, .bool a3, .bool a4, .bool a5] 23)
  have ht0 := ht.alloc (.cells #[.bool a0, .bool a1, .bool a2, .bool a3, .bool a4, .bool a5] 23)
  have o0 := Own.new w 23 #[.bool a0, .bool a1, .bool a2, .bool a3, .bool a4, .bool a5]
  clear hk hkn hk255 ht
  go_enter Tryd.func25, Tryd.ntmps25
  go_wp2_with fail
  refine (name_any k _ ht0).mono ?_
  rintro e w1 ⟨rfl, hb1⟩
  have hb2 := bl_trans hb0 hb1
  have ht1 := ht0.below hb1
  have o1 := o0.step hb1
  have c0 := o1.cell (i := 0) (v := .bool a0) rfl
  have c1 := o1.cell (i := 1) (v := .bool a1) rfl
  have c2 := o1.cell (i := 2) (v := .bool a2) rfl
  have c3 := o1.cell (i := 3) (v := .bool a3) rfl
  have c4 := o1.cell (i := 4) (v := .bool a4) rfl
  have c5 := o1.cell (i := 5) (v := .bool a5) rfl
  clear hb0 hb1 o0 o1 ht0
  go_wp2_with fail
  refine (allows_any a0 a1 a2 a3 a4 a5 k (19 + n) _ ht1).mono ?_
  rw [HK.out]
  rintro e w2 ⟨rfl, hb3⟩
  have hb4 := bl_trans hb2 hb3
  clear ht1 hb2 hb3 c0 c1 c2 c3 c4 c5
  go_wp2_with fail
  refine (hbytes_yes (19 + n) k _ HO.out).mono ?_
  rintro e w3 ⟨g, rfl, hg, ho, hb5⟩
  have hb6 := bl_trans hb4 hb5
  have hba := bl_alloc hb6 (.cells #[.slice (some ⟨g, 0, none⟩) 19 19, .slice A n c] 26)
  have oa := ho.alloc (.cells #[.slice (some ⟨g, 0, none⟩) 19 19, .slice A n c] 26)
  have b1 := Bytes.of_owned (xs := hForm (19 + n) k) oa (hForm_range hk2.out) oa.lt
  rw [hForm_len] at b1
  have b2 := (hx.below hba).more hba.size
  have hpt := parts_two (c1 := 19) (c2 := c) (Own.new w3 26 #[.slice (some ⟨g, 0, none⟩) 19 19, .slice A n c]) b1 b2
  have hfl : flat [⟨some ⟨g, 0, none⟩, 19, 19, hForm (19 + n) k⟩, ⟨A, n, c, xs⟩] = hForm (19 + n) k ++ xs := by simp [flat]
  have hln : (hForm (19 + n) k ++ xs).length = 19 + n := by rw [List.length_append, hForm_len, ← hx.1]
  have HF := Lib.hid hfl
  have HL := Lib.hid hln
  have hsg : w.heap.size ≤ w3.heap.size + 1 := by have := hb6.size; omega
  clear hb4 hb5 hg ho b1 b2 hfl hln oa
  go_wp2_with fail
  refine (cat_own (c := 2) hpt (by omega) (by rw [HF.out, HL.out]; omega)).mono ?_
  rw [HF.out, HL.out]
  rintro e w4 ⟨rfl, ho4, hb7⟩
  have hb8 := bl_trans hba hb7
  rw [show (w3.alloc (.cells #[.slice (some ⟨g, 0, none⟩) 19 19, .slice A n c] 26)).heap.size = w3.heap.size + 1 by simp] at ho4
  go_wp2
  go_ret2
  exact ⟨_, rfl, hsg, ho4, hb8⟩
set_option maxRecDepth 100000 in
set_option maxHeartbeats 800000 in
theorem wrap_no (a0 a1 a2 a3 a4 a5 : Bool) (k : Int) (A : Option Addr) (n c : Nat) (w : World) (ht : HRows w) (hm : n ≤ 1000000000) (hk : hAllow a1 k (19 + n) = false) :
    Calls Tryd.prog 25 #[.agg #[.bool a0, .bool a1, .bool a2, .bool a3, .bool a4, .bool a5], .int .i64 k, .slice A n c] w fun e w' => e = .returned (.tuple #[.slice none 0 0, .bool false]) ∧ Below w.heap.size w w' := by

  have hw : IntKind.i64.wrap (19 + (n : Int)) = 19 + (n : Int) := by rw [IntKind.wrap_i64]; omega
  have HK := Lib.hid hk
  have hb0 := bl_alloc (bl_refl w) (.cells #[.bool a0, .bool a1, .bool a2, .bool a3, .bool a4, .bool a5] 23)
  have ht0 := ht.alloc (.cells #[.bool a0, .bool a1, .bool a2, .bool a3, .bool a4, .bool a5] 23)
  have o0 := Own.new w 23 #[.bool a0, .bool a1, .bool a2, .bool a3, .bool a4, .bool a5]
  clear hk ht
  go_enter Tryd.func25, Tryd.ntmps25
  go_wp2_with fail
  refine (name_any k _ ht0).mono ?_
  rintro e w1 ⟨rfl, hb1⟩
  have hb2 := bl_trans hb0 hb1
  have ht1 := ht0.below hb1
  have o1 := o0.step hb1
  have c0 := o1.cell (i := 0) (v := .bool a0) rfl
  have c1 := o1.cell (i := 1) (v := .bool a1) rfl
  have c2 := o1.cell (i := 2) (v := .bool a2) rfl
  have c3 := o1.cell (i := 3) (v := .bool a3) rfl
  have c4 := o1.cell (i := 4) (v := .bool a4) rfl
  have c5 := o1.cell (i := 5) (v := .bool a5) rfl
  clear hb0 hb1 o0 o1 ht0
  by_cases hne : (hName k).toList = []
  · have hne2 : (hName k).toList.isEmpty = true := by simpa using hne
    go_wp2
    go_ret2
    exact ⟨rfl, hb2⟩
  · have hne2 : (hName k).toList.isEmpty = false := by simpa using hne
    go_wp2_with fail
    refine (allows_any a0 a1 a2 a3 a4 a5 k (19 + n) _ ht1).mono ?_
    rw [HK.out]
    rintro e w2 ⟨rfl, hb3⟩
    have hb4 := bl_trans hb2 hb3
    go_wp2
    go_ret2
    exact ⟨rfl, hb4⟩
end Go.Proofs.YtgahjchngmojlabDoor

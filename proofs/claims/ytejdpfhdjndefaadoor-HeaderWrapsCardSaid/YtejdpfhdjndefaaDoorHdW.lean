/- HeaderWraps: the walk -/
import Derived.Test.YtejdpfhdjndefaaDoorHdS
import Derived.Test.YtejdpfhdjndefaaDoorHdK
namespace Go.Proofs.YtejdpfhdjndefaaDoor
open Go.RowKit

theorem hz_mark (N k : Int) (xs : List Int) : ∀ j, j < 16 → nth (hForm N k ++ xs) j = 255 := by
  intro j hj
  unfold nth hForm
  rw [List.getD_eq_getElem?_getD, List.append_assoc, List.append_assoc, List.getElem?_append_left (by simp; omega), List.getElem?_replicate, if_pos hj]
  rfl
theorem hz_16 (N k : Int) (xs : List Int) : nth (hForm N k ++ xs) 16 = N / 256 % 256 := by
  unfold hForm; rw [show (2 : Int).toNat = 2 from rfl, digitsOf_2]; rfl
theorem hz_17 (N k : Int) (xs : List Int) : nth (hForm N k ++ xs) 17 = N % 256 := by
  unfold hForm; rw [show (2 : Int).toNat = 2 from rfl, digitsOf_2]; rfl
theorem hz_18 (N k : Int) (xs : List Int) : nth (hForm N k ++ xs) 18 = k := by
  unfold hForm; rw [show (2 : Int).toNat = 2 from rfl, digitsOf_2]; rfl
theorem hLim_le (x : Bool) (k : Int) : hLim x k ≤ (if x then 65535 else 4096) := by
  rcases hKinds k with rfl | rfl | rfl | rfl | rfl | ⟨h1, h2, h3, h4, _⟩
  · cases x <;> decide
  · cases x <;> decide
  · cases x <;> decide
  · cases x <;> decide
  · cases x <;> decide
  · unfold hLim; rw [h3, h4]; cases x <;> decide
set_option maxRecDepth 100000 in
/-- Parse of a wrapped message. -/
theorem hparse_wrapped (a0 a1 a2 a3 a4 a5 : Bool) (k N : Int) (A : Option Addr) (n c : Nat) (xs : List Int) (w : World) (ht : HRows w) (hN : N = n) (hx : Bytes w w.heap.size A n (hForm N k ++ xs)) (hc : n ≤ c) (hn : n ≤ 1000000000) (h19 : 19 ≤ n) (hA : hAllow a1 k N = true) :
    Calls Tryd.prog 14 #[.agg #[.bool a0, .bool a1, .bool a2, .bool a3, .bool a4, .bool a5], .slice A n c] w fun e w' => e = .returned (.tuple #[.agg #[.int .i64 N, .int .i64 k], .agg #[.int .i64 0, .int .i64 0, .int .i64 0, .slice none 0 0, .int .i64 0]]) ∧ Below w.heap.size w w' := by
  have hb := (hKnown (by omega) hA).2
  have hl := hLim_le a1 k
  have hN2 : nth (hForm N k ++ xs) 16 * 256 + nth (hForm N k ++ xs) 17 = N := by rw [hz_16, hz_17]; omega
  have hA2 := hA
  simp only [hAllow, Bool.and_eq_true, decide_eq_true_eq] at hA2
  refine (hparse_ok a0 a1 a2 a3 a4 a5 A n c (hForm N k ++ xs) w ht hx hc hn (hz_mark N k xs) h19 (by rw [hN2]; omega) (by rw [hN2, hz_18]; exact hA)).mono ?_
  rw [hN2, hz_18]
  rintro e w' ⟨G, rfl, rfl, h⟩
  exact ⟨rfl, h⟩
set_option maxRecDepth 100000 in
theorem hwraps_early (a0 a1 a2 a3 a4 a5 : Bool) (k : Int) (A : Option Addr) (n c : Nat) (w : World) (ht : HRows w) (hm : n ≤ maxLen) (h : 5000 < n) :
    Calls Tryd.prog 4 #[.agg #[.bool a0, .bool a1, .bool a2, .bool a3, .bool a4, .bool a5], .int .i64 k, .slice A n c] w fun e w' => e = .returned (.bool true) ∧ Below w.heap.size w w' := by
  unfold maxLen at hm
  have hb0 := bl_alloc (bl_refl w) (.cells #[.bool a0, .bool a1, .bool a2, .bool a3, .bool a4, .bool a5] 23)
  have ht0 := ht.alloc (.cells #[.bool a0, .bool a1, .bool a2, .bool a3, .bool a4, .bool a5] 23)
  go_enter Tryd.func4, Tryd.ntmps4
  go_wp2_with fail
  refine (alive4_any _ ht0).mono ?_
  rintro e w1 ⟨rfl, hb1⟩
  have hb2 := bl_trans hb0 hb1
  go_wp2
  go_ret
  exact ⟨rfl, hb2⟩
set_option maxRecDepth 100000 in
set_option maxHeartbeats 1600000 in
theorem hwraps_no (a0 a1 a2 a3 a4 a5 : Bool) (k : Int) (A : Option Addr) (n c : Nat) (w : World) (ht : HRows w) (h : n ≤ 5000) (hA : hAllow a1 k (19 + n) = false) :
    Calls Tryd.prog 4 #[.agg #[.bool a0, .bool a1, .bool a2, .bool a3, .bool a4, .bool a5], .int .i64 k, .slice A n c] w fun e w' => e = .returned (.bool true) ∧ Below w.heap.size w w' := by
  have HA := Lib.hid hA
  have hb0 := bl_alloc (bl_refl w) (.cells #[.bool a0, .bool a1, .bool a2, .bool a3, .bool a4, .bool a5] 23)
  have ht0 := ht.alloc (.cells #[.bool a0, .bool a1, .bool a2, .bool a3, .bool a4, .bool a5] 23)
  have o0 := Own.new w 23 #[.bool a0, .bool a1, .bool a2, .bool a3, .bool a4, .bool a5]
  clear hA ht
  go_enter Tryd.func4, Tryd.ntmps4
  go_wp2_with fail
  refine (wrap_no a0 a1 a2 a3 a4 a5 k A n c _ ht0 (by omega) HA.out).mono ?_
  rintro e w1 ⟨rfl, hb1⟩
  have hb2 := bl_trans hb0 hb1
  have ht1 := ht0.below hb1
  have o1 := o0.step hb1
  obtain ⟨p0, p1, p2, p3, p4, p5⟩ := own_six4 o1
  clear hb0 hb1 ht0 o0
  go_wp2_with fail
  refine (rwrap_no a0 a1 a2 a3 a4 a5 k A n c _ (by omega) HA.out).mono ?_
  rintro e w2 ⟨rfl, hb3⟩
  have hb4 := bl_trans hb2 hb3
  have ht2 := ht1.below hb3
  clear hb2 hb3 ht1 o1 p0 p1 p2 p3 p4 p5
  go_wp2_with fail
  refine (bytesEq_same none none 0 0 0 0 [] _ w2.heap.size w2.heap.size (Bytes.nil _ _ _) (Bytes.nil _ _ _) (by omega) (by omega)).mono ?_
  rintro e w3 ⟨rfl, m, rfl⟩
  have hb5 := bl_drewN hb4 m
  go_wp2_with fail
  refine (alive4_any _ (ht2.drewN m)).mono ?_
  rintro e w4 ⟨rfl, hb6⟩
  have hb7 := bl_trans hb5 hb6
  go_wp2
  go_ret
  exact ⟨rfl, hb7⟩
set_option maxRecDepth 100000 in
set_option maxHeartbeats 1600000 in
theorem hwraps_yes (a0 a1 a2 a3 a4 a5 : Bool) (k : Int) (A : Option Addr) (n c : Nat) (xs : List Int) (w : World) (ht : HRows w) (hx : Bytes w w.heap.size A n xs) (h : n ≤ 5000) (hA : hAllow a1 k (19 + n) = true) :
    Calls Tryd.prog 4 #[.agg #[.bool a0, .bool a1, .bool a2, .bool a3, .bool a4, .bool a5], .int .i64 k, .slice A n c] w fun e w' => e = .returned (.bool true) ∧ Below w.heap.size w w' := by
  have HA := Lib.hid hA
  have hkk := Lib.hid (show 0 ≤ k ∧ k ≤ 255 by have := (hKnown (by omega) hA).1; omega)
  have HX := Lib.hid hx.1
  have hr := Lib.hid hx.2.1
  have hb0 := bl_alloc (bl_refl w) (.cells #[.bool a0, .bool a1, .bool a2, .bool a3, .bool a4, .bool a5] 23)
  have ht0 := ht.alloc (.cells #[.bool a0, .bool a1, .bool a2, .bool a3, .bool a4, .bool a5] 23)
  have o0 := Own.new w 23 #[.bool a0, .bool a1, .bool a2, .bool a3, .bool a4, .bool a5]
  have hx0 := (hx.below hb0).more hb0.size
  have hzr := Lib.hid (show ∀ y ∈ hForm (19 + n) k ++ xs, 0 ≤ y ∧ y ≤ 255 by
    intro y hy
    rcases List.mem_append.1 hy with hy | hy
    · exact hForm_range hkk.out y hy
    · exact hr.out y hy)
  have hzl := Lib.hid (show 19 + n = (hForm (19 + n) k ++ xs).length by rw [List.length_append, hForm_len, ← HX.out])
  clear hA ht hx
  go_enter Tryd.func4, Tryd.ntmps4
  go_wp2_with fail
  refine (wrap_yes a0 a1 a2 a3 a4 a5 k A n c xs _ ht0 hx0 HA.out).mono ?_
  rintro e w1 ⟨g, rfl, hg, ho, hb1⟩
  have hb2 := bl_trans hb0 hb1
  have ht1 := ht0.below hb1
  have o1 := o0.step hb1
  have hx1 := (hx0.below hb1).more hb1.size
  obtain ⟨p0, p1, p2, p3, p4, p5⟩ := own_six4 o1
  clear hb0 hb1 ht0 o0 hx0 hg
  go_wp2_with fail
  refine (rwrap_yes a0 a1 a2 a3 a4 a5 k A n c xs _ hx1 HA.out).mono ?_
  rintro e w2 ⟨v, rfl, hov, hb3⟩
  obtain ⟨A2, c2, rfl, hc2, hs2⟩ := own_val hov
  have hb4 := bl_trans hb2 hb3
  have ht2 := ht1.below hb3
  have o2 := o1.step hb3
  have ho2 := ho.step hb3
  have hB1 : Bytes w2 w2.heap.size (some ⟨g, 0, none⟩) (19 + n) (hForm (19 + n) k ++ xs) := ⟨hzl.out, hzr.out, Shows.of_owned ho2 ho2.lt⟩
  have hB2 : Bytes w2 w2.heap.size A2 (19 + n) (hForm (19 + n) k ++ xs) := ⟨hzl.out, hzr.out, hs2⟩
  clear hb2 hb3 ht1 o1 hx1 p0 p1 p2 p3 p4 p5 ho hov hs2 ho2
  go_wp2_with fail
  refine (bytesEq_same _ _ _ _ _ _ _ _ _ _ hB1 hB2 (by omega) (by omega)).mono ?_
  rintro e w3 ⟨rfl, m, rfl⟩
  have hb5 := bl_drewN hb4 m
  have ht3 := ht2.drewN m
  obtain ⟨p0, p1, p2, p3, p4, p5⟩ := own_six4 (o2.drewN m)
  have hB3 : Bytes (w2.drewN m) (w2.drewN m).heap.size (some ⟨g, 0, none⟩) (19 + n) (hForm (19 + n) k ++ xs) := hB1
  clear hb4 ht2 hB1 hB2 o2
  generalize w2.drewN m = w3 at *
  go_wp2_with fail
  refine (hparse_wrapped a0 a1 a2 a3 a4 a5 k (19 + n) _ (19 + n) _ xs _ ht3 (by simp) hB3 (Nat.le_refl _) (by omega) (by omega) HA.out).mono ?_
  rintro e w4 ⟨rfl, hb6⟩
  have hb7 := bl_trans hb5 hb6
  have hb8 := bl_alloc (bl_alloc hb7 (.cells #[.int .i64 (19 + n), .int .i64 k] 27)) (.cells #[.int .i64 0, .int .i64 0, .int .i64 0, .slice none 0 0, .int .i64 0] 29)
  have ht4 := ((ht3.below hb6).alloc (.cells #[.int .i64 (19 + n), .int .i64 k] 27)).alloc (.cells #[.int .i64 0, .int .i64 0, .int .i64 0, .slice none 0 0, .int .i64 0] 29)
  have q1 := (Own.new w4 27 #[.int .i64 (19 + n), .int .i64 k]).alloc (.cells #[.int .i64 0, .int .i64 0, .int .i64 0, .slice none 0 0, .int .i64 0] 29)
  have q2 := Own.new (w4.alloc (.cells #[.int .i64 (19 + n), .int .i64 k] 27)) 29 #[.int .i64 0, .int .i64 0, .int .i64 0, .slice none 0 0, .int .i64 0]
  rw [show (w4.alloc (.cells #[.int .i64 (19 + n), .int .i64 k] 27)).heap.size = w4.heap.size + 1 by simp] at q2
  clear hb5 hb6 hb7 ht3 hB3 p0 p1 p2 p3 p4 p5
  go_wp2_with fail
  refine (alive4_any _ ht4).mono ?_
  rintro e w5 ⟨rfl, hb9⟩
  have hb10 := bl_trans hb8 hb9
  have r1 := q1.step hb9
  have r2 := q2.step hb9
  have z0 := r2.cell (i := 0) (v := .int .i64 0) rfl
  have z1 := r2.cell (i := 1) (v := .int .i64 0) rfl
  have z2 := r2.cell (i := 2) (v := .int .i64 0) rfl
  have z3 := r2.cell (i := 3) (v := .slice none 0 0) rfl
  have z4 := r2.cell (i := 4) (v := .int .i64 0) rfl
  clear hb8 hb9 ht4 q1 q2
  go_wp2_with fail
  refine (vsame_same 0 0 0 0 none none 0 0 0 0 [] _ (Bytes.nil _ _ _) (Bytes.nil _ _ _)).mono ?_
  rintro e w6 ⟨rfl, hb11⟩
  have hb12 := bl_trans hb10 hb11
  have s1 := r1.step hb11
  have y0 := s1.cell (i := 0) (v := .int .i64 (19 + n)) rfl
  have y1 := s1.cell (i := 1) (v := .int .i64 k) rfl
  clear z0 z1 z2 z3 z4 r1 r2 hb10 hb11 s1
  go_wp2
  go_ret
  exact ⟨rfl, hb12⟩
set_option maxRecDepth 100000 in
theorem hwraps_all (a0 a1 a2 a3 a4 a5 : Bool) (k : Int) (A : Option Addr) (n c : Nat) (xs : List Int) (w : World) (ht : HRows w) (hx : Bytes w w.heap.size A n xs) (hm : n ≤ maxLen) :
    Calls Tryd.prog 4 #[.agg #[.bool a0, .bool a1, .bool a2, .bool a3, .bool a4, .bool a5], .int .i64 k, .slice A n c] w fun e w' => e = .returned (.bool true) ∧ Below w.heap.size w w' := by
  by_cases h : 5000 < n
  · exact hwraps_early a0 a1 a2 a3 a4 a5 k A n c w ht hm h
  · cases hA : hAllow a1 k (19 + n)
    · exact hwraps_no a0 a1 a2 a3 a4 a5 k A n c w ht (by omega) hA
    · exact hwraps_yes a0 a1 a2 a3 a4 a5 k A n c xs w ht hx (by omega) hA
end Go.Proofs.YtejdpfhdjndefaaDoor

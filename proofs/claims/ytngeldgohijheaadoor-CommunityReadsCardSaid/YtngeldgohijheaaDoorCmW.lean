/- CommunityReads: the walk -/
import Derived.Test.YtngeldgohijheaaDoorCmV
import Derived.Test.YtngeldgohijheaaDoorCmS
namespace Go.Proofs.YtngeldgohijheaaDoor
open Go.RowKit Go.Sort

theorem row_u32s {w : World} {base n c : Nat} {A : Option Addr} {xs : List Int} (h : w.ownsRow base 24 1 (.slice A n c) n (xs.map (Value.int .u32))) (hn : n = xs.length) : U32s w w.heap.size A n xs := by
  obtain ⟨_, _, e, _, hs⟩ := own_val h
  injection e with e1 _ e2
  subst e1 e2
  exact ⟨hn, hs⟩
theorem nums_back {m : Nat} {xs : List Int} (hr : byteL xs) (h : xs.length = 4 * m) : cmForm (nums 4 m xs) = xs := by
  unfold cmForm
  rw [nums_form (.inr rfl) hr (by omega), List.take_of_length_le (by omega)]
set_option maxRecDepth 100000 in
theorem creads_early (k : Int) (A : Option Addr) (n c : Nat) (w : World) (ht : Tens w) (hm : n ≤ maxLen) (h : 600 < n) :
    Calls Tryd.prog 3 #[.int .i64 k, .slice A n c] w fun e w' => e = .returned (.bool true) ∧ Below w.heap.size w w' := by
  unfold maxLen at hm
  have d : decide ((600 : Int) < (n : Int)) = true := by simp; omega
  go_enter Tryd.func3, Tryd.ntmps3
  go_wp2_with fail
  refine (alive09_any _ ht).mono ?_
  rintro e w1 ⟨rfl, hb1⟩
  go_wp2
  go_ret
  exact ⟨rfl, hb1⟩
set_option maxRecDepth 100000 in
set_option maxHeartbeats 3200000 in
theorem creads_yes (k : Int) (A : Option Addr) (n c : Nat) (xs : List Int) (w : World) (ht : Tens w) (hx : Bytes w w.heap.size A n xs) (hnc : n ≤ c) (hm : c ≤ maxLen) (h : n ≤ 600) (hr : cmRd k n = true) :
    Calls Tryd.prog 3 #[.int .i64 k, .slice A n c] w fun e w' => e = .returned (.bool true) ∧ Below w.heap.size w w' := by
  have d : decide ((600 : Int) < (n : Int)) = false := by simp; omega
  have h4 : n % 4 = 0 := by
    by_cases h4 : n % 4 = 0
    · exact h4
    · rw [cmRd_four h4] at hr; cases hr
  obtain ⟨m, hm4⟩ : ∃ m, n / 4 = m := ⟨_, rfl⟩
  have hnm : n = 4 * m := by omega
  have hR := Lib.hid (fun (W : World) (hb : Below w.heap.size w W) => cmread_yes k A n c m xs W ((hx.below hb).more hb.size) hr hnm (by omega))
  have hRR := Lib.hid (fun (W : World) (hb : Below w.heap.size w W) => (rcmread_any k A n c xs W ((hx.below hb).more hb.size) hnc hm (by omega)).mono (fun e w' h => h.1 hr))
  rw [hm4] at hRR
  have hL := nums_back (m := m) hx.2.1 (by rw [← hx.1]; exact hnm)
  have hl := nums_len 4 m xs
  have hR9 : U32L (nums 4 m xs) := nums_range (by omega) hx.2.1
  generalize nums 4 m xs = L at *
  have HL := Lib.hid hl
  have hOk := Lib.hid (fun A c => (cmRd_ok (k := k) hnm A c).trans hr)
  have hBB := Lib.hid (fun (W : World) (A1 : Option Addr) (c1 : Nat) (hU : U32s W W.heap.size A1 m L) => cmbytes_yes (atL k false A1 m c1) L W hU hR9 (by show m ≤ 1000; omega) (hOk.out A1 c1))
  rw [hL, ← hx.1] at hBB
  have hSS := Lib.hid (fun (W : World) (A1 A2 : Option Addr) (c1 c2 : Nat) (h1 : U32s W W.heap.size A1 m L) (h2 : U32s W W.heap.size A2 m L) => rsame09_yes (atL k false A1 m c1) (atL k false A2 m c2) L W rfl rfl (cmB_atL _ _ _ _ _) (cmB_atL _ _ _ _ _) h1 h2 (by omega))
  unfold atL atc at hR hRR hBB hSS
  dsimp only at hR hRR hBB hSS
  have HX := Lib.hid hx
  clear hx hr h4 hm4 hnm hl hL hR9 hOk
  go_enter Tryd.func3, Tryd.ntmps3
  go_wp2_with fail
  refine (hR.out _ (bl_refl w)).mono ?_
  rintro e w1 ⟨A1, c1, rfl, row1, hb1⟩
  have hb2 := bl_alloc hb1 (.cells #[.int .i64 k, .bool false, .int .u32 0, .int .u32 0, .slice none 0 0, .slice A1 m c1, .slice none 0 0, .int .i64 0, .slice none 0 0] 29)
  have o1 := Own.new w1 29 #[.int .i64 k, .bool false, .int .u32 0, .int .u32 0, .slice none 0 0, .slice A1 m c1, .slice none 0 0, .int .i64 0, .slice none 0 0]
  have row1' := row1.alloc (.cells #[.int .i64 k, .bool false, .int .u32 0, .int .u32 0, .slice none 0 0, .slice A1 m c1, .slice none 0 0, .int .i64 0, .slice none 0 0] 29)
  go_wp2_with fail
  refine (hRR.out _ hb2).mono ?_
  rintro e w2 ⟨A2, c2, rfl, row2, hb3⟩
  have hb4 := bl_alloc (bl_trans hb2 hb3) (.cells #[.int .i64 k, .bool false, .int .u32 0, .int .u32 0, .slice none 0 0, .slice A2 m c2, .slice none 0 0, .int .i64 0, .slice none 0 0] 29)
  have o2 := (o1.step hb3).alloc (.cells #[.int .i64 k, .bool false, .int .u32 0, .int .u32 0, .slice none 0 0, .slice A2 m c2, .slice none 0 0, .int .i64 0, .slice none 0 0] 29)
  have o3 := Own.new w2 29 #[.int .i64 k, .bool false, .int .u32 0, .int .u32 0, .slice none 0 0, .slice A2 m c2, .slice none 0 0, .int .i64 0, .slice none 0 0]
  have r1 := (own_belowG row1' hb3).alloc (.cells #[.int .i64 k, .bool false, .int .u32 0, .int .u32 0, .slice none 0 0, .slice A2 m c2, .slice none 0 0, .int .i64 0, .slice none 0 0] 29)
  have r2 := row2.alloc (.cells #[.int .i64 k, .bool false, .int .u32 0, .int .u32 0, .slice none 0 0, .slice A2 m c2, .slice none 0 0, .int .i64 0, .slice none 0 0] 29)
  have HU1 := Lib.hid (row_u32s r1 HL.out.symm)
  have HU2 := Lib.hid (row_u32s r2 HL.out.symm)
  obtain ⟨e0, e1, e2, e3, e4, e5, e6, e7, e8⟩ := at_cells o2
  have hl := o2.lt
  clear hb1 hb2 hb3 o1 row1 row1' row2 r1 r2
  go_wp2_with fail
  refine (hBB.out _ _ _ HU1.out).mono ?_
  rintro e w3 ⟨A3, rfl, hB3, hb5⟩
  have hb6 := bl_trans hb4 hb5
  have p2 := o2.step hb5
  have p3 := o3.step hb5
  have V1 := Lib.hid ((HU1.out.below hb5).more hb5.size)
  have V2 := Lib.hid ((HU2.out.below hb5).more hb5.size)
  clear e0 e1 e2 e3 e4 e5 e6 e7 e8 hl o2 o3 hb4 hb5 HU1 HU2
  go_wp2_with fail
  refine (alive09_any _ (ht.below hb6)).mono ?_
  rintro e w4 ⟨rfl, hb7⟩
  have q2 := p2.step hb7
  have q3 := p3.step hb7
  have hb8 := bl_trans hb6 hb7
  have hB4 := Lib.hid ((hB3.below hb7).more hb7.size)
  have X1 := Lib.hid ((V1.out.below hb7).more hb7.size)
  have X2 := Lib.hid ((V2.out.below hb7).more hb7.size)
  obtain ⟨e0, e1, e2, e3, e4, e5, e6, e7, e8⟩ := at_cells q2
  obtain ⟨f0, f1, f2, f3, f4, f5, f6, f7, f8⟩ := at_cells q3
  clear p2 p3 hB3 hb6 hb7 V1 V2
  go_wp2_with fail
  refine (hSS.out _ _ _ _ _ X1.out X2.out).mono ?_
  rintro e w5 ⟨rfl, hb10⟩
  have hb11 := bl_trans hb8 hb10
  have hX := Lib.hid ((HX.out.below hb11).more hb11.size)
  have hB5 := Lib.hid ((hB4.out.below hb10).more hb10.size)
  go_wp2_with fail
  refine (bytesEq_any _ _ _ _ _ _ xs xs _ _ _ hB5.out hX.out (by omega) (by omega)).mono ?_
  rw [decide_eq_true (rfl : xs = xs)]
  rintro e w6 ⟨rfl, j, rfl⟩
  go_wp2
  go_ret
  exact ⟨rfl, bl_drewN hb11 j⟩
set_option maxRecDepth 100000 in
set_option maxHeartbeats 3200000 in
theorem creads_no (k : Int) (A : Option Addr) (n c : Nat) (xs : List Int) (w : World) (ht : Tens w) (hx : Bytes w w.heap.size A n xs) (hnc : n ≤ c) (hm : c ≤ maxLen) (h : n ≤ 600) (hr : cmRd k n = false) :
    Calls Tryd.prog 3 #[.int .i64 k, .slice A n c] w fun e w' => e = .returned (.bool true) ∧ Below w.heap.size w w' := by
  have d : decide ((600 : Int) < (n : Int)) = false := by simp; omega
  have hR := Lib.hid (fun (W : World) => cmread_no k A n c W hr (Nat.le_trans hnc hm))
  have hRR := Lib.hid (fun (W : World) (hb : Below w.heap.size w W) => (rcmread_any k A n c xs W ((hx.below hb).more hb.size) hnc hm (by omega)).mono (fun e w' h => h.2 hr))
  have hBB := Lib.hid (fun (W : World) => cmbytes_no (atL 0 false none 0 0) W (by show 0 ≤ maxLen; omega) (by unfold cmOk cmG atL; simp))
  have hSS := Lib.hid (fun (W : World) => rsame09_yes (atL 0 false none 0 0) (atL 0 false none 0 0) [] W rfl rfl (cmB_atL _ _ _ _ _) (cmB_atL _ _ _ _ _) ⟨rfl, .inl rfl⟩ ⟨rfl, .inl rfl⟩ (by simp))
  unfold atL atc at hR hRR hBB hSS
  dsimp only at hR hRR hBB hSS
  clear hx hr
  go_enter Tryd.func3, Tryd.ntmps3
  go_wp2_with fail
  refine (hR.out _).mono ?_
  rintro e w1 ⟨rfl, hb1⟩
  have hb2 := bl_alloc hb1 (.cells #[.int .i64 0, .bool false, .int .u32 0, .int .u32 0, .slice none 0 0, .slice none 0 0, .slice none 0 0, .int .i64 0, .slice none 0 0] 29)
  have o1 := Own.new w1 29 #[.int .i64 0, .bool false, .int .u32 0, .int .u32 0, .slice none 0 0, .slice none 0 0, .slice none 0 0, .int .i64 0, .slice none 0 0]
  go_wp2_with fail
  refine (hRR.out _ hb2).mono ?_
  rintro e w2 ⟨rfl, hb3⟩
  have hb4 := bl_alloc (bl_trans hb2 hb3) (.cells #[.int .i64 0, .bool false, .int .u32 0, .int .u32 0, .slice none 0 0, .slice none 0 0, .slice none 0 0, .int .i64 0, .slice none 0 0] 29)
  have o2 := (o1.step hb3).alloc (.cells #[.int .i64 0, .bool false, .int .u32 0, .int .u32 0, .slice none 0 0, .slice none 0 0, .slice none 0 0, .int .i64 0, .slice none 0 0] 29)
  have o3 := Own.new w2 29 #[.int .i64 0, .bool false, .int .u32 0, .int .u32 0, .slice none 0 0, .slice none 0 0, .slice none 0 0, .int .i64 0, .slice none 0 0]
  obtain ⟨e0, e1, e2, e3, e4, e5, e6, e7, e8⟩ := at_cells o2
  have hl := o2.lt
  clear hb1 hb2 hb3 o1
  go_wp2_with fail
  refine (hBB.out _).mono ?_
  rintro e w3 ⟨rfl, hb5⟩
  have hb6 := bl_trans hb4 hb5
  have p2 := o2.step hb5
  have p3 := o3.step hb5
  clear e0 e1 e2 e3 e4 e5 e6 e7 e8 hl o2 o3 hb4 hb5
  go_wp2_with fail
  refine (alive09_any _ (ht.below hb6)).mono ?_
  rintro e w4 ⟨rfl, hb7⟩
  have hb8 := bl_trans hb6 hb7
  obtain ⟨e0, e1, e2, e3, e4, e5, e6, e7, e8⟩ := at_cells (p2.step hb7)
  obtain ⟨f0, f1, f2, f3, f4, f5, f6, f7, f8⟩ := at_cells (p3.step hb7)
  clear p2 p3 hb6 hb7
  go_wp2_with fail
  refine (hSS.out _).mono ?_
  rintro e w5 ⟨rfl, hb10⟩
  go_wp2
  go_ret
  exact ⟨rfl, bl_trans hb8 hb10⟩
set_option maxRecDepth 100000 in
theorem creads_all (k : Int) (_w0 : (Lit.int .i64 k).wf = true) (A : Option Addr) (n c : Nat) (xs : List Int) (w : World) (ht : Tens w) (hx : Bytes w w.heap.size A n xs) (hnc : n ≤ c) (hm : c ≤ maxLen) :
    Calls Tryd.prog 3 #[.int .i64 k, .slice A n c] w fun e w' => e = .returned (.bool true) ∧ Below w.heap.size w w' := by
  by_cases h : 600 < n
  · exact creads_early k A n c w ht (Nat.le_trans hnc hm) h
  · by_cases hr : cmRd k n = true
    · exact creads_yes k A n c xs w ht hx hnc hm (by omega) hr
    · exact creads_no k A n c xs w ht hx hnc hm (by omega) (by simpa using hr)
end Go.Proofs.YtngeldgohijheaaDoor

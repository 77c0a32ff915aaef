/- peerageref07.Read -/
import Derived.Test.YtmcnpkfeipelgaaGreatDoorBsD
namespace Go.Proofs.YtmcnpkfeipelgaaGreatDoor
open Go.RowKit Go.Maps

theorem vOk_at0 (k N : Int) : vOk (at0 k N) = (bKnown k && decide ((k = 1 → N ≤ 2) ∧ (k = 6 → N = 0))) := by
  unfold vOk bareB at0
  simp
theorem at0_zero : atc (at0 0 0) = #[.int .i64 0, .bool false, .int .u32 0, .int .u32 0, .slice none 0 0, .slice none 0 0, .slice none 0 0, .int .i64 0, .slice none 0 0] := rfl
/-- The number that the first four bytes are. -/
def bigF (xs : List Int) : Int := big (xs.take (min xs.length 4))
set_option maxRecDepth 100000 in
set_option maxHeartbeats 1600000 in
theorem rbread_y (k : Int) (A : Option Addr) (n c : Nat) (xs : List Int) (w : World) (hx : Bytes w w.heap.size A n xs) (hnc : n ≤ c) (hn : n ≤ 1000000) (m : Nat) (hm : min (n : Int) 4 = (m : Int)) (hq : ((n : Int) == bSize k) = true) (hv : vOk (at0 k (bigF xs)) = true) :
    Calls Tryz.prog 73 #[.int .i64 k, .slice A n c] w fun e w' => e = .returned (.tuple #[.agg (atV k (bigF xs)), .int .i64 0]) ∧ Below w.heap.size w w' := by
  have hmn : m ≤ n := by omega
  have hm4 : m ≤ 4 := by omega
  have hxm := Lib.hid (show bigF xs = big (xs.take m) by unfold bigF; rw [← hx.1]; congr 2; omega)
  have hb0 := bl_alloc (bl_refl w) (.cells (atV 0 0) 37)
  have o0 := Own.new w 37 (atV 0 0)
  have hB := Lib.hid (((hx.below hb0).front (k := m) hmn))
  have hV := Lib.hid (fun W => rbvalid_any (at0 k (bigF xs)) W)
  rw [hv] at hV
  unfold at0 atc at hV
  dsimp only at hV
  clear hv hx
  unfold atV at *
  generalize bigF xs = B at *
  have i1 : (m : Int) ≤ (c : Int) := by omega
  have i2 : (0 : Int) ≤ (m : Int) := by omega
  go_enter Tryz.func73, Tryz.ntmps73
  go_wp2_with fail
  refine (rbig_any A m c (xs.take m) _ _ hB.out hm4).mono ?_
  rw [← hxm.out]
  rintro e w' ⟨rfl, rfl⟩
  have hb1 := bl_alloc hb0 (.cells #[.int .i64 k, .bool false, .int .u32 B, .int .u32 0, .slice none 0 0, .slice none 0 0, .slice none 0 0, .int .i64 0, .slice none 0 0] 37)
  have o1 := o0.alloc (.cells #[.int .i64 k, .bool false, .int .u32 B, .int .u32 0, .slice none 0 0, .slice none 0 0, .slice none 0 0, .int .i64 0, .slice none 0 0] 37)
  have oX := Own.new (w.alloc (.cells #[.int .i64 0, .bool false, .int .u32 0, .int .u32 0, .slice none 0 0, .slice none 0 0, .slice none 0 0, .int .i64 0, .slice none 0 0] 37)) 37 #[.int .i64 k, .bool false, .int .u32 B, .int .u32 0, .slice none 0 0, .slice none 0 0, .slice none 0 0, .int .i64 0, .slice none 0 0]
  rw [show (w.alloc (.cells #[.int .i64 0, .bool false, .int .u32 0, .int .u32 0, .slice none 0 0, .slice none 0 0, .slice none 0 0, .int .i64 0, .slice none 0 0] 37)).heap.size = w.heap.size + 1 by simp] at oX
  go_wp2_with fail
  refine (rwidth_any k _).mono ?_
  rintro e w' ⟨rfl, rfl⟩
  obtain ⟨e0, e1, e2, e3, e4, e5, e6, e7, e8⟩ := at_cells oX
  go_wp2_with (first | (go_at_call 57; refine (hV.out _).mono ?_; rintro e w3 ⟨rfl, hb3⟩; have pA := o1.step hb3; have pB := bl_trans hb1 hb3; have pX := oX.step hb3; obtain ⟨e0, e1, e2, e3, e4, e5, e6, e7, e8⟩ := at_cells pX) | (refine wpList_store_row rfl 37 _ _ rfl w.heap.size #[.int .i64 k, .bool false, .int .u32 B, .int .u32 0, .slice none 0 0, .slice none 0 0, .slice none 0 0, .int .i64 0, .slice none 0 0] rfl rfl 37 #[.int .i64 0, .bool false, .int .u32 0, .int .u32 0, .slice none 0 0, .slice none 0 0, .slice none 0 0, .int .i64 0, .slice none 0 0] pA (at_info9 _ _ _ _ _ _ _ _ _) rfl (at_one _ _) ?_))
  exact bodyPost_ret (results_cell_tmp (p := 4) (t := 5) (fn := Tryz.f73) rfl _ _ w.heap.size 37 #[.int .i64 k, .bool false, .int .u32 B, .int .u32 0, .slice none 0 0, .slice none 0 0, .slice none 0 0, .int .i64 0, .slice none 0 0] _ rfl pA.setRow at_desc rfl (at_info9 _ _ _ _ _ _ _ _ _)) rfl ⟨rfl, bl_setRow pB (Nat.le_refl _)⟩
set_option maxRecDepth 100000 in
set_option maxHeartbeats 1600000 in
theorem rbread_w6 (k : Int) (A : Option Addr) (n c : Nat) (xs : List Int) (w : World) (hx : Bytes w w.heap.size A n xs) (hnc : n ≤ c) (hn : n ≤ 1000000) (m : Nat) (hm : min (n : Int) 4 = (m : Int)) (hq : ((n : Int) == bSize k) = false) (hk : (k == 6) = true) :
    Calls Tryz.prog 73 #[.int .i64 k, .slice A n c] w fun e w' => e = .returned (.tuple #[.agg (atV 0 0), .int .i64 1]) ∧ Below w.heap.size w w' := by
  have hmn : m ≤ n := by omega
  have hm4 : m ≤ 4 := by omega
  have hxm := Lib.hid (show bigF xs = big (xs.take m) by unfold bigF; rw [← hx.1]; congr 2; omega)
  have hb0 := bl_alloc (bl_refl w) (.cells (atV 0 0) 37)
  have o0 := Own.new w 37 (atV 0 0)
  have hB := Lib.hid (((hx.below hb0).front (k := m) hmn))
  clear hx
  unfold atV at *
  generalize bigF xs = B at *
  have i1 : (m : Int) ≤ (c : Int) := by omega
  have i2 : (0 : Int) ≤ (m : Int) := by omega
  go_enter Tryz.func73, Tryz.ntmps73
  go_wp2_with fail
  refine (rbig_any A m c (xs.take m) _ _ hB.out hm4).mono ?_
  rw [← hxm.out]
  rintro e w' ⟨rfl, rfl⟩
  have hb1 := bl_alloc hb0 (.cells #[.int .i64 k, .bool false, .int .u32 B, .int .u32 0, .slice none 0 0, .slice none 0 0, .slice none 0 0, .int .i64 0, .slice none 0 0] 37)
  have o1 := o0.alloc (.cells #[.int .i64 k, .bool false, .int .u32 B, .int .u32 0, .slice none 0 0, .slice none 0 0, .slice none 0 0, .int .i64 0, .slice none 0 0] 37)
  have oX := Own.new (w.alloc (.cells #[.int .i64 0, .bool false, .int .u32 0, .int .u32 0, .slice none 0 0, .slice none 0 0, .slice none 0 0, .int .i64 0, .slice none 0 0] 37)) 37 #[.int .i64 k, .bool false, .int .u32 B, .int .u32 0, .slice none 0 0, .slice none 0 0, .slice none 0 0, .int .i64 0, .slice none 0 0]
  rw [show (w.alloc (.cells #[.int .i64 0, .bool false, .int .u32 0, .int .u32 0, .slice none 0 0, .slice none 0 0, .slice none 0 0, .int .i64 0, .slice none 0 0] 37)).heap.size = w.heap.size + 1 by simp] at oX
  go_wp2_with fail
  refine (rwidth_any k _).mono ?_
  rintro e w' ⟨rfl, rfl⟩
  go_wp2_with (first | (refine wpList_store_row rfl 37 _ _ rfl w.heap.size #[.int .i64 0, .bool false, .int .u32 0, .int .u32 0, .slice none 0 0, .slice none 0 0, .slice none 0 0, .int .i64 0, .slice none 0 0] rfl rfl 37 #[.int .i64 0, .bool false, .int .u32 0, .int .u32 0, .slice none 0 0, .slice none 0 0, .slice none 0 0, .int .i64 0, .slice none 0 0] o1 (at_info9 _ _ _ _ _ _ _ _ _) rfl (at_one _ _) ?_))
  exact bodyPost_ret (results_cell_tmp (p := 4) (t := 5) (fn := Tryz.f73) rfl _ _ w.heap.size 37 #[.int .i64 0, .bool false, .int .u32 0, .int .u32 0, .slice none 0 0, .slice none 0 0, .slice none 0 0, .int .i64 0, .slice none 0 0] _ rfl o1.setRow at_desc rfl (at_info9 _ _ _ _ _ _ _ _ _)) rfl ⟨rfl, bl_setRow hb1 (Nat.le_refl _)⟩
set_option maxRecDepth 100000 in
set_option maxHeartbeats 1600000 in
theorem rbread_v6 (k : Int) (A : Option Addr) (n c : Nat) (xs : List Int) (w : World) (hx : Bytes w w.heap.size A n xs) (hnc : n ≤ c) (hn : n ≤ 1000000) (m : Nat) (hm : min (n : Int) 4 = (m : Int)) (hq : ((n : Int) == bSize k) = true) (hv : vOk (at0 k (bigF xs)) = false) (hk : (k == 6) = true) :
    Calls Tryz.prog 73 #[.int .i64 k, .slice A n c] w fun e w' => e = .returned (.tuple #[.agg (atV 0 0), .int .i64 1]) ∧ Below w.heap.size w w' := by
  have hmn : m ≤ n := by omega
  have hm4 : m ≤ 4 := by omega
  have hxm := Lib.hid (show bigF xs = big (xs.take m) by unfold bigF; rw [← hx.1]; congr 2; omega)
  have hb0 := bl_alloc (bl_refl w) (.cells (atV 0 0) 37)
  have o0 := Own.new w 37 (atV 0 0)
  have hB := Lib.hid (((hx.below hb0).front (k := m) hmn))
  have hV := Lib.hid (fun W => rbvalid_any (at0 k (bigF xs)) W)
  rw [hv] at hV
  unfold at0 atc at hV
  dsimp only at hV
  clear hv hx
  unfold atV at *
  generalize bigF xs = B at *
  have i1 : (m : Int) ≤ (c : Int) := by omega
  have i2 : (0 : Int) ≤ (m : Int) := by omega
  go_enter Tryz.func73, Tryz.ntmps73
  go_wp2_with fail
  refine (rbig_any A m c (xs.take m) _ _ hB.out hm4).mono ?_
  rw [← hxm.out]
  rintro e w' ⟨rfl, rfl⟩
  have hb1 := bl_alloc hb0 (.cells #[.int .i64 k, .bool false, .int .u32 B, .int .u32 0, .slice none 0 0, .slice none 0 0, .slice none 0 0, .int .i64 0, .slice none 0 0] 37)
  have o1 := o0.alloc (.cells #[.int .i64 k, .bool false, .int .u32 B, .int .u32 0, .slice none 0 0, .slice none 0 0, .slice none 0 0, .int .i64 0, .slice none 0 0] 37)
  have oX := Own.new (w.alloc (.cells #[.int .i64 0, .bool false, .int .u32 0, .int .u32 0, .slice none 0 0, .slice none 0 0, .slice none 0 0, .int .i64 0, .slice none 0 0] 37)) 37 #[.int .i64 k, .bool false, .int .u32 B, .int .u32 0, .slice none 0 0, .slice none 0 0, .slice none 0 0, .int .i64 0, .slice none 0 0]
  rw [show (w.alloc (.cells #[.int .i64 0, .bool false, .int .u32 0, .int .u32 0, .slice none 0 0, .slice none 0 0, .slice none 0 0, .int .i64 0, .slice none 0 0] 37)).heap.size = w.heap.size + 1 by simp] at oX
  go_wp2_with fail
  refine (rwidth_any k _).mono ?_
  rintro e w' ⟨rfl, rfl⟩
  obtain ⟨e0, e1, e2, e3, e4, e5, e6, e7, e8⟩ := at_cells oX
  go_wp2_with (first | (go_at_call 57; refine (hV.out _).mono ?_; rintro e w3 ⟨rfl, hb3⟩; have pA := o1.step hb3; have pB := bl_trans hb1 hb3; have pX := oX.step hb3; obtain ⟨e0, e1, e2, e3, e4, e5, e6, e7, e8⟩ := at_cells pX) | (refine wpList_store_row rfl 37 _ _ rfl w.heap.size #[.int .i64 0, .bool false, .int .u32 0, .int .u32 0, .slice none 0 0, .slice none 0 0, .slice none 0 0, .int .i64 0, .slice none 0 0] rfl rfl 37 #[.int .i64 0, .bool false, .int .u32 0, .int .u32 0, .slice none 0 0, .slice none 0 0, .slice none 0 0, .int .i64 0, .slice none 0 0] pA (at_info9 _ _ _ _ _ _ _ _ _) rfl (at_one _ _) ?_))
  exact bodyPost_ret (results_cell_tmp (p := 4) (t := 5) (fn := Tryz.f73) rfl _ _ w.heap.size 37 #[.int .i64 0, .bool false, .int .u32 0, .int .u32 0, .slice none 0 0, .slice none 0 0, .slice none 0 0, .int .i64 0, .slice none 0 0] _ rfl pA.setRow at_desc rfl (at_info9 _ _ _ _ _ _ _ _ _)) rfl ⟨rfl, bl_setRow pB (Nat.le_refl _)⟩
set_option maxRecDepth 100000 in
set_option maxHeartbeats 1600000 in
theorem rbread_wn (k : Int) (A : Option Addr) (n c : Nat) (xs : List Int) (w : World) (hx : Bytes w w.heap.size A n xs) (hnc : n ≤ c) (hn : n ≤ 1000000) (m : Nat) (hm : min (n : Int) 4 = (m : Int)) (hq : ((n : Int) == bSize k) = false) (hk : (k == 6) = false) :
    Calls Tryz.prog 73 #[.int .i64 k, .slice A n c] w fun e w' => e = .returned (.tuple #[.agg (atV 0 0), .int .i64 2]) ∧ Below w.heap.size w w' := by
  have hmn : m ≤ n := by omega
  have hm4 : m ≤ 4 := by omega
  have hxm := Lib.hid (show bigF xs = big (xs.take m) by unfold bigF; rw [← hx.1]; congr 2; omega)
  have hb0 := bl_alloc (bl_refl w) (.cells (atV 0 0) 37)
  have o0 := Own.new w 37 (atV 0 0)
  have hB := Lib.hid (((hx.below hb0).front (k := m) hmn))
  clear hx
  unfold atV at *
  generalize bigF xs = B at *
  have i1 : (m : Int) ≤ (c : Int) := by omega
  have i2 : (0 : Int) ≤ (m : Int) := by omega
  go_enter Tryz.func73, Tryz.ntmps73
  go_wp2_with fail
  refine (rbig_any A m c (xs.take m) _ _ hB.out hm4).mono ?_
  rw [← hxm.out]
  rintro e w' ⟨rfl, rfl⟩
  have hb1 := bl_alloc hb0 (.cells #[.int .i64 k, .bool false, .int .u32 B, .int .u32 0, .slice none 0 0, .slice none 0 0, .slice none 0 0, .int .i64 0, .slice none 0 0] 37)
  have o1 := o0.alloc (.cells #[.int .i64 k, .bool false, .int .u32 B, .int .u32 0, .slice none 0 0, .slice none 0 0, .slice none 0 0, .int .i64 0, .slice none 0 0] 37)
  have oX := Own.new (w.alloc (.cells #[.int .i64 0, .bool false, .int .u32 0, .int .u32 0, .slice none 0 0, .slice none 0 0, .slice none 0 0, .int .i64 0, .slice none 0 0] 37)) 37 #[.int .i64 k, .bool false, .int .u32 B, .int .u32 0, .slice none 0 0, .slice none 0 0, .slice none 0 0, .int .i64 0, .slice none 0 0]
  rw [show (w.alloc (.cells #[.int .i64 0, .bool false, .int .u32 0, .int .u32 0, .slice none 0 0, .slice none 0 0, .slice none 0 0, .int .i64 0, .slice none 0 0] 37)).heap.size = w.heap.size + 1 by simp] at oX
  go_wp2_with fail
  refine (rwidth_any k _).mono ?_
  rintro e w' ⟨rfl, rfl⟩
  go_wp2_with (first | (refine wpList_store_row rfl 37 _ _ rfl w.heap.size #[.int .i64 0, .bool false, .int .u32 0, .int .u32 0, .slice none 0 0, .slice none 0 0, .slice none 0 0, .int .i64 0, .slice none 0 0] rfl rfl 37 #[.int .i64 0, .bool false, .int .u32 0, .int .u32 0, .slice none 0 0, .slice none 0 0, .slice none 0 0, .int .i64 0, .slice none 0 0] o1 (at_info9 _ _ _ _ _ _ _ _ _) rfl (at_one _ _) ?_))
  exact bodyPost_ret (results_cell_tmp (p := 4) (t := 5) (fn := Tryz.f73) rfl _ _ w.heap.size 37 #[.int .i64 0, .bool false, .int .u32 0, .int .u32 0, .slice none 0 0, .slice none 0 0, .slice none 0 0, .int .i64 0, .slice none 0 0] _ rfl o1.setRow at_desc rfl (at_info9 _ _ _ _ _ _ _ _ _)) rfl ⟨rfl, bl_setRow hb1 (Nat.le_refl _)⟩
set_option maxRecDepth 100000 in
set_option maxHeartbeats 1600000 in
theorem rbread_vn (k : Int) (A : Option Addr) (n c : Nat) (xs : List Int) (w : World) (hx : Bytes w w.heap.size A n xs) (hnc : n ≤ c) (hn : n ≤ 1000000) (m : Nat) (hm : min (n : Int) 4 = (m : Int)) (hq : ((n : Int) == bSize k) = true) (hv : vOk (at0 k (bigF xs)) = false) (hk : (k == 6) = false) :
    Calls Tryz.prog 73 #[.int .i64 k, .slice A n c] w fun e w' => e = .returned (.tuple #[.agg (atV 0 0), .int .i64 2]) ∧ Below w.heap.size w w' := by
  have hmn : m ≤ n := by omega
  have hm4 : m ≤ 4 := by omega
  have hxm := Lib.hid (show bigF xs = big (xs.take m) by unfold bigF; rw [← hx.1]; congr 2; omega)
  have hb0 := bl_alloc (bl_refl w) (.cells (atV 0 0) 37)
  have o0 := Own.new w 37 (atV 0 0)
  have hB := Lib.hid (((hx.below hb0).front (k := m) hmn))
  have hV := Lib.hid (fun W => rbvalid_any (at0 k (bigF xs)) W)
  rw [hv] at hV
  unfold at0 atc at hV
  dsimp only at hV
  clear hv hx
  unfold atV at *
  generalize bigF xs = B at *
  have i1 : (m : Int) ≤ (c : Int) := by omega
  have i2 : (0 : Int) ≤ (m : Int) := by omega
  go_enter Tryz.func73, Tryz.ntmps73
  go_wp2_with fail
  refine (rbig_any A m c (xs.take m) _ _ hB.out hm4).mono ?_
  rw [← hxm.out]
  rintro e w' ⟨rfl, rfl⟩
  have hb1 := bl_alloc hb0 (.cells #[.int .i64 k, .bool false, .int .u32 B, .int .u32 0, .slice none 0 0, .slice none 0 0, .slice none 0 0, .int .i64 0, .slice none 0 0] 37)
  have o1 := o0.alloc (.cells #[.int .i64 k, .bool false, .int .u32 B, .int .u32 0, .slice none 0 0, .slice none 0 0, .slice none 0 0, .int .i64 0, .slice none 0 0] 37)
  have oX := Own.new (w.alloc (.cells #[.int .i64 0, .bool false, .int .u32 0, .int .u32 0, .slice none 0 0, .slice none 0 0, .slice none 0 0, .int .i64 0, .slice none 0 0] 37)) 37 #[.int .i64 k, .bool false, .int .u32 B, .int .u32 0, .slice none 0 0, .slice none 0 0, .slice none 0 0, .int .i64 0, .slice none 0 0]
  rw [show (w.alloc (.cells #[.int .i64 0, .bool false, .int .u32 0, .int .u32 0, .slice none 0 0, .slice none 0 0, .slice none 0 0, .int .i64 0, .slice none 0 0] 37)).heap.size = w.heap.size + 1 by simp] at oX
  go_wp2_with fail
  refine (rwidth_any k _).mono ?_
  rintro e w' ⟨rfl, rfl⟩
  obtain ⟨e0, e1, e2, e3, e4, e5, e6, e7, e8⟩ := at_cells oX
  go_wp2_with (first | (go_at_call 57; refine (hV.out _).mono ?_; rintro e w3 ⟨rfl, hb3⟩; have pA := o1.step hb3; have pB := bl_trans hb1 hb3; have pX := oX.step hb3; obtain ⟨e0, e1, e2, e3, e4, e5, e6, e7, e8⟩ := at_cells pX) | (refine wpList_store_row rfl 37 _ _ rfl w.heap.size #[.int .i64 0, .bool false, .int .u32 0, .int .u32 0, .slice none 0 0, .slice none 0 0, .slice none 0 0, .int .i64 0, .slice none 0 0] rfl rfl 37 #[.int .i64 0, .bool false, .int .u32 0, .int .u32 0, .slice none 0 0, .slice none 0 0, .slice none 0 0, .int .i64 0, .slice none 0 0] pA (at_info9 _ _ _ _ _ _ _ _ _) rfl (at_one _ _) ?_))
  exact bodyPost_ret (results_cell_tmp (p := 4) (t := 5) (fn := Tryz.f73) rfl _ _ w.heap.size 37 #[.int .i64 0, .bool false, .int .u32 0, .int .u32 0, .slice none 0 0, .slice none 0 0, .slice none 0 0, .int .i64 0, .slice none 0 0] _ rfl pA.setRow at_desc rfl (at_info9 _ _ _ _ _ _ _ _ _)) rfl ⟨rfl, bl_setRow pB (Nat.le_refl _)⟩
theorem numV_big {k : Int} {xs : List Int} (h : (xs.length : Int) = bSize k) : numV xs (bSize k) = bigF xs := by
  have h4 : bSize k ≤ 4 := by
    rcases bSize_cases k with ⟨h1, _⟩ | ⟨_, h3, _⟩ <;> omega
  unfold numV bigF numOk
  rw [List.take_of_length_le (show xs.length ≤ min xs.length 4 by omega)]
  by_cases h0 : 1 ≤ bSize k
  · rw [if_pos (by rw [decide_eq_true_eq]; omega), List.take_of_length_le (by omega)]
  · have hz : xs = [] := List.length_eq_zero_iff.1 (by omega)
    rw [if_neg (by rw [decide_eq_true_eq]; omega), hz]
    rfl
theorem bOkV_eq (k : Int) (xs : List Int) : bOkV k xs = (decide ((xs.length : Int) = bSize k) && vOk (at0 k (bigF xs))) := by
  by_cases h : (xs.length : Int) = bSize k
  · have hk : bKnown k = true := by
      rcases bSize_cases k with ⟨h1, _⟩ | ⟨_, _, h3⟩
      · omega
      · exact h3
    have h6 : k = 6 → bigF xs = 0 := by
      rintro rfl
      have : xs = [] := List.length_eq_zero_iff.1 (by have : bSize 6 = 0 := rfl; omega)
      rw [this]; rfl
    have h1 : k = 1 → numV xs 1 = bigF xs := by
      rintro rfl
      exact numV_big (k := 1) h
    rw [vOk_at0, hk]
    unfold bOkV
    rw [Bool.eq_iff_iff]
    simp only [decide_eq_true_eq, Bool.and_eq_true, Bool.true_and]
    constructor
    · rintro ⟨a, b⟩
      exact ⟨a, fun e => by rw [← h1 e]; exact b e, h6⟩
    · rintro ⟨a, b, _⟩
      exact ⟨a, fun e => by rw [h1 e]; exact b e⟩
  · unfold bOkV
    rw [decide_eq_false h, Bool.false_and]
    exact decide_eq_false (fun e => h e.1)
set_option maxRecDepth 100000 in
theorem rbread_any (k : Int) (A : Option Addr) (n c : Nat) (xs : List Int) (w : World) (hx : Bytes w w.heap.size A n xs) (hnc : n ≤ c) (hn : n ≤ 1000000) :
    Calls Tryz.prog 73 #[.int .i64 k, .slice A n c] w fun e w' => e = .returned (.tuple #[.agg (bAtt k xs), .int .i64 (bKind k xs)]) ∧ Below w.heap.size w w' := by
  have hl := hx.1
  have hm : min (n : Int) 4 = ((min n 4 : Nat) : Int) := by omega
  have hO := bOkV_eq k xs
  unfold bAtt bKind bRefuse
  by_cases h : (xs.length : Int) = bSize k
  · have hq : ((n : Int) == bSize k) = true := by rw [hl, beq_iff_eq]; exact h
    rw [decide_eq_true h, Bool.true_and] at hO
    rw [numV_big h]
    cases hv : vOk (at0 k (bigF xs)) with
    | true =>
      rw [hv] at hO
      rw [hO]
      exact rbread_y k A n c xs w hx hnc hn _ hm hq hv
    | false =>
      rw [hv] at hO
      rw [hO]
      by_cases h6 : k = 6
      · simp only [h6]
        exact rbread_v6 6 A n c xs w hx hnc hn _ hm (by rw [← h6]; exact hq) (by rw [← h6]; exact hv) rfl
      · simp only [if_neg h6]
        exact rbread_vn k A n c xs w hx hnc hn _ hm hq hv (by simpa using h6)
  · have hq : ((n : Int) == bSize k) = false := by rw [hl, beq_eq_false_iff_ne]; exact h
    rw [decide_eq_false h, Bool.false_and] at hO
    rw [hO]
    by_cases h6 : k = 6
    · simp only [h6]
      exact rbread_w6 6 A n c xs w hx hnc hn _ hm (by rw [← h6]; exact hq) rfl
    · simp only [if_neg h6]
      exact rbread_wn k A n c xs w hx hnc hn _ hm hq (by simpa using h6)
end Go.Proofs.YtmcnpkfeipelgaaGreatDoor

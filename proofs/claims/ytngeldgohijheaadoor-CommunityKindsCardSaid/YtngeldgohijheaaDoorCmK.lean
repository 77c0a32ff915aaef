/- CommunityKinds: the walk -/
import Derived.Test.YtngeldgohijheaaDoorCmR
import Derived.Test.YtngeldgohijheaaDoorCmB
import Derived.Test.YtngeldgohijheaaDoorCmS
import Derived.Deep.QuietTactic
import Derived.Deep.Draws
namespace Go.Proofs.YtngeldgohijheaaDoor
open Go.RowKit Go.Sort

theorem row_u32k {w : World} {base n c : Nat} {A : Option Addr} {xs : List Int} (h : w.ownsRow base 24 1 (.slice A n c) n (xs.map (Value.int .u32))) (hn : n = xs.length) : U32s w w.heap.size A n xs := by
  obtain ⟨_, _, e, _, hs⟩ := own_val h
  injection e with e1 _ e2
  subst e1 e2
  exact ⟨hn, hs⟩
theorem nums_cons4 (x : Int) (h0 : 0 ≤ x) (h1 : x < 4294967296) (rest : List Int) (n : Nat) : nums 4 (n + 1) (digitsOf 4 x ++ rest) = x :: nums 4 n rest := by
  unfold nums
  rw [List.range_succ_eq_map, List.map_cons, List.map_map, digitsOf_4]
  congr 1
  · simp [big]
    omega
  · exact List.map_congr_left (fun i _ => by
      show big (List.take 4 (List.drop (Nat.succ i * 4) _)) = _
      rw [show Nat.succ i * 4 = i * 4 + 1 + 1 + 1 + 1 by omega]
      rfl)
set_option maxRecDepth 100000 in
theorem cmgroup_draws (k : Int) (W : World) : Draws Tryd.prog 17 #[.int .i64 k] W (.int .i64 (cmG k : Nat)) := Draws.of_same fun _ => rcmgroup_any k _
theorem nums_form4 : ∀ {ls : List Int}, U32L ls → nums 4 ls.length (cmForm ls) = ls
  | [], _ => rfl
  | x :: ls, h => by
    have hx := h x List.mem_cons_self
    have ih := nums_form4 (ls := ls) (fun y hy => h y (List.mem_cons_of_mem _ hy))
    show nums 4 (ls.length + 1) (digitsOf 4 x ++ cmForm ls) = _
    rw [nums_cons4 x hx.1 hx.2, ih]
theorem cmForm_range (ls : List Int) : ∀ x ∈ cmForm ls, 0 ≤ x ∧ x ≤ 255 := by
  intro x hx
  obtain ⟨y, _, hy⟩ := List.mem_flatMap.1 hx
  exact digitsOf_range 4 y x hy
set_option maxRecDepth 100000 in
theorem ckinds_early (a : At) (kd : Int) (ss : List Sg) (w : World) (ht : Tens w) (hs : Segs w w.heap.size a.A1 a.n1 ss) (hm : a.n1 ≤ maxLen) (hm2 : a.n2 ≤ maxLen) (h : (small9 a ss && cmOk a) = false) :
    Calls Tryd.prog 4 #[.agg (atc a), .int .u8 kd] w fun e w' => e = .returned (.bool true) ∧ Below w.heap.size w w' := by
  have hSm := Lib.hid (fun (W : World) (hb : Below w.heap.size w W) => small09_any a ss W ((hs.below hb).more hb.size) hm)
  have hV := Lib.hid (fun W => rcmvalid_any a W hm2)
  have HT := Lib.hid ht
  generalize small9 a ss = q at *
  generalize cmOk a = r at *
  clear hs ht
  obtain ⟨k, p, N, M, A1, n1, c1, A2, n2, c2, A3, n3, c3, f, A4, n4, c4⟩ := a
  unfold atc at *
  dsimp only at *
  have hb0 := bl_alloc (bl_refl w) (.cells #[.int .i64 k, .bool p, .int .u32 N, .int .u32 M, .slice A1 n1 c1, .slice A2 n2 c2, .slice A3 n3 c3, .int .i64 f, .slice A4 n4 c4] 29)
  have o0 := Own.new w 29 #[.int .i64 k, .bool p, .int .u32 N, .int .u32 M, .slice A1 n1 c1, .slice A2 n2 c2, .slice A3 n3 c3, .int .i64 f, .slice A4 n4 c4]
  cases q
  · go_enter Tryd.func4, Tryd.ntmps4
    go_wp2_with fail
    refine (hSm.out _ hb0).mono ?_
    rintro e w1 ⟨rfl, hb1⟩
    have hb2 := bl_trans hb0 hb1
    go_wp2_with fail
    refine (alive09_any _ (HT.out.below hb2)).mono ?_
    rintro e w3 ⟨rfl, hb3⟩
    go_wp2
    go_ret
    exact ⟨rfl, bl_trans hb2 hb3⟩
  · rw [Bool.true_and] at h
    subst h
    go_enter Tryd.func4, Tryd.ntmps4
    go_wp2_with fail
    refine (hSm.out _ hb0).mono ?_
    rintro e w1 ⟨rfl, hb1⟩
    have hb2 := bl_trans hb0 hb1
    obtain ⟨e0, e1, e2, e3, e4, e5, e6, e7, e8⟩ := at_cells (o0.step hb1)
    go_wp2_with fail
    refine (hV.out _).mono ?_
    rintro e w2 ⟨rfl, hb3⟩
    have hb4 := bl_trans hb2 hb3
    go_wp2_with fail
    refine (alive09_any _ (HT.out.below hb4)).mono ?_
    rintro e w5 ⟨rfl, hb5⟩
    go_wp2
    go_ret
    exact ⟨rfl, bl_trans hb4 hb5⟩
set_option maxRecDepth 100000 in
set_option maxHeartbeats 3200000 in
theorem ckinds_8 (a : At) (kd : Int) (ss : List Sg) (ls : List Int) (w : World) (ht : Tens w) (hs : Segs w w.heap.size a.A1 a.n1 ss) (hm : a.n1 ≤ maxLen) (hU : U32s w w.heap.size a.A2 a.n2 ls) (hR : U32L ls) (h1 : small9 a ss = true) (h2 : cmOk a = true) (hn : a.n2 ≤ 200) (hn0 : a.n2 ≠ 0) (hk0 : 0 ≤ kd) (hk1 : kd ≤ 255) (hkd : kd.tmod 4 = 0) :
    Calls Tryd.prog 4 #[.agg (atc a), .int .u8 kd] w fun e w' => e = .returned (.bool true) ∧ Below w.heap.size w w' := by
  have hSm := Lib.hid (fun (W : World) (hb : Below w.heap.size w W) => small09_any a ss W ((hs.below hb).more hb.size) hm)
  rw [h1] at hSm
  have hV := Lib.hid (fun W => rcmvalid_any a W (by unfold maxLen; omega))
  rw [h2] at hV
  have hBy := Lib.hid (fun (W : World) (hb : Below w.heap.size w W) => cmbytes_yes a ls W ((hU.below hb).more hb.size) hR (by omega) h2)
  have hln : ls.length ≤ 200 := by rw [← hU.1]; exact hn
  have hrd : cmRd 8 (cmForm ls).length = true := by
    rw [cmForm_len, ← hU.1]
    unfold cmRd
    rw [show cmG 8 = 1 from rfl]
    exact decide_eq_true ⟨by omega, by omega, by omega⟩
  have hRd := Lib.hid (fun (W : World) (A3 : Option Addr) (hB : Bytes W W.heap.size A3 (cmForm ls).length (cmForm ls)) => cmread_yes 8 A3 (cmForm ls).length (cmForm ls).length a.n2 (cmForm ls) W hB hrd (by rw [cmForm_len, ← hU.1]) (by rw [cmForm_len]; omega))
  rw [hU.1, nums_form4 hR, ← hU.1] at hRd
  have hG := Lib.hid (fun W => cmgroup_draws 8 W)
  rw [show cmG 8 = 1 from rfl] at hG
  have HT := Lib.hid ht
  have HU := Lib.hid hU
  have HL := Lib.hid hU.1
  have hkw : IntKind.i64.wrap kd = kd := IntWalk.i64_in _ (by omega)
  unfold atL at hRd
  generalize cmForm ls = bs at *
  clear hs ht hU hR h1 h2 hrd
  obtain ⟨k, p, N, M, A1, n1, c1, A2, n2, c2, A3, n3, c3, f, A4, n4, c4⟩ := a
  unfold atc at *
  dsimp only at *
  have hb0 := bl_alloc (bl_refl w) (.cells #[.int .i64 k, .bool p, .int .u32 N, .int .u32 M, .slice A1 n1 c1, .slice A2 n2 c2, .slice A3 n3 c3, .int .i64 f, .slice A4 n4 c4] 29)
  have o0 := Own.new w 29 #[.int .i64 k, .bool p, .int .u32 N, .int .u32 M, .slice A1 n1 c1, .slice A2 n2 c2, .slice A3 n3 c3, .int .i64 f, .slice A4 n4 c4]
  go_enter Tryd.func4, Tryd.ntmps4
  go_wp2_with fail
  refine (hSm.out _ hb0).mono ?_
  rintro e w1 ⟨rfl, hb1⟩
  have hb2 := bl_trans hb0 hb1
  have o1 := o0.step hb1
  obtain ⟨e0, e1, e2, e3, e4, e5, e6, e7, e8⟩ := at_cells o1
  go_wp2_with fail
  refine (hV.out _).mono ?_
  rintro e w2 ⟨rfl, hb3⟩
  have hb4 := bl_alloc (bl_trans hb2 hb3) (.cells #[.int .i64 8, .int .i64 10, .int .i64 16, .int .i64 32] 3)
  have o2 := (o1.step hb3).alloc (.cells #[.int .i64 8, .int .i64 10, .int .i64 16, .int .i64 32] 3)
  obtain ⟨f0, f1, f2, f3, f4, f5, f6, f7, f8⟩ := at_cells o2
  clear e0 e1 e2 e3 e4 e5 e6 e7 e8 hb0 hb1 hb2 hb3 o0 o1
  go_wp2_with fail
  refine (hBy.out _ hb4).mono ?_
  rintro e w3 ⟨A5, rfl, hB3, hb5⟩
  have hb6 := bl_trans hb4 hb5
  have o3 := o2.step hb5
  clear f0 f1 f2 f3 f4 f5 f6 f7 f8 hb4 hb5 o2
  go_wp2_with fail
  refine (hRd.out _ _ hB3).mono ?_
  rintro e w4 ⟨A6, c6, rfl, row6, hb66⟩
  have hb7 := bl_alloc (bl_trans hb6 (by assumption)) (.cells #[.int .i64 8, .bool false, .int .u32 0, .int .u32 0, .slice none 0 0, .slice A6 n2 c6, .slice none 0 0, .int .i64 0, .slice none 0 0] 29)
  have o4 := (o3.step (by assumption)).alloc (.cells #[.int .i64 8, .bool false, .int .u32 0, .int .u32 0, .slice none 0 0, .slice A6 n2 c6, .slice none 0 0, .int .i64 0, .slice none 0 0] 29)
  have oX := Own.new w4 29 #[.int .i64 8, .bool false, .int .u32 0, .int .u32 0, .slice none 0 0, .slice A6 n2 c6, .slice none 0 0, .int .i64 0, .slice none 0 0]
  have HU4 := Lib.hid (row_u32k (row6.alloc (.cells #[.int .i64 8, .bool false, .int .u32 0, .int .u32 0, .slice none 0 0, .slice A6 n2 c6, .slice none 0 0, .int .i64 0, .slice none 0 0] 29)) HL.out)
  have c5 := o4.cell (i := 5) rfl
  have oXt := oX.typed
  clear o3 hb6 hb66 row6
  go_wp2_with fail
  go_quiet ((go_at_call 17; exact (hG.out _).plain _))
  have o5 := o4.drewN nq
  have oX5 := oX.drewN nq
  have hb8 := bl_drewN hb7 nq
  have HU5 := Lib.hid (HU4.out.below (show Below (w4.alloc (.cells #[.int .i64 8, .bool false, .int .u32 0, .int .u32 0, .slice none 0 0, .slice A6 n2 c6, .slice none 0 0, .int .i64 0, .slice none 0 0] 29)).heap.size _ ((w4.alloc (.cells #[.int .i64 8, .bool false, .int .u32 0, .int .u32 0, .slice none 0 0, .slice A6 n2 c6, .slice none 0 0, .int .i64 0, .slice none 0 0] 29)).drewN nq) from bl_drewN (bl_refl _) nq))
  go_wp2_with fail
  refine (alive09_any _ (HT.out.below hb8)).mono ?_
  rintro e w6 ⟨rfl, hb9⟩
  have hb10 := bl_trans hb8 hb9
  obtain ⟨g0, g1, g2, g3, g4, g5, g6, g7, g8⟩ := at_cells (oX5.step hb9)
  have d5 := (o5.step hb9).cell (i := 5) rfl
  have HU6 := Lib.hid ((HU5.out.below hb9).more hb9.size)
  have HA6 := Lib.hid ((HU.out.below hb10).more hb10.size)
  clear c5 HU4 HU5
  go_wp2_with fail
  refine (u32eq_any _ _ _ _ _ _ ls ls _ _ _ HU6.out HA6.out (by omega) (by omega)).mono ?_
  rw [decide_eq_true (rfl : ls = ls)]
  rintro e w7 ⟨rfl, j, rfl⟩
  go_wp2
  go_ret
  exact ⟨rfl, bl_drewN hb10 j⟩
set_option maxRecDepth 100000 in
set_option maxHeartbeats 3200000 in
theorem ckinds_10 (a : At) (kd : Int) (ss : List Sg) (ls : List Int) (w : World) (ht : Tens w) (hs : Segs w w.heap.size a.A1 a.n1 ss) (hm : a.n1 ≤ maxLen) (hU : U32s w w.heap.size a.A2 a.n2 ls) (hR : U32L ls) (h1 : small9 a ss = true) (h2 : cmOk a = true) (hn : a.n2 ≤ 200) (hn0 : a.n2 ≠ 0) (hk0 : 0 ≤ kd) (hk1 : kd ≤ 255) (hkd : kd.tmod 4 = 1) :
    Calls Tryd.prog 4 #[.agg (atc a), .int .u8 kd] w fun e w' => e = .returned (.bool true) ∧ Below w.heap.size w w' := by
  have hSm := Lib.hid (fun (W : World) (hb : Below w.heap.size w W) => small09_any a ss W ((hs.below hb).more hb.size) hm)
  rw [h1] at hSm
  have hV := Lib.hid (fun W => rcmvalid_any a W (by unfold maxLen; omega))
  rw [h2] at hV
  have hBy := Lib.hid (fun (W : World) (hb : Below w.heap.size w W) => cmbytes_yes a ls W ((hU.below hb).more hb.size) hR (by omega) h2)
  have hln : ls.length ≤ 200 := by rw [← hU.1]; exact hn
  have hrd : cmRd 10 (cmForm ls).length = true := by
    rw [cmForm_len, ← hU.1]
    unfold cmRd
    rw [show cmG 10 = 1 from rfl]
    exact decide_eq_true ⟨by omega, by omega, by omega⟩
  have hRd := Lib.hid (fun (W : World) (A3 : Option Addr) (hB : Bytes W W.heap.size A3 (cmForm ls).length (cmForm ls)) => cmread_yes 10 A3 (cmForm ls).length (cmForm ls).length a.n2 (cmForm ls) W hB hrd (by rw [cmForm_len, ← hU.1]) (by rw [cmForm_len]; omega))
  rw [hU.1, nums_form4 hR, ← hU.1] at hRd
  have hG := Lib.hid (fun W => cmgroup_draws 10 W)
  rw [show cmG 10 = 1 from rfl] at hG
  have HT := Lib.hid ht
  have HU := Lib.hid hU
  have HL := Lib.hid hU.1
  have hkw : IntKind.i64.wrap kd = kd := IntWalk.i64_in _ (by omega)
  unfold atL at hRd
  generalize cmForm ls = bs at *
  clear hs ht hU hR h1 h2 hrd
  obtain ⟨k, p, N, M, A1, n1, c1, A2, n2, c2, A3, n3, c3, f, A4, n4, c4⟩ := a
  unfold atc at *
  dsimp only at *
  have hb0 := bl_alloc (bl_refl w) (.cells #[.int .i64 k, .bool p, .int .u32 N, .int .u32 M, .slice A1 n1 c1, .slice A2 n2 c2, .slice A3 n3 c3, .int .i64 f, .slice A4 n4 c4] 29)
  have o0 := Own.new w 29 #[.int .i64 k, .bool p, .int .u32 N, .int .u32 M, .slice A1 n1 c1, .slice A2 n2 c2, .slice A3 n3 c3, .int .i64 f, .slice A4 n4 c4]
  go_enter Tryd.func4, Tryd.ntmps4
  go_wp2_with fail
  refine (hSm.out _ hb0).mono ?_
  rintro e w1 ⟨rfl, hb1⟩
  have hb2 := bl_trans hb0 hb1
  have o1 := o0.step hb1
  obtain ⟨e0, e1, e2, e3, e4, e5, e6, e7, e8⟩ := at_cells o1
  go_wp2_with fail
  refine (hV.out _).mono ?_
  rintro e w2 ⟨rfl, hb3⟩
  have hb4 := bl_alloc (bl_trans hb2 hb3) (.cells #[.int .i64 8, .int .i64 10, .int .i64 16, .int .i64 32] 3)
  have o2 := (o1.step hb3).alloc (.cells #[.int .i64 8, .int .i64 10, .int .i64 16, .int .i64 32] 3)
  obtain ⟨f0, f1, f2, f3, f4, f5, f6, f7, f8⟩ := at_cells o2
  clear e0 e1 e2 e3 e4 e5 e6 e7 e8 hb0 hb1 hb2 hb3 o0 o1
  go_wp2_with fail
  refine (hBy.out _ hb4).mono ?_
  rintro e w3 ⟨A5, rfl, hB3, hb5⟩
  have hb6 := bl_trans hb4 hb5
  have o3 := o2.step hb5
  clear f0 f1 f2 f3 f4 f5 f6 f7 f8 hb4 hb5 o2
  go_wp2_with fail
  refine (hRd.out _ _ hB3).mono ?_
  rintro e w4 ⟨A6, c6, rfl, row6, hb66⟩
  have hb7 := bl_alloc (bl_trans hb6 (by assumption)) (.cells #[.int .i64 10, .bool false, .int .u32 0, .int .u32 0, .slice none 0 0, .slice A6 n2 c6, .slice none 0 0, .int .i64 0, .slice none 0 0] 29)
  have o4 := (o3.step (by assumption)).alloc (.cells #[.int .i64 10, .bool false, .int .u32 0, .int .u32 0, .slice none 0 0, .slice A6 n2 c6, .slice none 0 0, .int .i64 0, .slice none 0 0] 29)
  have oX := Own.new w4 29 #[.int .i64 10, .bool false, .int .u32 0, .int .u32 0, .slice none 0 0, .slice A6 n2 c6, .slice none 0 0, .int .i64 0, .slice none 0 0]
  have HU4 := Lib.hid (row_u32k (row6.alloc (.cells #[.int .i64 10, .bool false, .int .u32 0, .int .u32 0, .slice none 0 0, .slice A6 n2 c6, .slice none 0 0, .int .i64 0, .slice none 0 0] 29)) HL.out)
  have c5 := o4.cell (i := 5) rfl
  have oXt := oX.typed
  clear o3 hb6 hb66 row6
  go_wp2_with fail
  go_quiet ((go_at_call 17; exact (hG.out _).plain _))
  have o5 := o4.drewN nq
  have oX5 := oX.drewN nq
  have hb8 := bl_drewN hb7 nq
  have HU5 := Lib.hid (HU4.out.below (show Below (w4.alloc (.cells #[.int .i64 10, .bool false, .int .u32 0, .int .u32 0, .slice none 0 0, .slice A6 n2 c6, .slice none 0 0, .int .i64 0, .slice none 0 0] 29)).heap.size _ ((w4.alloc (.cells #[.int .i64 10, .bool false, .int .u32 0, .int .u32 0, .slice none 0 0, .slice A6 n2 c6, .slice none 0 0, .int .i64 0, .slice none 0 0] 29)).drewN nq) from bl_drewN (bl_refl _) nq))
  go_wp2_with fail
  refine (alive09_any _ (HT.out.below hb8)).mono ?_
  rintro e w6 ⟨rfl, hb9⟩
  have hb10 := bl_trans hb8 hb9
  obtain ⟨g0, g1, g2, g3, g4, g5, g6, g7, g8⟩ := at_cells (oX5.step hb9)
  have d5 := (o5.step hb9).cell (i := 5) rfl
  have HU6 := Lib.hid ((HU5.out.below hb9).more hb9.size)
  have HA6 := Lib.hid ((HU.out.below hb10).more hb10.size)
  clear c5 HU4 HU5
  go_wp2_with fail
  refine (u32eq_any _ _ _ _ _ _ ls ls _ _ _ HU6.out HA6.out (by omega) (by omega)).mono ?_
  rw [decide_eq_true (rfl : ls = ls)]
  rintro e w7 ⟨rfl, j, rfl⟩
  go_wp2
  go_ret
  exact ⟨rfl, bl_drewN hb10 j⟩
set_option maxRecDepth 100000 in
set_option maxHeartbeats 3200000 in
theorem ckinds_16 (a : At) (kd : Int) (ss : List Sg) (ls : List Int) (w : World) (ht : Tens w) (hs : Segs w w.heap.size a.A1 a.n1 ss) (hm : a.n1 ≤ maxLen) (hU : U32s w w.heap.size a.A2 a.n2 ls) (hR : U32L ls) (h1 : small9 a ss = true) (h2 : cmOk a = true) (hn : a.n2 ≤ 200) (hn0 : a.n2 ≠ 0) (hk0 : 0 ≤ kd) (hk1 : kd ≤ 255) (hkd : kd.tmod 4 = 2) (hw : a.n2 % 2 = 0) :
    Calls Tryd.prog 4 #[.agg (atc a), .int .u8 kd] w fun e w' => e = .returned (.bool true) ∧ Below w.heap.size w w' := by
  have hSm := Lib.hid (fun (W : World) (hb : Below w.heap.size w W) => small09_any a ss W ((hs.below hb).more hb.size) hm)
  rw [h1] at hSm
  have hV := Lib.hid (fun W => rcmvalid_any a W (by unfold maxLen; omega))
  rw [h2] at hV
  have hBy := Lib.hid (fun (W : World) (hb : Below w.heap.size w W) => cmbytes_yes a ls W ((hU.below hb).more hb.size) hR (by omega) h2)
  have hln : ls.length ≤ 200 := by rw [← hU.1]; exact hn
  have hrd : cmRd 16 (cmForm ls).length = true := by
    rw [cmForm_len, ← hU.1]
    unfold cmRd
    rw [show cmG 16 = 2 from rfl]
    exact decide_eq_true ⟨by omega, by omega, by omega⟩
  have hRd := Lib.hid (fun (W : World) (A3 : Option Addr) (hB : Bytes W W.heap.size A3 (cmForm ls).length (cmForm ls)) => cmread_yes 16 A3 (cmForm ls).length (cmForm ls).length a.n2 (cmForm ls) W hB hrd (by rw [cmForm_len, ← hU.1]) (by rw [cmForm_len]; omega))
  rw [hU.1, nums_form4 hR, ← hU.1] at hRd
  have hG := Lib.hid (fun W => cmgroup_draws 16 W)
  rw [show cmG 16 = 2 from rfl] at hG
  have HT := Lib.hid ht
  have HU := Lib.hid hU
  have HL := Lib.hid hU.1
  have hkw : IntKind.i64.wrap kd = kd := IntWalk.i64_in _ (by omega)
  have hrm : ((a.n2 : Int).tmod 2) = ((a.n2 % 2 : Nat) : Int) := by rw [show (2 : Int) = ((2 : Nat) : Int) from rfl, Int.ofNat_tmod]
  rw [hw] at hrm
  unfold atL at hRd
  generalize cmForm ls = bs at *
  clear hs ht hU hR h1 h2 hrd hw
  obtain ⟨k, p, N, M, A1, n1, c1, A2, n2, c2, A3, n3, c3, f, A4, n4, c4⟩ := a
  unfold atc at *
  dsimp only at *
  have hb0 := bl_alloc (bl_refl w) (.cells #[.int .i64 k, .bool p, .int .u32 N, .int .u32 M, .slice A1 n1 c1, .slice A2 n2 c2, .slice A3 n3 c3, .int .i64 f, .slice A4 n4 c4] 29)
  have o0 := Own.new w 29 #[.int .i64 k, .bool p, .int .u32 N, .int .u32 M, .slice A1 n1 c1, .slice A2 n2 c2, .slice A3 n3 c3, .int .i64 f, .slice A4 n4 c4]
  go_enter Tryd.func4, Tryd.ntmps4
  go_wp2_with fail
  refine (hSm.out _ hb0).mono ?_
  rintro e w1 ⟨rfl, hb1⟩
  have hb2 := bl_trans hb0 hb1
  have o1 := o0.step hb1
  obtain ⟨e0, e1, e2, e3, e4, e5, e6, e7, e8⟩ := at_cells o1
  go_wp2_with fail
  refine (hV.out _).mono ?_
  rintro e w2 ⟨rfl, hb3⟩
  have hb4 := bl_alloc (bl_trans hb2 hb3) (.cells #[.int .i64 8, .int .i64 10, .int .i64 16, .int .i64 32] 3)
  have o2 := (o1.step hb3).alloc (.cells #[.int .i64 8, .int .i64 10, .int .i64 16, .int .i64 32] 3)
  obtain ⟨f0, f1, f2, f3, f4, f5, f6, f7, f8⟩ := at_cells o2
  clear e0 e1 e2 e3 e4 e5 e6 e7 e8 hb0 hb1 hb2 hb3 o0 o1
  go_wp2_with fail
  refine (hBy.out _ hb4).mono ?_
  rintro e w3 ⟨A5, rfl, hB3, hb5⟩
  have hb6 := bl_trans hb4 hb5
  have o3 := o2.step hb5
  clear f0 f1 f2 f3 f4 f5 f6 f7 f8 hb4 hb5 o2
  go_wp2_with fail
  refine (hRd.out _ _ hB3).mono ?_
  rintro e w4 ⟨A6, c6, rfl, row6, hb66⟩
  have hb7 := bl_alloc (bl_trans hb6 (by assumption)) (.cells #[.int .i64 16, .bool false, .int .u32 0, .int .u32 0, .slice none 0 0, .slice A6 n2 c6, .slice none 0 0, .int .i64 0, .slice none 0 0] 29)
  have o4 := (o3.step (by assumption)).alloc (.cells #[.int .i64 16, .bool false, .int .u32 0, .int .u32 0, .slice none 0 0, .slice A6 n2 c6, .slice none 0 0, .int .i64 0, .slice none 0 0] 29)
  have oX := Own.new w4 29 #[.int .i64 16, .bool false, .int .u32 0, .int .u32 0, .slice none 0 0, .slice A6 n2 c6, .slice none 0 0, .int .i64 0, .slice none 0 0]
  have HU4 := Lib.hid (row_u32k (row6.alloc (.cells #[.int .i64 16, .bool false, .int .u32 0, .int .u32 0, .slice none 0 0, .slice A6 n2 c6, .slice none 0 0, .int .i64 0, .slice none 0 0] 29)) HL.out)
  have c5 := o4.cell (i := 5) rfl
  have oXt := oX.typed
  clear o3 hb6 hb66 row6
  go_wp2_with fail
  go_quiet ((go_at_call 17; exact (hG.out _).plain _))
  have o5 := o4.drewN nq
  have oX5 := oX.drewN nq
  have hb8 := bl_drewN hb7 nq
  have HU5 := Lib.hid (HU4.out.below (show Below (w4.alloc (.cells #[.int .i64 16, .bool false, .int .u32 0, .int .u32 0, .slice none 0 0, .slice A6 n2 c6, .slice none 0 0, .int .i64 0, .slice none 0 0] 29)).heap.size _ ((w4.alloc (.cells #[.int .i64 16, .bool false, .int .u32 0, .int .u32 0, .slice none 0 0, .slice A6 n2 c6, .slice none 0 0, .int .i64 0, .slice none 0 0] 29)).drewN nq) from bl_drewN (bl_refl _) nq))
  go_wp2_with fail
  refine (alive09_any _ (HT.out.below hb8)).mono ?_
  rintro e w6 ⟨rfl, hb9⟩
  have hb10 := bl_trans hb8 hb9
  obtain ⟨g0, g1, g2, g3, g4, g5, g6, g7, g8⟩ := at_cells (oX5.step hb9)
  have d5 := (o5.step hb9).cell (i := 5) rfl
  have HU6 := Lib.hid ((HU5.out.below hb9).more hb9.size)
  have HA6 := Lib.hid ((HU.out.below hb10).more hb10.size)
  clear c5 HU4 HU5
  go_wp2_with fail
  refine (u32eq_any _ _ _ _ _ _ ls ls _ _ _ HU6.out HA6.out (by omega) (by omega)).mono ?_
  rw [decide_eq_true (rfl : ls = ls)]
  rintro e w7 ⟨rfl, j, rfl⟩
  go_wp2
  go_ret
  exact ⟨rfl, bl_drewN hb10 j⟩
set_option maxRecDepth 100000 in
set_option maxHeartbeats 3200000 in
theorem ckinds_16n (a : At) (kd : Int) (ss : List Sg) (ls : List Int) (w : World) (ht : Tens w) (hs : Segs w w.heap.size a.A1 a.n1 ss) (hm : a.n1 ≤ maxLen) (hU : U32s w w.heap.size a.A2 a.n2 ls) (hR : U32L ls) (h1 : small9 a ss = true) (h2 : cmOk a = true) (hn : a.n2 ≤ 200) (hn0 : a.n2 ≠ 0) (hk0 : 0 ≤ kd) (hk1 : kd ≤ 255) (hkd : kd.tmod 4 = 2) (hw : a.n2 % 2 ≠ 0) :
    Calls Tryd.prog 4 #[.agg (atc a), .int .u8 kd] w fun e w' => e = .returned (.bool true) ∧ Below w.heap.size w w' := by
  have hSm := Lib.hid (fun (W : World) (hb : Below w.heap.size w W) => small09_any a ss W ((hs.below hb).more hb.size) hm)
  rw [h1] at hSm
  have hV := Lib.hid (fun W => rcmvalid_any a W (by unfold maxLen; omega))
  rw [h2] at hV
  have hBy := Lib.hid (fun (W : World) (hb : Below w.heap.size w W) => cmbytes_yes a ls W ((hU.below hb).more hb.size) hR (by omega) h2)
  have hln : ls.length ≤ 200 := by rw [← hU.1]; exact hn
  have hrd : cmRd 16 (cmForm ls).length = false := by
    rw [cmForm_len, ← hU.1]
    unfold cmRd
    rw [show cmG 16 = 2 from rfl]
    exact decide_eq_false (fun h => by omega)
  have hRd := Lib.hid (fun (W : World) (A3 : Option Addr) (hB : Bytes W W.heap.size A3 (cmForm ls).length (cmForm ls)) => cmread_no 16 A3 (cmForm ls).length (cmForm ls).length W hrd (by rw [cmForm_len]; unfold maxLen; omega))
  have hG := Lib.hid (fun W => cmgroup_draws 16 W)
  rw [show cmG 16 = 2 from rfl] at hG
  have HT := Lib.hid ht
  have HU := Lib.hid hU
  have HL := Lib.hid hU.1
  have hkw : IntKind.i64.wrap kd = kd := IntWalk.i64_in _ (by omega)
  have hrm : ((a.n2 : Int).tmod 2) = ((a.n2 % 2 : Nat) : Int) := by rw [show (2 : Int) = ((2 : Nat) : Int) from rfl, Int.ofNat_tmod]
  have hlt := Nat.mod_lt a.n2 (show 2 > 0 by omega)
  generalize a.n2 % 2 = rr at *
  have hrq : ((rr : Int) == 0) = false := by simp; omega
  unfold atL at hRd
  generalize cmForm ls = bs at *
  clear hs ht hU hR h1 h2 hrd
  obtain ⟨k, p, N, M, A1, n1, c1, A2, n2, c2, A3, n3, c3, f, A4, n4, c4⟩ := a
  unfold atc at *
  dsimp only at *
  have hb0 := bl_alloc (bl_refl w) (.cells #[.int .i64 k, .bool p, .int .u32 N, .int .u32 M, .slice A1 n1 c1, .slice A2 n2 c2, .slice A3 n3 c3, .int .i64 f, .slice A4 n4 c4] 29)
  have o0 := Own.new w 29 #[.int .i64 k, .bool p, .int .u32 N, .int .u32 M, .slice A1 n1 c1, .slice A2 n2 c2, .slice A3 n3 c3, .int .i64 f, .slice A4 n4 c4]
  go_enter Tryd.func4, Tryd.ntmps4
  go_wp2_with fail
  refine (hSm.out _ hb0).mono ?_
  rintro e w1 ⟨rfl, hb1⟩
  have hb2 := bl_trans hb0 hb1
  have o1 := o0.step hb1
  obtain ⟨e0, e1, e2, e3, e4, e5, e6, e7, e8⟩ := at_cells o1
  go_wp2_with fail
  refine (hV.out _).mono ?_
  rintro e w2 ⟨rfl, hb3⟩
  have hb4 := bl_alloc (bl_trans hb2 hb3) (.cells #[.int .i64 8, .int .i64 10, .int .i64 16, .int .i64 32] 3)
  have o2 := (o1.step hb3).alloc (.cells #[.int .i64 8, .int .i64 10, .int .i64 16, .int .i64 32] 3)
  obtain ⟨f0, f1, f2, f3, f4, f5, f6, f7, f8⟩ := at_cells o2
  clear e0 e1 e2 e3 e4 e5 e6 e7 e8 hb0 hb1 hb2 hb3 o0 o1
  go_wp2_with fail
  refine (hBy.out _ hb4).mono ?_
  rintro e w3 ⟨A5, rfl, hB3, hb5⟩
  have hb6 := bl_trans hb4 hb5
  have o3 := o2.step hb5
  clear f0 f1 f2 f3 f4 f5 f6 f7 f8 hb4 hb5 o2
  go_wp2_with fail
  refine (hRd.out _ _ hB3).mono ?_
  rintro e w4 ⟨rfl, hb66⟩
  have hb7 := bl_alloc (bl_trans hb6 (by assumption)) (.cells #[.int .i64 0, .bool false, .int .u32 0, .int .u32 0, .slice none 0 0, .slice none 0 0, .slice none 0 0, .int .i64 0, .slice none 0 0] 29)
  have o4 := (o3.step (by assumption)).alloc (.cells #[.int .i64 0, .bool false, .int .u32 0, .int .u32 0, .slice none 0 0, .slice none 0 0, .slice none 0 0, .int .i64 0, .slice none 0 0] 29)
  have oX := Own.new w4 29 #[.int .i64 0, .bool false, .int .u32 0, .int .u32 0, .slice none 0 0, .slice none 0 0, .slice none 0 0, .int .i64 0, .slice none 0 0]
  have c5 := o4.cell (i := 5) rfl
  have oXt := oX.typed
  clear o3 hb6 hb66
  go_wp2_with fail
  go_quiet ((go_at_call 17; exact (hG.out _).plain _))
  have o5 := o4.drewN nq
  have oX5 := oX.drewN nq
  have hb8 := bl_drewN hb7 nq
  go_wp2_with fail
  refine (alive09_any _ (HT.out.below hb8)).mono ?_
  rintro e w6 ⟨rfl, hb9⟩
  have hb10 := bl_trans hb8 hb9
  go_wp2
  go_ret
  exact ⟨rfl, hb10⟩
set_option maxRecDepth 100000 in
set_option maxHeartbeats 3200000 in
theorem ckinds_32 (a : At) (kd : Int) (ss : List Sg) (ls : List Int) (w : World) (ht : Tens w) (hs : Segs w w.heap.size a.A1 a.n1 ss) (hm : a.n1 ≤ maxLen) (hU : U32s w w.heap.size a.A2 a.n2 ls) (hR : U32L ls) (h1 : small9 a ss = true) (h2 : cmOk a = true) (hn : a.n2 ≤ 200) (hn0 : a.n2 ≠ 0) (hk0 : 0 ≤ kd) (hk1 : kd ≤ 255) (hkd : kd.tmod 4 = 3) (hw : a.n2 % 3 = 0) :
    Calls Tryd.prog 4 #[.agg (atc a), .int .u8 kd] w fun e w' => e = .returned (.bool true) ∧ Below w.heap.size w w' := by
  have hSm := Lib.hid (fun (W : World) (hb : Below w.heap.size w W) => small09_any a ss W ((hs.below hb).more hb.size) hm)
  rw [h1] at hSm
  have hV := Lib.hid (fun W => rcmvalid_any a W (by unfold maxLen; omega))
  rw [h2] at hV
  have hBy := Lib.hid (fun (W : World) (hb : Below w.heap.size w W) => cmbytes_yes a ls W ((hU.below hb).more hb.size) hR (by omega) h2)
  have hln : ls.length ≤ 200 := by rw [← hU.1]; exact hn
  have hrd : cmRd 32 (cmForm ls).length = true := by
    rw [cmForm_len, ← hU.1]
    unfold cmRd
    rw [show cmG 32 = 3 from rfl]
    exact decide_eq_true ⟨by omega, by omega, by omega⟩
  have hRd := Lib.hid (fun (W : World) (A3 : Option Addr) (hB : Bytes W W.heap.size A3 (cmForm ls).length (cmForm ls)) => cmread_yes 32 A3 (cmForm ls).length (cmForm ls).length a.n2 (cmForm ls) W hB hrd (by rw [cmForm_len, ← hU.1]) (by rw [cmForm_len]; omega))
  rw [hU.1, nums_form4 hR, ← hU.1] at hRd
  have hG := Lib.hid (fun W => cmgroup_draws 32 W)
  rw [show cmG 32 = 3 from rfl] at hG
  have HT := Lib.hid ht
  have HU := Lib.hid hU
  have HL := Lib.hid hU.1
  have hkw : IntKind.i64.wrap kd = kd := IntWalk.i64_in _ (by omega)
  have hrm : ((a.n2 : Int).tmod 3) = ((a.n2 % 3 : Nat) : Int) := by rw [show (3 : Int) = ((3 : Nat) : Int) from rfl, Int.ofNat_tmod]
  rw [hw] at hrm
  unfold atL at hRd
  generalize cmForm ls = bs at *
  clear hs ht hU hR h1 h2 hrd hw
  obtain ⟨k, p, N, M, A1, n1, c1, A2, n2, c2, A3, n3, c3, f, A4, n4, c4⟩ := a
  unfold atc at *
  dsimp only at *
  have hb0 := bl_alloc (bl_refl w) (.cells #[.int .i64 k, .bool p, .int .u32 N, .int .u32 M, .slice A1 n1 c1, .slice A2 n2 c2, .slice A3 n3 c3, .int .i64 f, .slice A4 n4 c4] 29)
  have o0 := Own.new w 29 #[.int .i64 k, .bool p, .int .u32 N, .int .u32 M, .slice A1 n1 c1, .slice A2 n2 c2, .slice A3 n3 c3, .int .i64 f, .slice A4 n4 c4]
  go_enter Tryd.func4, Tryd.ntmps4
  go_wp2_with fail
  refine (hSm.out _ hb0).mono ?_
  rintro e w1 ⟨rfl, hb1⟩
  have hb2 := bl_trans hb0 hb1
  have o1 := o0.step hb1
  obtain ⟨e0, e1, e2, e3, e4, e5, e6, e7, e8⟩ := at_cells o1
  go_wp2_with fail
  refine (hV.out _).mono ?_
  rintro e w2 ⟨rfl, hb3⟩
  have hb4 := bl_alloc (bl_trans hb2 hb3) (.cells #[.int .i64 8, .int .i64 10, .int .i64 16, .int .i64 32] 3)
  have o2 := (o1.step hb3).alloc (.cells #[.int .i64 8, .int .i64 10, .int .i64 16, .int .i64 32] 3)
  obtain ⟨f0, f1, f2, f3, f4, f5, f6, f7, f8⟩ := at_cells o2
  clear e0 e1 e2 e3 e4 e5 e6 e7 e8 hb0 hb1 hb2 hb3 o0 o1
  go_wp2_with fail
  refine (hBy.out _ hb4).mono ?_
  rintro e w3 ⟨A5, rfl, hB3, hb5⟩
  have hb6 := bl_trans hb4 hb5
  have o3 := o2.step hb5
  clear f0 f1 f2 f3 f4 f5 f6 f7 f8 hb4 hb5 o2
  go_wp2_with fail
  refine (hRd.out _ _ hB3).mono ?_
  rintro e w4 ⟨A6, c6, rfl, row6, hb66⟩
  have hb7 := bl_alloc (bl_trans hb6 (by assumption)) (.cells #[.int .i64 32, .bool false, .int .u32 0, .int .u32 0, .slice none 0 0, .slice A6 n2 c6, .slice none 0 0, .int .i64 0, .slice none 0 0] 29)
  have o4 := (o3.step (by assumption)).alloc (.cells #[.int .i64 32, .bool false, .int .u32 0, .int .u32 0, .slice none 0 0, .slice A6 n2 c6, .slice none 0 0, .int .i64 0, .slice none 0 0] 29)
  have oX := Own.new w4 29 #[.int .i64 32, .bool false, .int .u32 0, .int .u32 0, .slice none 0 0, .slice A6 n2 c6, .slice none 0 0, .int .i64 0, .slice none 0 0]
  have HU4 := Lib.hid (row_u32k (row6.alloc (.cells #[.int .i64 32, .bool false, .int .u32 0, .int .u32 0, .slice none 0 0, .slice A6 n2 c6, .slice none 0 0, .int .i64 0, .slice none 0 0] 29)) HL.out)
  have c5 := o4.cell (i := 5) rfl
  have oXt := oX.typed
  clear o3 hb6 hb66 row6
  go_wp2_with fail
  go_quiet ((go_at_call 17; exact (hG.out _).plain _))
  have o5 := o4.drewN nq
  have oX5 := oX.drewN nq
  have hb8 := bl_drewN hb7 nq
  have HU5 := Lib.hid (HU4.out.below (show Below (w4.alloc (.cells #[.int .i64 32, .bool false, .int .u32 0, .int .u32 0, .slice none 0 0, .slice A6 n2 c6, .slice none 0 0, .int .i64 0, .slice none 0 0] 29)).heap.size _ ((w4.alloc (.cells #[.int .i64 32, .bool false, .int .u32 0, .int .u32 0, .slice none 0 0, .slice A6 n2 c6, .slice none 0 0, .int .i64 0, .slice none 0 0] 29)).drewN nq) from bl_drewN (bl_refl _) nq))
  go_wp2_with fail
  refine (alive09_any _ (HT.out.below hb8)).mono ?_
  rintro e w6 ⟨rfl, hb9⟩
  have hb10 := bl_trans hb8 hb9
  obtain ⟨g0, g1, g2, g3, g4, g5, g6, g7, g8⟩ := at_cells (oX5.step hb9)
  have d5 := (o5.step hb9).cell (i := 5) rfl
  have HU6 := Lib.hid ((HU5.out.below hb9).more hb9.size)
  have HA6 := Lib.hid ((HU.out.below hb10).more hb10.size)
  clear c5 HU4 HU5
  go_wp2_with fail
  refine (u32eq_any _ _ _ _ _ _ ls ls _ _ _ HU6.out HA6.out (by omega) (by omega)).mono ?_
  rw [decide_eq_true (rfl : ls = ls)]
  rintro e w7 ⟨rfl, j, rfl⟩
  go_wp2
  go_ret
  exact ⟨rfl, bl_drewN hb10 j⟩
set_option maxRecDepth 100000 in
set_option maxHeartbeats 3200000 in
theorem ckinds_32n (a : At) (kd : Int) (ss : List Sg) (ls : List Int) (w : World) (ht : Tens w) (hs : Segs w w.heap.size a.A1 a.n1 ss) (hm : a.n1 ≤ maxLen) (hU : U32s w w.heap.size a.A2 a.n2 ls) (hR : U32L ls) (h1 : small9 a ss = true) (h2 : cmOk a = true) (hn : a.n2 ≤ 200) (hn0 : a.n2 ≠ 0) (hk0 : 0 ≤ kd) (hk1 : kd ≤ 255) (hkd : kd.tmod 4 = 3) (hw : a.n2 % 3 ≠ 0) :
    Calls Tryd.prog 4 #[.agg (atc a), .int .u8 kd] w fun e w' => e = .returned (.bool true) ∧ Below w.heap.size w w' := by
  have hSm := Lib.hid (fun (W : World) (hb : Below w.heap.size w W) => small09_any a ss W ((hs.below hb).more hb.size) hm)
  rw [h1] at hSm
  have hV := Lib.hid (fun W => rcmvalid_any a W (by unfold maxLen; omega))
  rw [h2] at hV
  have hBy := Lib.hid (fun (W : World) (hb : Below w.heap.size w W) => cmbytes_yes a ls W ((hU.below hb).more hb.size) hR (by omega) h2)
  have hln : ls.length ≤ 200 := by rw [← hU.1]; exact hn
  have hrd : cmRd 32 (cmForm ls).length = false := by
    rw [cmForm_len, ← hU.1]
    unfold cmRd
    rw [show cmG 32 = 3 from rfl]
    exact decide_eq_false (fun h => by omega)
  have hRd := Lib.hid (fun (W : World) (A3 : Option Addr) (hB : Bytes W W.heap.size A3 (cmForm ls).length (cmForm ls)) => cmread_no 32 A3 (cmForm ls).length (cmForm ls).length W hrd (by rw [cmForm_len]; unfold maxLen; omega))
  have hG := Lib.hid (fun W => cmgroup_draws 32 W)
  rw [show cmG 32 = 3 from rfl] at hG
  have HT := Lib.hid ht
  have HU := Lib.hid hU
  have HL := Lib.hid hU.1
  have hkw : IntKind.i64.wrap kd = kd := IntWalk.i64_in _ (by omega)
  have hrm : ((a.n2 : Int).tmod 3) = ((a.n2 % 3 : Nat) : Int) := by rw [show (3 : Int) = ((3 : Nat) : Int) from rfl, Int.ofNat_tmod]
  have hlt := Nat.mod_lt a.n2 (show 3 > 0 by omega)
  generalize a.n2 % 3 = rr at *
  have hrq : ((rr : Int) == 0) = false := by simp; omega
  unfold atL at hRd
  generalize cmForm ls = bs at *
  clear hs ht hU hR h1 h2 hrd
  obtain ⟨k, p, N, M, A1, n1, c1, A2, n2, c2, A3, n3, c3, f, A4, n4, c4⟩ := a
  unfold atc at *
  dsimp only at *
  have hb0 := bl_alloc (bl_refl w) (.cells #[.int .i64 k, .bool p, .int .u32 N, .int .u32 M, .slice A1 n1 c1, .slice A2 n2 c2, .slice A3 n3 c3, .int .i64 f, .slice A4 n4 c4] 29)
  have o0 := Own.new w 29 #[.int .i64 k, .bool p, .int .u32 N, .int .u32 M, .slice A1 n1 c1, .slice A2 n2 c2, .slice A3 n3 c3, .int .i64 f, .slice A4 n4 c4]
  go_enter Tryd.func4, Tryd.ntmps4
  go_wp2_with fail
  refine (hSm.out _ hb0).mono ?_
  rintro e w1 ⟨rfl, hb1⟩
  have hb2 := bl_trans hb0 hb1
  have o1 := o0.step hb1
  obtain ⟨e0, e1, e2, e3, e4, e5, e6, e7, e8⟩ := at_cells o1
  go_wp2_with fail
  refine (hV.out _).mono ?_
  rintro e w2 ⟨rfl, hb3⟩
  have hb4 := bl_alloc (bl_trans hb2 hb3) (.cells #[.int .i64 8, .int .i64 10, .int .i64 16, .int .i64 32] 3)
  have o2 := (o1.step hb3).alloc (.cells #[.int .i64 8, .int .i64 10, .int .i64 16, .int .i64 32] 3)
  obtain ⟨f0, f1, f2, f3, f4, f5, f6, f7, f8⟩ := at_cells o2
  clear e0 e1 e2 e3 e4 e5 e6 e7 e8 hb0 hb1 hb2 hb3 o0 o1
  go_wp2_with fail
  refine (hBy.out _ hb4).mono ?_
  rintro e w3 ⟨A5, rfl, hB3, hb5⟩
  have hb6 := bl_trans hb4 hb5
  have o3 := o2.step hb5
  clear f0 f1 f2 f3 f4 f5 f6 f7 f8 hb4 hb5 o2
  go_wp2_with fail
  refine (hRd.out _ _ hB3).mono ?_
  rintro e w4 ⟨rfl, hb66⟩
  have hb7 := bl_alloc (bl_trans hb6 (by assumption)) (.cells #[.int .i64 0, .bool false, .int .u32 0, .int .u32 0, .slice none 0 0, .slice none 0 0, .slice none 0 0, .int .i64 0, .slice none 0 0] 29)
  have o4 := (o3.step (by assumption)).alloc (.cells #[.int .i64 0, .bool false, .int .u32 0, .int .u32 0, .slice none 0 0, .slice none 0 0, .slice none 0 0, .int .i64 0, .slice none 0 0] 29)
  have oX := Own.new w4 29 #[.int .i64 0, .bool false, .int .u32 0, .int .u32 0, .slice none 0 0, .slice none 0 0, .slice none 0 0, .int .i64 0, .slice none 0 0]
  have c5 := o4.cell (i := 5) rfl
  have oXt := oX.typed
  clear o3 hb6 hb66
  go_wp2_with fail
  go_quiet ((go_at_call 17; exact (hG.out _).plain _))
  have o5 := o4.drewN nq
  have oX5 := oX.drewN nq
  have hb8 := bl_drewN hb7 nq
  go_wp2_with fail
  refine (alive09_any _ (HT.out.below hb8)).mono ?_
  rintro e w6 ⟨rfl, hb9⟩
  have hb10 := bl_trans hb8 hb9
  go_wp2
  go_ret
  exact ⟨rfl, hb10⟩
set_option maxRecDepth 100000 in
theorem ckinds_all (a : At) (kd : Int) (hkd : (Lit.int .u8 kd).wf = true) (w : World) (ht : Tens w) (hin : AtIn w a) :
    Calls Tryd.prog 4 #[.agg (atc a), .int .u8 kd] w fun e w' => e = .returned (.bool true) ∧ Below w.heap.size w w' := by
  obtain ⟨_, _, _, _, ⟨i1, i2, ss, i3⟩, ⟨i4, i5, ls, i6, i7⟩, _, _⟩ := hin
  have hk := wf_u8 hkd
  by_cases h : (small9 a ss && cmOk a) = false
  · exact ckinds_early a kd ss w ht i3 (by omega) (by omega) h
  · simp only [Bool.not_eq_false, Bool.and_eq_true] at h
    have hn : a.n2 ≤ 200 := by
      have := h.1
      unfold small9 at this
      simp only [Bool.and_eq_true, decide_eq_true_eq] at this
      exact this.2.1
    have hn0 : a.n2 ≠ 0 := by
      have := h.2
      unfold cmOk at this
      simp only [Bool.and_eq_true, decide_eq_true_eq] at this
      exact this.1.2.1
    have hR : U32L ls := i6
    have h4 : kd.tmod 4 = 0 ∨ kd.tmod 4 = 1 ∨ kd.tmod 4 = 2 ∨ kd.tmod 4 = 3 := by
      rw [Int.tmod_eq_emod_of_nonneg hk.1]
      omega
    rcases h4 with h4 | h4 | h4 | h4
    · exact ckinds_8 a kd ss ls w ht i3 (by omega) i7 hR h.1 h.2 hn hn0 hk.1 (by omega) h4
    · exact ckinds_10 a kd ss ls w ht i3 (by omega) i7 hR h.1 h.2 hn hn0 hk.1 (by omega) h4
    · by_cases hw : a.n2 % 2 = 0
      · exact ckinds_16 a kd ss ls w ht i3 (by omega) i7 hR h.1 h.2 hn hn0 hk.1 (by omega) h4 hw
      · exact ckinds_16n a kd ss ls w ht i3 (by omega) i7 hR h.1 h.2 hn hn0 hk.1 (by omega) h4 hw
    · by_cases hw : a.n2 % 3 = 0
      · exact ckinds_32 a kd ss ls w ht i3 (by omega) i7 hR h.1 h.2 hn hn0 hk.1 (by omega) h4 hw
      · exact ckinds_32n a kd ss ls w ht i3 (by omega) i7 hR h.1 h.2 hn hn0 hk.1 (by omega) h4 hw
end Go.Proofs.YtngeldgohijheaaDoor

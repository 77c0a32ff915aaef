/- XCmFm: XCmK, XCmY, XCmZ, XCmF in one text -/
import Derived.Test.YtngeldgohijheaaDoorCmR
import Derived.Test.YtngeldgohijheaaDoorCmB
import Derived.Test.YtngeldgohijheaaDoorCmS
import Derived.Deep.QuietTactic
import Derived.Deep.Draws
import Derived.Test.YtngeldgohijheaaDoorCmT
import Derived.Test.YtngeldgohijheaaDoorCmX
import Derived.Test.YtngeldgohijheaaDoorCmL
import Derived.Test.YtngeldgohijheaaDoorCmQ
/- CommunityKinds: the walk -/
namespace Go.Proofs.YtngeldgohijheaaDoor
open Go.RowKit Go.Sort

theorem row_u32k {w : World} {base n c : Nat} {A : Option Addr} {xs : List Int} (h : w.ownsRow base 24 1 (.slice A n c) n (xs.map (Value.int .u32))) (hn : n = xs.length) : U32s w w.heap.size A n xs := by
  obtain ⟨_, _, e, _, hs⟩ := own_val h
  injection e with e1 _ e2
  subst e1 e2
  exact ⟨hn, hs⟩
theorem nums_cons4 (x : Int) (h0 : 0 ≤ x) (h1 : x < 4294967296) (rest : List Int) (n : Nat) : nums 4 (n + 1) (digitsOf 4 x ++ rest) = x :: nums 4 n rest := by
  unfold nums
  rw [List.range_succ_eq_map, List.map_cons, List.map_map, digitsOf_4]
  congr 1
  · simp [big]
    omega
  · exact List.map_congr_left (fun i _ => by
      show big (List.take 4 (List.drop (Nat.succ i * 4) _)) = _
      rw [show Nat.succ i * 4 = i * 4 + 1 + 1 + 1 + 1 by omega]
      rfl)
set_option maxRecDepth 100000 in
theorem cmgroup_draws (k : Int) (W : World) : Draws Tryd.prog 17 #[.int .i64 k] W (.int .i64 (cmG k : Nat)) := Draws.of_same fun _ => rcmgroup_any k _
theorem nums_form4 : ∀ {ls : List Int}, U32L ls → nums 4 ls.length (cmForm ls) = ls
  | [], _ => rfl
  | x :: ls, h => by
    have hx := h x List.mem_cons_self
    have ih := nums_form4 (ls := ls) (fun y hy => h y (List.mem_cons_of_mem _ hy))
    show nums 4 (ls.length + 1) (digitsOf 4 x ++ cmForm ls) = _
    rw [nums_cons4 x hx.1 hx.2, ih]
theorem cmForm_range (ls : List Int) : ∀ x ∈ cmForm ls, 0 ≤ x ∧ x ≤ 255 := by
  intro x hx
  obtain ⟨y, _, hy⟩ := List.mem_flatMap.1 hx
  exact digitsOf_range 4 y x hy
set_option maxRecDepth 100000 in
theorem ckinds_early (a : At) (kd : Int) (ss : List Sg) (w : World) (ht : Tens w) (hs : Segs w w.heap.size a.A1 a.n1 ss) (hm : a.n1 ≤ maxLen) (hm2 : a.n2 ≤ maxLen) (h : (small9 a ss && cmOk a) = false) :
    Calls Tryd.prog 4 #[.agg (atc a), .int .u8 kd] w fun e w' => e = .returned (.bool true) ∧ Below w.heap.size w w' := by
  have hSm := Lib.hid (fun (W : World) (hb : Below w.heap.size w W) => small09_any a ss W ((hs.below hb).more hb.size) hm)
  have hV := Lib.hid (fun W => rcmvalid_any a W hm2)
  have HT := Lib.hid ht
  generalize small9 a ss = q at *
  generalize cmOk a = r at *
  clear hs ht
  obtain ⟨k, p, N, M, A1, n1, c1, A2, n2, c2, A3, n3, c3, f, A4, n4, c4⟩ := a
  unfold atc at *
  dsimp only at *
  have hb0 := bl_alloc (bl_refl w) (.cells #[.int .i64 k, .bool p, .int .u32 N, .int .u32 M, .slice A1 n1 c1, .slice A2 n2 c2, .slice A3 n3 c3, .int .i64 f, .slice A4 n4 c4] 29)
  have o0 := Own.new w 29 #[.int .i64 k, .bool p, .int .u32 N, .int .u32 M, .slice A1 n1 c1, .slice A2 n2 c2, .slice A3 n3 c3, .int .i64 f, .slice A4 n4 c4]
  cases q
  · go_enter Tryd.func4, Tryd.ntmps4
    go_wp2_with fail
    refine (hSm.out _ hb0).mono ?_
    rintro e w1 ⟨rfl, hb1⟩
    have hb2 := bl_trans hb0 hb1
    go_wp2_with fail
    refine (alive09_any _ (HT.out.below hb2)).mono ?_
    rintro e w3 ⟨rfl, hb3⟩
    go_wp2
    go_ret
    exact ⟨rfl, bl_trans hb2 hb3⟩
  · rw [Bool.true_and] at h
    subst h
    go_enter Tryd.func4, Tryd.ntmps4
    go_wp2_with fail
    refine (hSm.out _ hb0).mono ?_
    rintro e w1 ⟨rfl, hb1⟩
    have hb2 := bl_trans hb0 hb1
    obtain ⟨e0, e1, e2, e3, e4, e5, e6, e7, e8⟩ := at_cells (o0.step hb1)
    go_wp2_with fail
    refine (hV.out _).mono ?_
    rintro e w2 ⟨rfl, hb3⟩
    have hb4 := bl_trans hb2 hb3
    go_wp2_with fail
    refine (alive09_any _ (HT.out.below hb4)).mono ?_
    rintro e w5 ⟨rfl, hb5⟩
    go_wp2
    go_ret
    exact ⟨rfl, bl_trans hb4 hb5⟩
set_option maxRecDepth 100000 in
set_option maxHeartbeats 3200000 in
theorem ckinds_8 (a : At) (kd : Int) (ss : List Sg) (ls : List Int) (w : World) (ht : Tens w) (hs : Segs w w.heap.size a.A1 a.n1 ss) (hm : a.n1 ≤ maxLen) (hU : U32s w w.heap.size a.A2 a.n2 ls) (hR : U32L ls) (h1 : small9 a ss = true) (h2 : cmOk a = true) (hn : a.n2 ≤ 200) (hn0 : a.n2 ≠ 0) (hk0 : 0 ≤ kd) (hk1 : kd ≤ 255) (hkd : kd.tmod 4 = 0) :
    Calls Tryd.prog 4 #[.agg (atc a), .int .u8 kd] w fun e w' => e = .returned (.bool true) ∧ Below w.heap.size w w' := by
  have hSm := Lib.hid (fun (W : World) (hb : Below w.heap.size w W) => small09_any a ss W ((hs.below hb).more hb.size) hm)
  rw [h1] at hSm
  have hV := Lib.hid (fun W => rcmvalid_any a W (by unfold maxLen; omega))
  rw [h2] at hV
  have hBy := Lib.hid (fun (W : World) (hb : Below w.heap.size w W) => cmbytes_yes a ls W ((hU.below hb).more hb.size) hR (by omega) h2)
  have hln : ls.length ≤ 200 := by rw [← hU.1]; exact hn
  have hrd : cmRd 8 (cmForm ls).length = true := by
    rw [cmForm_len, ← hU.1]
    unfold cmRd
    rw [show cmG 8 = 1 from rfl]
    exact decide_eq_true ⟨by omega, by omega, by omega⟩
  have hRd := Lib.hid (fun (W : World) (A3 : Option Addr) (hB : Bytes W W.heap.size A3 (cmForm ls).length (cmForm ls)) => cmread_yes 8 A3 (cmForm ls).length (cmForm ls).length a.n2 (cmForm ls) W hB hrd (by rw [cmForm_len, ← hU.1]) (by rw [cmForm_len]; omega))
  rw [hU.1, nums_form4 hR, ← hU.1] at hRd
  have hG := Lib.hid (fun W => cmgroup_draws 8 W)
  rw [show cmG 8 = 1 from rfl] at hG
  have HT := Lib.hid ht
  have HU := Lib.hid hU
  have HL := Lib.hid hU.1
  have hkw : IntKind.i64.wrap kd = kd := IntWalk.i64_in _ (by omega)
  unfold atL at hRd
  generalize cmForm ls = bs at *
  clear hs ht hU hR h1 h2 hrd
  obtain ⟨k, p, N, M, A1, n1, c1, A2, n2, c2, A3, n3, c3, f, A4, n4, c4⟩ := a
  unfold atc at *
  dsimp only at *
  have hb0 := bl_alloc (bl_refl w) (.cells #[.int .i64 k, .bool p, .int .u32 N, .int .u32 M, .slice A1 n1 c1, .slice A2 n2 c2, .slice A3 n3 c3, .int .i64 f, .slice A4 n4 c4] 29)
  have o0 := Own.new w 29 #[.int .i64 k, .bool p, .int .u32 N, .int .u32 M, .slice A1 n1 c1, .slice A2 n2 c2, .slice A3 n3 c3, .int .i64 f, .slice A4 n4 c4]
  go_enter Tryd.func4, Tryd.ntmps4
  go_wp2_with fail
  refine (hSm.out _ hb0).mono ?_
  rintro e w1 ⟨rfl, hb1⟩
  have hb2 := bl_trans hb0 hb1
  have o1 := o0.step hb1
  obtain ⟨e0, e1, e2, e3, e4, e5, e6, e7, e8⟩ := at_cells o1
  go_wp2_with fail
  refine (hV.out _).mono ?_
  rintro e w2 ⟨rfl, hb3⟩
  have hb4 := bl_alloc (bl_trans hb2 hb3) (.cells #[.int .i64 8, .int .i64 10, .int .i64 16, .int .i64 32] 3)
  have o2 := (o1.step hb3).alloc (.cells #[.int .i64 8, .int .i64 10, .int .i64 16, .int .i64 32] 3)
  obtain ⟨f0, f1, f2, f3, f4, f5, f6, f7, f8⟩ := at_cells o2
  clear e0 e1 e2 e3 e4 e5 e6 e7 e8 hb0 hb1 hb2 hb3 o0 o1
  go_wp2_with fail
  refine (hBy.out _ hb4).mono ?_
  rintro e w3 ⟨A5, rfl, hB3, hb5⟩
  have hb6 := bl_trans hb4 hb5
  have o3 := o2.step hb5
  clear f0 f1 f2 f3 f4 f5 f6 f7 f8 hb4 hb5 o2
  go_wp2_with fail
  refine (hRd.out _ _ hB3).mono ?_
  rintro e w4 ⟨A6, c6, rfl, row6, hb66⟩
  have hb7 := bl_alloc (bl_trans hb6 (by assumption)) (.cells #[.int .i64 8, .bool false, .int .u32 0, .int .u32 0, .slice none 0 0, .slice A6 n2 c6, .slice none 0 0, .int .i64 0, .slice none 0 0] 29)
  have o4 := (o3.step (by assumption)).alloc (.cells #[.int .i64 8, .bool false, .int .u32 0, .int .u32 0, .slice none 0 0, .slice A6 n2 c6, .slice none 0 0, .int .i64 0, .slice none 0 0] 29)
  have oX := Own.new w4 29 #[.int .i64 8, .bool false, .int .u32 0, .int .u32 0, .slice none 0 0, .slice A6 n2 c6, .slice none 0 0, .int .i64 0, .slice none 0 0]
  have HU4 := Lib.hid (row_u32k (row6.alloc (.cells #[.int .i64 8, .bool false, .int .u32 0, .int .u32 0, .slice none 0 0, .slice A6 n2 c6, .slice none 0 0, .int .i64 0, .slice none 0 0] 29)) HL.out)
  have c5 := o4.cell (i := 5) rfl
  have oXt := oX.typed
  clear o3 hb6 hb66 row6
  go_wp2_with fail
  go_quiet ((go_at_call 17; exact (hG.out _).plain _))
  have o5 := o4.drewN nq
  have oX5 := oX.drewN nq
  have hb8 := bl_drewN hb7 nq
  have HU5 := Lib.hid (HU4.out.below (show Below (w4.alloc (.cells #[.int .i64 8, .bool false, .int .u32 0, .int .u32 0, .slice none 0 0, .slice A6 n2 c6, .slice none 0 0, .int .i64 0, .slice none 0 0] 29)).heap.size _ ((w4.alloc (.cells #[.int .i64 8, .bool false, .int .u32 0, .int .u32 0, .slice none 0 0, .slice A6 n2 c6, .slice none 0 0, .int .i64 0, .slice none 0 0] 29)).drewN nq) from bl_drewN (bl_refl _) nq))
  go_wp2_with fail
  refine (alive09_any _ (HT.out.below hb8)).mono ?_
  rintro e w6 ⟨rfl, hb9⟩
  have hb10 := bl_trans hb8 hb9
  obtain ⟨g0, g1, g2, g3, g4, g5, g6, g7, g8⟩ := at_cells (oX5.step hb9)
  have d5 := (o5.step hb9).cell (i := 5) rfl
  have HU6 := Lib.hid ((HU5.out.below hb9).more hb9.size)
  have HA6 := Lib.hid ((HU.out.below hb10).more hb10.size)
  clear c5 HU4 HU5
  go_wp2_with fail
  refine (u32eq_any _ _ _ _ _ _ ls ls _ _ _ HU6.out HA6.out (by omega) (by omega)).mono ?_
  rw [decide_eq_true (rfl : ls = ls)]
  rintro e w7 ⟨rfl, j, rfl⟩
  go_wp2
  go_ret
  exact ⟨rfl, bl_drewN hb10 j⟩
set_option maxRecDepth 100000 in
set_option maxHeartbeats 3200000 in
theorem ckinds_10 (a : At) (kd : Int) (ss : List Sg) (ls : List Int) (w : World) (ht : Tens w) (hs : Segs w w.heap.size a.A1 a.n1 ss) (hm : a.n1 ≤ maxLen) (hU : U32s w w.heap.size a.A2 a.n2 ls) (hR : U32L ls) (h1 : small9 a ss = true) (h2 : cmOk a = true) (hn : a.n2 ≤ 200) (hn0 : a.n2 ≠ 0) (hk0 : 0 ≤ kd) (hk1 : kd ≤ 255) (hkd : kd.tmod 4 = 1) :
    Calls Tryd.prog 4 #[.agg (atc a), .int .u8 kd] w fun e w' => e = .returned (.bool true) ∧ Below w.heap.size w w' := by
  have hSm := Lib.hid (fun (W : World) (hb : Below w.heap.size w W) => small09_any a ss W ((hs.below hb).more hb.size) hm)
  rw [h1] at hSm
  have hV := Lib.hid (fun W => rcmvalid_any a W (by unfold maxLen; omega))
  rw [h2] at hV
  have hBy := Lib.hid (fun (W : World) (hb : Below w.heap.size w W) => cmbytes_yes a ls W ((hU.below hb).more hb.size) hR (by omega) h2)
  have hln : ls.length ≤ 200 := by rw [← hU.1]; exact hn
  have hrd : cmRd 10 (cmForm ls).length = true := by
    rw [cmForm_len, ← hU.1]
    unfold cmRd
    rw [show cmG 10 = 1 from rfl]
    exact decide_eq_true ⟨by omega, by omega, by omega⟩
  have hRd := Lib.hid (fun (W : World) (A3 : Option Addr) (hB : Bytes W W.heap.size A3 (cmForm ls).length (cmForm ls)) => cmread_yes 10 A3 (cmForm ls).length (cmForm ls).length a.n2 (cmForm ls) W hB hrd (by rw [cmForm_len, ← hU.1]) (by rw [cmForm_len]; omega))
  rw [hU.1, nums_form4 hR, ← hU.1] at hRd
  have hG := Lib.hid (fun W => cmgroup_draws 10 W)
  rw [show cmG 10 = 1 from rfl] at hG
  have HT := Lib.hid ht
  have HU := Lib.hid hU
  have HL := Lib.hid hU.1
  have hkw : IntKind.i64.wrap kd = kd := IntWalk.i64_in _ (by omega)
  unfold atL at hRd
  generalize cmForm ls = bs at *
  clear hs ht hU hR h1 h2 hrd
  obtain ⟨k, p, N, M, A1, n1, c1, A2, n2, c2, A3, n3, c3, f, A4, n4, c4⟩ := a
  unfold atc at *
  dsimp only at *
  have hb0 := bl_alloc (bl_refl w) (.cells #[.int .i64 k, .bool p, .int .u32 N, .int .u32 M, .slice A1 n1 c1, .slice A2 n2 c2, .slice A3 n3 c3, .int .i64 f, .slice A4 n4 c4] 29)
  have o0 := Own.new w 29 #[.int .i64 k, .bool p, .int .u32 N, .int .u32 M, .slice A1 n1 c1, .slice A2 n2 c2, .slice A3 n3 c3, .int .i64 f, .slice A4 n4 c4]
  go_enter Tryd.func4, Tryd.ntmps4
  go_wp2_with fail
  refine (hSm.out _ hb0).mono ?_
  rintro e w1 ⟨rfl, hb1⟩
  have hb2 := bl_trans hb0 hb1
  have o1 := o0.step hb1
  obtain ⟨e0, e1, e2, e3, e4, e5, e6, e7, e8⟩ := at_cells o1
  go_wp2_with fail
  refine (hV.out _).mono ?_
  rintro e w2 ⟨rfl, hb3⟩
  have hb4 := bl_alloc (bl_trans hb2 hb3) (.cells #[.int .i64 8, .int .i64 10, .int .i64 16, .int .i64 32] 3)
  have o2 := (o1.step hb3).alloc (.cells #[.int .i64 8, .int .i64 10, .int .i64 16, .int .i64 32] 3)
  obtain ⟨f0, f1, f2, f3, f4, f5, f6, f7, f8⟩ := at_cells o2
  clear e0 e1 e2 e3 e4 e5 e6 e7 e8 hb0 hb1 hb2 hb3 o0 o1
  go_wp2_with fail
  refine (hBy.out _ hb4).mono ?_
  rintro e w3 ⟨A5, rfl, hB3, hb5⟩
  have hb6 := bl_trans hb4 hb5
  have o3 := o2.step hb5
  clear f0 f1 f2 f3 f4 f5 f6 f7 f8 hb4 hb5 o2
  go_wp2_with fail
  refine (hRd.out _ _ hB3).mono ?_
  rintro e w4 ⟨A6, c6, rfl, row6, hb66⟩
  have hb7 := bl_alloc (bl_trans hb6 (by assumption)) (.cells #[.int .i64 10, .bool false, .int .u32 0, .int .u32 0, .slice none 0 0, .slice A6 n2 c6, .slice none 0 0, .int .i64 0, .slice none 0 0] 29)
  have o4 := (o3.step (by assumption)).alloc (.cells #[.int .i64 10, .bool false, .int .u32 0, .int .u32 0, .slice none 0 0, .slice A6 n2 c6, .slice none 0 0, .int .i64 0, .slice none 0 0] 29)
  have oX := Own.new w4 29 #[.int .i64 10, .bool false, .int .u32 0, .int .u32 0, .slice none 0 0, .slice A6 n2 c6, .slice none 0 0, .int .i64 0, .slice none 0 0]
  have HU4 := Lib.hid (row_u32k (row6.alloc (.cells #[.int .i64 10, .bool false, .int .u32 0, .int .u32 0, .slice none 0 0, .slice A6 n2 c6, .slice none 0 0, .int .i64 0, .slice none 0 0] 29)) HL.out)
  have c5 := o4.cell (i := 5) rfl
  have oXt := oX.typed
  clear o3 hb6 hb66 row6
  go_wp2_with fail
  go_quiet ((go_at_call 17; exact (hG.out _).plain _))
  have o5 := o4.drewN nq
  have oX5 := oX.drewN nq
  have hb8 := bl_drewN hb7 nq
  have HU5 := Lib.hid (HU4.out.below (show Below (w4.alloc (.cells #[.int .i64 10, .bool false, .int .u32 0, .int .u32 0, .slice none 0 0, .slice A6 n2 c6, .slice none 0 0, .int .i64 0, .slice none 0 0] 29)).heap.size _ ((w4.alloc (.cells #[.int .i64 10, .bool false, .int .u32 0, .int .u32 0, .slice none 0 0, .slice A6 n2 c6, .slice none 0 0, .int .i64 0, .slice none 0 0] 29)).drewN nq) from bl_drewN (bl_refl _) nq))
  go_wp2_with fail
  refine (alive09_any _ (HT.out.below hb8)).mono ?_
  rintro e w6 ⟨rfl, hb9⟩
  have hb10 := bl_trans hb8 hb9
  obtain ⟨g0, g1, g2, g3, g4, g5, g6, g7, g8⟩ := at_cells (oX5.step hb9)
  have d5 := (o5.step hb9).cell (i := 5) rfl
  have HU6 := Lib.hid ((HU5.out.below hb9).more hb9.size)
  have HA6 := Lib.hid ((HU.out.below hb10).more hb10.size)
  clear c5 HU4 HU5
  go_wp2_with fail
  refine (u32eq_any _ _ _ _ _ _ ls ls _ _ _ HU6.out HA6.out (by omega) (by omega)).mono ?_
  rw [decide_eq_true (rfl : ls = ls)]
  rintro e w7 ⟨rfl, j, rfl⟩
  go_wp2
  go_ret
  exact ⟨rfl, bl_drewN hb10 j⟩
set_option maxRecDepth 100000 in
set_option maxHeartbeats 3200000 in
theorem ckinds_16 (a : At) (kd : Int) (ss : List Sg) (ls : List Int) (w : World) (ht : Tens w) (hs : Segs w w.heap.size a.A1 a.n1 ss) (hm : a.n1 ≤ maxLen) (hU : U32s w w.heap.size a.A2 a.n2 ls) (hR : U32L ls) (h1 : small9 a ss = true) (h2 : cmOk a = true) (hn : a.n2 ≤ 200) (hn0 : a.n2 ≠ 0) (hk0 : 0 ≤ kd) (hk1 : kd ≤ 255) (hkd : kd.tmod 4 = 2) (hw : a.n2 % 2 = 0) :
    Calls Tryd.prog 4 #[.agg (atc a), .int .u8 kd] w fun e w' => e = .returned (.bool true) ∧ Below w.heap.size w w' := by
  have hSm := Lib.hid (fun (W : World) (hb : Below w.heap.size w W) => small09_any a ss W ((hs.below hb).more hb.size) hm)
  rw [h1] at hSm
  have hV := Lib.hid (fun W => rcmvalid_any a W (by unfold maxLen; omega))
  rw [h2] at hV
  have hBy := Lib.hid (fun (W : World) (hb : Below w.heap.size w W) => cmbytes_yes a ls W ((hU.below hb).more hb.size) hR (by omega) h2)
  have hln : ls.length ≤ 200 := by rw [← hU.1]; exact hn
  have hrd : cmRd 16 (cmForm ls).length = true := by
    rw [cmForm_len, ← hU.1]
    unfold cmRd
    rw [show cmG 16 = 2 from rfl]
    exact decide_eq_true ⟨by omega, by omega, by omega⟩
  have hRd := Lib.hid (fun (W : World) (A3 : Option Addr) (hB : Bytes W W.heap.size A3 (cmForm ls).length (cmForm ls)) => cmread_yes 16 A3 (cmForm ls).length (cmForm ls).length a.n2 (cmForm ls) W hB hrd (by rw [cmForm_len, ← hU.1]) (by rw [cmForm_len]; omega))
  rw [hU.1, nums_form4 hR, ← hU.1] at hRd
  have hG := Lib.hid (fun W => cmgroup_draws 16 W)
  rw [show cmG 16 = 2 from rfl] at hG
  have HT := Lib.hid ht
  have HU := Lib.hid hU
  have HL := Lib.hid hU.1
  have hkw : IntKind.i64.wrap kd = kd := IntWalk.i64_in _ (by omega)
  have hrm : ((a.n2 : Int).tmod 2) = ((a.n2 % 2 : Nat) : Int) := by rw [show (2 : Int) = ((2 : Nat) : Int) from rfl, Int.ofNat_tmod]
  rw [hw] at hrm
  unfold atL at hRd
  generalize cmForm ls = bs at *
  clear hs ht hU hR h1 h2 hrd hw
  obtain ⟨k, p, N, M, A1, n1, c1, A2, n2, c2, A3, n3, c3, f, A4, n4, c4⟩ := a
  unfold atc at *
  dsimp only at *
  have hb0 := bl_alloc (bl_refl w) (.cells #[.int .i64 k, .bool p, .int .u32 N, .int .u32 M, .slice A1 n1 c1, .slice A2 n2 c2, .slice A3 n3 c3, .int .i64 f, .slice A4 n4 c4] 29)
  have o0 := Own.new w 29 #[.int .i64 k, .bool p, .int .u32 N, .int .u32 M, .slice A1 n1 c1, .slice A2 n2 c2, .slice A3 n3 c3, .int .i64 f, .slice A4 n4 c4]
  go_enter Tryd.func4, Tryd.ntmps4
  go_wp2_with fail
  refine (hSm.out _ hb0).mono ?_
  rintro e w1 ⟨rfl, hb1⟩
  have hb2 := bl_trans hb0 hb1
  have o1 := o0.step hb1
  obtain ⟨e0, e1, e2, e3, e4, e5, e6, e7, e8⟩ := at_cells o1
  go_wp2_with fail
  refine (hV.out _).mono ?_
  rintro e w2 ⟨rfl, hb3⟩
  have hb4 := bl_alloc (bl_trans hb2 hb3) (.cells #[.int .i64 8, .int .i64 10, .int .i64 16, .int .i64 32] 3)
  have o2 := (o1.step hb3).alloc (.cells #[.int .i64 8, .int .i64 10, .int .i64 16, .int .i64 32] 3)
  obtain ⟨f0, f1, f2, f3, f4, f5, f6, f7, f8⟩ := at_cells o2
  clear e0 e1 e2 e3 e4 e5 e6 e7 e8 hb0 hb1 hb2 hb3 o0 o1
  go_wp2_with fail
  refine (hBy.out _ hb4).mono ?_
  rintro e w3 ⟨A5, rfl, hB3, hb5⟩
  have hb6 := bl_trans hb4 hb5
  have o3 := o2.step hb5
  clear f0 f1 f2 f3 f4 f5 f6 f7 f8 hb4 hb5 o2
  go_wp2_with fail
  refine (hRd.out _ _ hB3).mono ?_
  rintro e w4 ⟨A6, c6, rfl, row6, hb66⟩
  have hb7 := bl_alloc (bl_trans hb6 (by assumption)) (.cells #[.int .i64 16, .bool false, .int .u32 0, .int .u32 0, .slice none 0 0, .slice A6 n2 c6, .slice none 0 0, .int .i64 0, .slice none 0 0] 29)
  have o4 := (o3.step (by assumption)).alloc (.cells #[.int .i64 16, .bool false, .int .u32 0, .int .u32 0, .slice none 0 0, .slice A6 n2 c6, .slice none 0 0, .int .i64 0, .slice none 0 0] 29)
  have oX := Own.new w4 29 #[.int .i64 16, .bool false, .int .u32 0, .int .u32 0, .slice none 0 0, .slice A6 n2 c6, .slice none 0 0, .int .i64 0, .slice none 0 0]
  have HU4 := Lib.hid (row_u32k (row6.alloc (.cells #[.int .i64 16, .bool false, .int .u32 0, .int .u32 0, .slice none 0 0, .slice A6 n2 c6, .slice none 0 0, .int .i64 0, .slice none 0 0] 29)) HL.out)
  have c5 := o4.cell (i := 5) rfl
  have oXt := oX.typed
  clear o3 hb6 hb66 row6
  go_wp2_with fail
  go_quiet ((go_at_call 17; exact (hG.out _).plain _))
  have o5 := o4.drewN nq
  have oX5 := oX.drewN nq
  have hb8 := bl_drewN hb7 nq
  have HU5 := Lib.hid (HU4.out.below (show Below (w4.alloc (.cells #[.int .i64 16, .bool false, .int .u32 0, .int .u32 0, .slice none 0 0, .slice A6 n2 c6, .slice none 0 0, .int .i64 0, .slice none 0 0] 29)).heap.size _ ((w4.alloc (.cells #[.int .i64 16, .bool false, .int .u32 0, .int .u32 0, .slice none 0 0, .slice A6 n2 c6, .slice none 0 0, .int .i64 0, .slice none 0 0] 29)).drewN nq) from bl_drewN (bl_refl _) nq))
  go_wp2_with fail
  refine (alive09_any _ (HT.out.below hb8)).mono ?_
  rintro e w6 ⟨rfl, hb9⟩
  have hb10 := bl_trans hb8 hb9
  obtain ⟨g0, g1, g2, g3, g4, g5, g6, g7, g8⟩ := at_cells (oX5.step hb9)
  have d5 := (o5.step hb9).cell (i := 5) rfl
  have HU6 := Lib.hid ((HU5.out.below hb9).more hb9.size)
  have HA6 := Lib.hid ((HU.out.below hb10).more hb10.size)
  clear c5 HU4 HU5
  go_wp2_with fail
  refine (u32eq_any _ _ _ _ _ _ ls ls _ _ _ HU6.out HA6.out (by omega) (by omega)).mono ?_
  rw [decide_eq_true (rfl : ls = ls)]
  rintro e w7 ⟨rfl, j, rfl⟩
  go_wp2
  go_ret
  exact ⟨rfl, bl_drewN hb10 j⟩
set_option maxRecDepth 100000 in
set_option maxHeartbeats 3200000 in
theorem ckinds_16n (a : At) (kd : Int) (ss : List Sg) (ls : List Int) (w : World) (ht : Tens w) (hs : Segs w w.heap.size a.A1 a.n1 ss) (hm : a.n1 ≤ maxLen) (hU : U32s w w.heap.size a.A2 a.n2 ls) (hR : U32L ls) (h1 : small9 a ss = true) (h2 : cmOk a = true) (hn : a.n2 ≤ 200) (hn0 : a.n2 ≠ 0) (hk0 : 0 ≤ kd) (hk1 : kd ≤ 255) (hkd : kd.tmod 4 = 2) (hw : a.n2 % 2 ≠ 0) :
    Calls Tryd.prog 4 #[.agg (atc a), .int .u8 kd] w fun e w' => e = .returned (.bool true) ∧ Below w.heap.size w w' := by
  have hSm := Lib.hid (fun (W : World) (hb : Below w.heap.size w W) => small09_any a ss W ((hs.below hb).more hb.size) hm)
  rw [h1] at hSm
  have hV := Lib.hid (fun W => rcmvalid_any a W (by unfold maxLen; omega))
  rw [h2] at hV
  have hBy := Lib.hid (fun (W : World) (hb : Below w.heap.size w W) => cmbytes_yes a ls W ((hU.below hb).more hb.size) hR (by omega) h2)
  have hln : ls.length ≤ 200 := by rw [← hU.1]; exact hn
  have hrd : cmRd 16 (cmForm ls).length = false := by
    rw [cmForm_len, ← hU.1]
    unfold cmRd
    rw [show cmG 16 = 2 from rfl]
    exact decide_eq_false (fun h => by omega)
  have hRd := Lib.hid (fun (W : World) (A3 : Option Addr) (hB : Bytes W W.heap.size A3 (cmForm ls).length (cmForm ls)) => cmread_no 16 A3 (cmForm ls).length (cmForm ls).length W hrd (by rw [cmForm_len]; unfold maxLen; omega))
  have hG := Lib.hid (fun W => cmgroup_draws 16 W)
  rw [show cmG 16 = 2 from rfl] at hG
  have HT := Lib.hid ht
  have HU := Lib.hid hU
  have HL := Lib.hid hU.1
  have hkw : IntKind.i64.wrap kd = kd := IntWalk.i64_in _ (by omega)
  have hrm : ((a.n2 : Int).tmod 2) = ((a.n2 % 2 : Nat) : Int) := by rw [show (2 : Int) = ((2 : Nat) : Int) from rfl, Int.ofNat_tmod]
  have hlt := Nat.mod_lt a.n2 (show 2 > 0 by omega)
  generalize a.n2 % 2 = rr at *
  have hrq : ((rr : Int) == 0) = false := by simp; omega
  unfold atL at hRd
  generalize cmForm ls = bs at *
  clear hs ht hU hR h1 h2 hrd
  obtain ⟨k, p, N, M, A1, n1, c1, A2, n2, c2, A3, n3, c3, f, A4, n4, c4⟩ := a
  unfold atc at *
  dsimp only at *
  have hb0 := bl_alloc (bl_refl w) (.cells #[.int .i64 k, .bool p, .int .u32 N, .int .u32 M, .slice A1 n1 c1, .slice A2 n2 c2, .slice A3 n3 c3, .int .i64 f, .slice A4 n4 c4] 29)
  have o0 := Own.new w 29 #[.int .i64 k, .bool p, .int .u32 N, .int .u32 M, .slice A1 n1 c1, .slice A2 n2 c2, .slice A3 n3 c3, .int .i64 f, .slice A4 n4 c4]
  go_enter Tryd.func4, Tryd.ntmps4
  go_wp2_with fail
  refine (hSm.out _ hb0).mono ?_
  rintro e w1 ⟨rfl, hb1⟩
  have hb2 := bl_trans hb0 hb1
  have o1 := o0.step hb1
  obtain ⟨e0, e1, e2, e3, e4, e5, e6, e7, e8⟩ := at_cells o1
  go_wp2_with fail
  refine (hV.out _).mono ?_
  rintro e w2 ⟨rfl, hb3⟩
  have hb4 := bl_alloc (bl_trans hb2 hb3) (.cells #[.int .i64 8, .int .i64 10, .int .i64 16, .int .i64 32] 3)
  have o2 := (o1.step hb3).alloc (.cells #[.int .i64 8, .int .i64 10, .int .i64 16, .int .i64 32] 3)
  obtain ⟨f0, f1, f2, f3, f4, f5, f6, f7, f8⟩ := at_cells o2
  clear e0 e1 e2 e3 e4 e5 e6 e7 e8 hb0 hb1 hb2 hb3 o0 o1
  go_wp2_with fail
  refine (hBy.out _ hb4).mono ?_
  rintro e w3 ⟨A5, rfl, hB3, hb5⟩
  have hb6 := bl_trans hb4 hb5
  have o3 := o2.step hb5
  clear f0 f1 f2 f3 f4 f5 f6 f7 f8 hb4 hb5 o2
  go_wp2_with fail
  refine (hRd.out _ _ hB3).mono ?_
  rintro e w4 ⟨rfl, hb66⟩
  have hb7 := bl_alloc (bl_trans hb6 (by assumption)) (.cells #[.int .i64 0, .bool false, .int .u32 0, .int .u32 0, .slice none 0 0, .slice none 0 0, .slice none 0 0, .int .i64 0, .slice none 0 0] 29)
  have o4 := (o3.step (by assumption)).alloc (.cells #[.int .i64 0, .bool false, .int .u32 0, .int .u32 0, .slice none 0 0, .slice none 0 0, .slice none 0 0, .int .i64 0, .slice none 0 0] 29)
  have oX := Own.new w4 29 #[.int .i64 0, .bool false, .int .u32 0, .int .u32 0, .slice none 0 0, .slice none 0 0, .slice none 0 0, .int .i64 0, .slice none 0 0]
  have c5 := o4.cell (i := 5) rfl
  have oXt := oX.typed
  clear o3 hb6 hb66
  go_wp2_with fail
  go_quiet ((go_at_call 17; exact (hG.out _).plain _))
  have o5 := o4.drewN nq
  have oX5 := oX.drewN nq
  have hb8 := bl_drewN hb7 nq
  go_wp2_with fail
  refine (alive09_any _ (HT.out.below hb8)).mono ?_
  rintro e w6 ⟨rfl, hb9⟩
  have hb10 := bl_trans hb8 hb9
  go_wp2
  go_ret
  exact ⟨rfl, hb10⟩
set_option maxRecDepth 100000 in
set_option maxHeartbeats 3200000 in
theorem ckinds_32 (a : At) (kd : Int) (ss : List Sg) (ls : List Int) (w : World) (ht : Tens w) (hs : Segs w w.heap.size a.A1 a.n1 ss) (hm : a.n1 ≤ maxLen) (hU : U32s w w.heap.size a.A2 a.n2 ls) (hR : U32L ls) (h1 : small9 a ss = true) (h2 : cmOk a = true) (hn : a.n2 ≤ 200) (hn0 : a.n2 ≠ 0) (hk0 : 0 ≤ kd) (hk1 : kd ≤ 255) (hkd : kd.tmod 4 = 3) (hw : a.n2 % 3 = 0) :
    Calls Tryd.prog 4 #[.agg (atc a), .int .u8 kd] w fun e w' => e = .returned (.bool true) ∧ Below w.heap.size w w' := by
  have hSm := Lib.hid (fun (W : World) (hb : Below w.heap.size w W) => small09_any a ss W ((hs.below hb).more hb.size) hm)
  rw [h1] at hSm
  have hV := Lib.hid (fun W => rcmvalid_any a W (by unfold maxLen; omega))
  rw [h2] at hV
  have hBy := Lib.hid (fun (W : World) (hb : Below w.heap.size w W) => cmbytes_yes a ls W ((hU.below hb).more hb.size) hR (by omega) h2)
  have hln : ls.length ≤ 200 := by rw [← hU.1]; exact hn
  have hrd : cmRd 32 (cmForm ls).length = true := by
    rw [cmForm_len, ← hU.1]
    unfold cmRd
    rw [show cmG 32 = 3 from rfl]
    exact decide_eq_true ⟨by omega, by omega, by omega⟩
  have hRd := Lib.hid (fun (W : World) (A3 : Option Addr) (hB : Bytes W W.heap.size A3 (cmForm ls).length (cmForm ls)) => cmread_yes 32 A3 (cmForm ls).length (cmForm ls).length a.n2 (cmForm ls) W hB hrd (by rw [cmForm_len, ← hU.1]) (by rw [cmForm_len]; omega))
  rw [hU.1, nums_form4 hR, ← hU.1] at hRd
  have hG := Lib.hid (fun W => cmgroup_draws 32 W)
  rw [show cmG 32 = 3 from rfl] at hG
  have HT := Lib.hid ht
  have HU := Lib.hid hU
  have HL := Lib.hid hU.1
  have hkw : IntKind.i64.wrap kd = kd := IntWalk.i64_in _ (by omega)
  have hrm : ((a.n2 : Int).tmod 3) = ((a.n2 % 3 : Nat) : Int) := by rw [show (3 : Int) = ((3 : Nat) : Int) from rfl, Int.ofNat_tmod]
  rw [hw] at hrm
  unfold atL at hRd
  generalize cmForm ls = bs at *
  clear hs ht hU hR h1 h2 hrd hw
  obtain ⟨k, p, N, M, A1, n1, c1, A2, n2, c2, A3, n3, c3, f, A4, n4, c4⟩ := a
  unfold atc at *
  dsimp only at *
  have hb0 := bl_alloc (bl_refl w) (.cells #[.int .i64 k, .bool p, .int .u32 N, .int .u32 M, .slice A1 n1 c1, .slice A2 n2 c2, .slice A3 n3 c3, .int .i64 f, .slice A4 n4 c4] 29)
  have o0 := Own.new w 29 #[.int .i64 k, .bool p, .int .u32 N, .int .u32 M, .slice A1 n1 c1, .slice A2 n2 c2, .slice A3 n3 c3, .int .i64 f, .slice A4 n4 c4]
  go_enter Tryd.func4, Tryd.ntmps4
  go_wp2_with fail
  refine (hSm.out _ hb0).mono ?_
  rintro e w1 ⟨rfl, hb1⟩
  have hb2 := bl_trans hb0 hb1
  have o1 := o0.step hb1
  obtain ⟨e0, e1, e2, e3, e4, e5, e6, e7, e8⟩ := at_cells o1
  go_wp2_with fail
  refine (hV.out _).mono ?_
  rintro e w2 ⟨rfl, hb3⟩
  have hb4 := bl_alloc (bl_trans hb2 hb3) (.cells #[.int .i64 8, .int .i64 10, .int .i64 16, .int .i64 32] 3)
  have o2 := (o1.step hb3).alloc (.cells #[.int .i64 8, .int .i64 10, .int .i64 16, .int .i64 32] 3)
  obtain ⟨f0, f1, f2, f3, f4, f5, f6, f7, f8⟩ := at_cells o2
  clear e0 e1 e2 e3 e4 e5 e6 e7 e8 hb0 hb1 hb2 hb3 o0 o1
  go_wp2_with fail
  refine (hBy.out _ hb4).mono ?_
  rintro e w3 ⟨A5, rfl, hB3, hb5⟩
  have hb6 := bl_trans hb4 hb5
  have o3 := o2.step hb5
  clear f0 f1 f2 f3 f4 f5 f6 f7 f8 hb4 hb5 o2
  go_wp2_with fail
  refine (hRd.out _ _ hB3).mono ?_
  rintro e w4 ⟨A6, c6, rfl, row6, hb66⟩
  have hb7 := bl_alloc (bl_trans hb6 (by assumption)) (.cells #[.int .i64 32, .bool false, .int .u32 0, .int .u32 0, .slice none 0 0, .slice A6 n2 c6, .slice none 0 0, .int .i64 0, .slice none 0 0] 29)
  have o4 := (o3.step (by assumption)).alloc (.cells #[.int .i64 32, .bool false, .int .u32 0, .int .u32 0, .slice none 0 0, .slice A6 n2 c6, .slice none 0 0, .int .i64 0, .slice none 0 0] 29)
  have oX := Own.new w4 29 #[.int .i64 32, .bool false, .int .u32 0, .int .u32 0, .slice none 0 0, .slice A6 n2 c6, .slice none 0 0, .int .i64 0, .slice none 0 0]
  have HU4 := Lib.hid (row_u32k (row6.alloc (.cells #[.int .i64 32, .bool false, .int .u32 0, .int .u32 0, .slice none 0 0, .slice A6 n2 c6, .slice none 0 0, .int .i64 0, .slice none 0 0] 29)) HL.out)
  have c5 := o4.cell (i := 5) rfl
  have oXt := oX.typed
  clear o3 hb6 hb66 row6
  go_wp2_with fail
  go_quiet ((go_at_call 17; exact (hG.out _).plain _))
  have o5 := o4.drewN nq
  have oX5 := oX.drewN nq
  have hb8 := bl_drewN hb7 nq
  have HU5 := Lib.hid (HU4.out.below (show Below (w4.alloc (.cells #[.int .i64 32, .bool false, .int .u32 0, .int .u32 0, .slice none 0 0, .slice A6 n2 c6, .slice none 0 0, .int .i64 0, .slice none 0 0] 29)).heap.size _ ((w4.alloc (.cells #[.int .i64 32, .bool false, .int .u32 0, .int .u32 0, .slice none 0 0, .slice A6 n2 c6, .slice none 0 0, .int .i64 0, .slice none 0 0] 29)).drewN nq) from bl_drewN (bl_refl _) nq))
  go_wp2_with fail
  refine (alive09_any _ (HT.out.below hb8)).mono ?_
  rintro e w6 ⟨rfl, hb9⟩
  have hb10 := bl_trans hb8 hb9
  obtain ⟨g0, g1, g2, g3, g4, g5, g6, g7, g8⟩ := at_cells (oX5.step hb9)
  have d5 := (o5.step hb9).cell (i := 5) rfl
  have HU6 := Lib.hid ((HU5.out.below hb9).more hb9.size)
  have HA6 := Lib.hid ((HU.out.below hb10).more hb10.size)
  clear c5 HU4 HU5
  go_wp2_with fail
  refine (u32eq_any _ _ _ _ _ _ ls ls _ _ _ HU6.out HA6.out (by omega) (by omega)).mono ?_
  rw [decide_eq_true (rfl : ls = ls)]
  rintro e w7 ⟨rfl, j, rfl⟩
  go_wp2
  go_ret
  exact ⟨rfl, bl_drewN hb10 j⟩
set_option maxRecDepth 100000 in
set_option maxHeartbeats 3200000 in
theorem ckinds_32n (a : At) (kd : Int) (ss : List Sg) (ls : List Int) (w : World) (ht : Tens w) (hs : Segs w w.heap.size a.A1 a.n1 ss) (hm : a.n1 ≤ maxLen) (hU : U32s w w.heap.size a.A2 a.n2 ls) (hR : U32L ls) (h1 : small9 a ss = true) (h2 : cmOk a = true) (hn : a.n2 ≤ 200) (hn0 : a.n2 ≠ 0) (hk0 : 0 ≤ kd) (hk1 : kd ≤ 255) (hkd : kd.tmod 4 = 3) (hw : a.n2 % 3 ≠ 0) :
    Calls Tryd.prog 4 #[.agg (atc a), .int .u8 kd] w fun e w' => e = .returned (.bool true) ∧ Below w.heap.size w w' := by
  have hSm := Lib.hid (fun (W : World) (hb : Below w.heap.size w W) => small09_any a ss W ((hs.below hb).more hb.size) hm)
  rw [h1] at hSm
  have hV := Lib.hid (fun W => rcmvalid_any a W (by unfold maxLen; omega))
  rw [h2] at hV
  have hBy := Lib.hid (fun (W : World) (hb : Below w.heap.size w W) => cmbytes_yes a ls W ((hU.below hb).more hb.size) hR (by omega) h2)
  have hln : ls.length ≤ 200 := by rw [← hU.1]; exact hn
  have hrd : cmRd 32 (cmForm ls).length = false := by
    rw [cmForm_len, ← hU.1]
    unfold cmRd
    rw [show cmG 32 = 3 from rfl]
    exact decide_eq_false (fun h => by omega)
  have hRd := Lib.hid (fun (W : World) (A3 : Option Addr) (hB : Bytes W W.heap.size A3 (cmForm ls).length (cmForm ls)) => cmread_no 32 A3 (cmForm ls).length (cmForm ls).length W hrd (by rw [cmForm_len]; unfold maxLen; omega))
  have hG := Lib.hid (fun W => cmgroup_draws 32 W)
  rw [show cmG 32 = 3 from rfl] at hG
  have HT := Lib.hid ht
  have HU := Lib.hid hU
  have HL := Lib.hid hU.1
  have hkw : IntKind.i64.wrap kd = kd := IntWalk.i64_in _ (by omega)
  have hrm : ((a.n2 : Int).tmod 3) = ((a.n2 % 3 : Nat) : Int) := by rw [show (3 : Int) = ((3 : Nat) : Int) from rfl, Int.ofNat_tmod]
  have hlt := Nat.mod_lt a.n2 (show 3 > 0 by omega)
  generalize a.n2 % 3 = rr at *
  have hrq : ((rr : Int) == 0) = false := by simp; omega
  unfold atL at hRd
  generalize cmForm ls = bs at *
  clear hs ht hU hR h1 h2 hrd
  obtain ⟨k, p, N, M, A1, n1, c1, A2, n2, c2, A3, n3, c3, f, A4, n4, c4⟩ := a
  unfold atc at *
  dsimp only at *
  have hb0 := bl_alloc (bl_refl w) (.cells #[.int .i64 k, .bool p, .int .u32 N, .int .u32 M, .slice A1 n1 c1, .slice A2 n2 c2, .slice A3 n3 c3, .int .i64 f, .slice A4 n4 c4] 29)
  have o0 := Own.new w 29 #[.int .i64 k, .bool p, .int .u32 N, .int .u32 M, .slice A1 n1 c1, .slice A2 n2 c2, .slice A3 n3 c3, .int .i64 f, .slice A4 n4 c4]
  go_enter Tryd.func4, Tryd.ntmps4
  go_wp2_with fail
  refine (hSm.out _ hb0).mono ?_
  rintro e w1 ⟨rfl, hb1⟩
  have hb2 := bl_trans hb0 hb1
  have o1 := o0.step hb1
  obtain ⟨e0, e1, e2, e3, e4, e5, e6, e7, e8⟩ := at_cells o1
  go_wp2_with fail
  refine (hV.out _).mono ?_
  rintro e w2 ⟨rfl, hb3⟩
  have hb4 := bl_alloc (bl_trans hb2 hb3) (.cells #[.int .i64 8, .int .i64 10, .int .i64 16, .int .i64 32] 3)
  have o2 := (o1.step hb3).alloc (.cells #[.int .i64 8, .int .i64 10, .int .i64 16, .int .i64 32] 3)
  obtain ⟨f0, f1, f2, f3, f4, f5, f6, f7, f8⟩ := at_cells o2
  clear e0 e1 e2 e3 e4 e5 e6 e7 e8 hb0 hb1 hb2 hb3 o0 o1
  go_wp2_with fail
  refine (hBy.out _ hb4).mono ?_
  rintro e w3 ⟨A5, rfl, hB3, hb5⟩
  have hb6 := bl_trans hb4 hb5
  have o3 := o2.step hb5
  clear f0 f1 f2 f3 f4 f5 f6 f7 f8 hb4 hb5 o2
  go_wp2_with fail
  refine (hRd.out _ _ hB3).mono ?_
  rintro e w4 ⟨rfl, hb66⟩
  have hb7 := bl_alloc (bl_trans hb6 (by assumption)) (.cells #[.int .i64 0, .bool false, .int .u32 0, .int .u32 0, .slice none 0 0, .slice none 0 0, .slice none 0 0, .int .i64 0, .slice none 0 0] 29)
  have o4 := (o3.step (by assumption)).alloc (.cells #[.int .i64 0, .bool false, .int .u32 0, .int .u32 0, .slice none 0 0, .slice none 0 0, .slice none 0 0, .int .i64 0, .slice none 0 0] 29)
  have oX := Own.new w4 29 #[.int .i64 0, .bool false, .int .u32 0, .int .u32 0, .slice none 0 0, .slice none 0 0, .slice none 0 0, .int .i64 0, .slice none 0 0]
  have c5 := o4.cell (i := 5) rfl
  have oXt := oX.typed
  clear o3 hb6 hb66
  go_wp2_with fail
  go_quiet ((go_at_call 17; exact (hG.out _).plain _))
  have o5 := o4.drewN nq
  have oX5 := oX.drewN nq
  have hb8 := bl_drewN hb7 nq
  go_wp2_with fail
  refine (alive09_any _ (HT.out.below hb8)).mono ?_
  rintro e w6 ⟨rfl, hb9⟩
  have hb10 := bl_trans hb8 hb9
  go_wp2
  go_ret
  exact ⟨rfl, hb10⟩
set_option maxRecDepth 100000 in
theorem ckinds_all (a : At) (kd : Int) (hkd : (Lit.int .u8 kd).wf = true) (w : World) (ht : Tens w) (hin : AtIn w a) :
    Calls Tryd.prog 4 #[.agg (atc a), .int .u8 kd] w fun e w' => e = .returned (.bool true) ∧ Below w.heap.size w w' := by
  obtain ⟨_, _, _, _, ⟨i1, i2, ss, i3⟩, ⟨i4, i5, ls, i6, i7⟩, _, _⟩ := hin
  have hk := wf_u8 hkd
  by_cases h : (small9 a ss && cmOk a) = false
  · exact ckinds_early a kd ss w ht i3 (by omega) (by omega) h
  · simp only [Bool.not_eq_false, Bool.and_eq_true] at h
    have hn : a.n2 ≤ 200 := by
      have := h.1
      unfold small9 at this
      simp only [Bool.and_eq_true, decide_eq_true_eq] at this
      exact this.2.1
    have hn0 : a.n2 ≠ 0 := by
      have := h.2
      unfold cmOk at this
      simp only [Bool.and_eq_true, decide_eq_true_eq] at this
      exact this.1.2.1
    have hR : U32L ls := i6
    have h4 : kd.tmod 4 = 0 ∨ kd.tmod 4 = 1 ∨ kd.tmod 4 = 2 ∨ kd.tmod 4 = 3 := by
      rw [Int.tmod_eq_emod_of_nonneg hk.1]
      omega
    rcases h4 with h4 | h4 | h4 | h4
    · exact ckinds_8 a kd ss ls w ht i3 (by omega) i7 hR h.1 h.2 hn hn0 hk.1 (by omega) h4
    · exact ckinds_10 a kd ss ls w ht i3 (by omega) i7 hR h.1 h.2 hn hn0 hk.1 (by omega) h4
    · by_cases hw : a.n2 % 2 = 0
      · exact ckinds_16 a kd ss ls w ht i3 (by omega) i7 hR h.1 h.2 hn hn0 hk.1 (by omega) h4 hw
      · exact ckinds_16n a kd ss ls w ht i3 (by omega) i7 hR h.1 h.2 hn hn0 hk.1 (by omega) h4 hw
    · by_cases hw : a.n2 % 3 = 0
      · exact ckinds_32 a kd ss ls w ht i3 (by omega) i7 hR h.1 h.2 hn hn0 hk.1 (by omega) h4 hw
      · exact ckinds_32n a kd ss ls w ht i3 (by omega) i7 hR h.1 h.2 hn hn0 hk.1 (by omega) h4 hw
end Go.Proofs.YtngeldgohijheaaDoor

/- peerageref09.form -/
namespace Go.Proofs.YtngeldgohijheaaDoor
open Go.RowKit Go.Sort

/-- The first numbers, with colons. -/
def jCol (D : List Int) (k : Nat) : ByteArray := colB (D.take k)
theorem jCol_zero (D : List Int) : jCol D 0 = ⟨#[]⟩ := rfl
theorem jCol_one {D : List Int} (h : 0 < D.length) : jCol D 1 = ⟨#[]⟩ ++ decB (nth D 0) := by
  unfold jCol colB joinB
  rw [take_nth h]
  apply ByteArray.ext
  simp [Lib.join_one]
theorem jCol_step {D : List Int} {k : Nat} (h : k < D.length) (h1 : 1 ≤ k) : jCol D (k + 1) = jCol D k ++ ⟨#[58]⟩ ++ decB (nth D k) := by
  unfold jCol colB joinB
  rw [take_nth h, List.map_append, List.map_append]
  have hne : ((D.take k).map decB).map (fun x : ByteArray => x.data.toList) ≠ [] := by
    intro e
    have h9 := congrArg List.length e
    simp only [List.length_map, List.length_take, List.length_nil] at h9
    omega
  rw [show ([nth D k].map decB).map (fun x : ByteArray => x.data.toList) = [(decB (nth D k)).data.toList] from rfl, lib_join_snoc _ _ _ hne]
  apply ByteArray.ext
  simp
theorem jCol_size {D : List Int} (hR : U32L D) {k : Nat} (hk : k ≤ 3) : (jCol D k).size ≤ 60 :=
  colB_size (by rw [List.length_take]; omega) (fun x hx => hR x (List.mem_of_mem_take hx))
def formL (k : Int) (L : List Int) : ByteArray := if k = 8 then colB [nth L 0 / 65536, nth L 0 % 65536] else if k = 10 then adrB (nth L 0) else colB L
theorem colB_two (a b : Int) : colB [a, b] = decB a ++ ⟨#[58]⟩ ++ decB b := by
  have h1 := jCol_step (D := [a, b]) (k := 1) (by simp) (Nat.le_refl _)
  have h2 := jCol_one (D := [a, b]) (by simp)
  have h3 : jCol [a, b] 2 = colB [a, b] := rfl
  rw [← h3, h1, h2]
  apply ByteArray.ext
  simp [nth]
set_option maxRecDepth 100000 in
set_option maxHeartbeats 3200000 in
theorem rform_any (k : Int) (A : Option Addr) (g c : Nat) (L : List Int) (w : World) (hU : U32s w w.heap.size A g L) (hR : U32L L) (hg : 1 ≤ g) (hg3 : g ≤ 3) (hgc : g ≤ c) :
    Calls Tryd.prog 52 #[.int .i64 k, .slice A g c] w fun e w' => e = .returned (.string (formL k L)) ∧ Below w.heap.size w w' := by
  have HU := Lib.hid hU
  have HL := Lib.hid hU.1
  have HR := Lib.hid hR
  have h0 := hR (nth L 0) (nth_mem (by rw [← hU.1]; omega))
  obtain ⟨b, o, rfl, hb, hc0⟩ := hU.at_ (k := 0) (by omega)
  rw [Nat.add_zero] at hc0
  clear hU hR
  by_cases h8 : k = 8
  · subst h8
    have hF := Lib.hid (show formL 8 L = decB (nth L 0 / 65536) ++ ⟨#[58]⟩ ++ decB (nth L 0 % 65536) by unfold formL; rw [if_pos rfl, colB_two])
    generalize formL 8 L = V at *
    generalize nth L 0 = x at *
    have hq : x.tdiv 65536 = x / 65536 := Int.tdiv_eq_ediv_of_nonneg h0.1
    have hm : x.tmod 65536 = x % 65536 := Int.tmod_eq_emod_of_nonneg h0.1
    have k1 : IntKind.i64.wrap (x / 65536) = x / 65536 := IntWalk.i64_in _ (by omega)
    have k2 : IntKind.i64.wrap (x % 65536) = x % 65536 := IntWalk.i64_in _ (by omega)
    have s1 := decB_size (n := x / 65536) (by omega)
    have s2 := decB_size (n := x % 65536) (by omega)
    have n1 : ¬ 9223372036854775807 < (decB (x / 65536)).size + 1 := by omega
    have n2 : ¬ 9223372036854775807 < (decB (x / 65536)).size + 1 + (decB (x % 65536)).size := by omega
    have a1 := Lib.hid (rg_of (w := w) (fun W _ => rdecimal_any (x / 65536) (by omega) (by omega) W))
    have a2 := Lib.hid (rg_of (w := w) (fun W _ => rdecimal_any (x % 65536) (by omega) (by omega) W))
    have q0 := cell_regrown hc0
    go_enter Tryd.func52, Tryd.ntmps52
    go_wp2_with fail
    refine wp_region_quiet_below (by kernel_rfl) (by kernel_rfl) ?_
    repeat (first
      | go_big_quiet_skip
      | go_big_quiet_step (with_reducible first | exact a1.out _ _ | exact a2.out _ _))
    refine wpQuiet_nil ?_
    first | rintro _ ⟨⟨dq, osq⟩, rfl⟩ | rintro ⟨dq, osq⟩
    have hbr := below_regrown w dq osq
    generalize grow (redrawn w dq) osq = w4 at *
    go_wp2
    go_ret
    exact ⟨by rw [hF.out]; rfl, hbr⟩
  have q8 : (k == 8) = false := by simpa using h8
  by_cases h10 : k = 10
  · subst h10
    have hF := Lib.hid (show formL 10 L = adrB (nth L 0) by unfold formL; rw [if_neg (by decide), if_pos rfl])
    generalize formL 10 L = V at *
    generalize nth L 0 = x at *
    have hA := Lib.hid (rbadr_any x h0.1 h0.2 w)
    go_enter Tryd.func52, Tryd.ntmps52
    go_wp2_with fail
    refine hA.out.mono ?_
    rintro e w2 ⟨rfl, hb2⟩
    go_wp2
    go_ret
    exact ⟨by rw [hF.out]; rfl, hb2⟩
  have q10 : (k == 10) = false := by simpa using h10
  have hF := Lib.hid (show formL k L = jCol L g by unfold formL jCol; rw [if_neg h8, if_neg h10, List.take_of_length_le (by rw [← HL.out]; exact Nat.le_refl _)])
  generalize formL k L = V at *
  clear h8 h10 h0 hc0
  go_enter Tryd.func52, Tryd.ntmps52
  go_wp2
  go_loopw [5, 6] (fun s i wr => ∃ j : Nat, j ≤ g ∧ i = .int .i64 j ∧ s = .string (jCol L j) ∧ Below w.heap.size w wr) (fun _ i _ => g - (intOf i).toNat)
  case atStart => exact ⟨0, by omega, rfl, by rw [jCol_zero], bl_refl w⟩
  case round =>
    obtain ⟨j, hj, rfl, rfl, hbr⟩ := hrel
    by_cases hlt : j < g
    · obtain ⟨b', o', e', hb', hc2⟩ := (HU.out.below hbr).at_ (k := j) hlt
      cases e'
      have hj1 : j < L.length := by rw [← HL.out]; exact hlt
      have hxr := HR.out _ (nth_mem hj1)
      have hsz := jCol_size HR.out (k := j) (by omega)
      have hv : IntKind.i64.wrap (nth L j) = nth L j := IntWalk.i64_in _ (by omega)
      have hdz := decB_size (n := nth L j) (by omega)
      have HLj := Lib.hid hj1
      clear hj1
      rcases Nat.eq_zero_or_pos j with hk | hk
      · have hS := Lib.hid (show jCol L (j + 1) = jCol L j ++ decB (nth L j) by subst hk; exact jCol_one HLj.out)
        have d2 : ¬ 0 < j := by omega
        generalize jCol L j = J at *
        generalize nth L j = x at *
        have n1 : ¬ 9223372036854775807 < J.size + (decB x).size := by omega
        have hkk := Lib.hid hk
        clear hk
        go_wp2_with fail
        refine (rdecimal_any x hxr.1 (by omega) _).mono ?_
        rintro e w2 ⟨rfl, hb2⟩
        go_wp2
        go_roundw
        case rel => exact ⟨j + 1, by omega, by go_num, by rw [hS.out], bl_trans hbr hb2⟩
        case measure => simp [intOf]; omega
      · have hS := Lib.hid (jCol_step (D := L) (k := j) HLj.out hk)
        generalize jCol L j = J at *
        generalize nth L j = x at *
        have n1 : ¬ 9223372036854775807 < J.size + 1 := by omega
        have n2 : ¬ 9223372036854775807 < J.size + 1 + (decB x).size := by omega
        go_wp2_with fail
        refine (rdecimal_any x hxr.1 (by omega) _).mono ?_
        rintro e w2 ⟨rfl, hb2⟩
        go_wp2
        go_roundw
        case rel => exact ⟨j + 1, by omega, by go_num, by rw [hS.out], bl_trans hbr hb2⟩
        case measure => simp [intOf]; omega
    · obtain rfl : j = g := by omega
      go_wp2
      go_ret
      exact ⟨by rw [hF.out]; rfl, hbr⟩
end Go.Proofs.YtngeldgohijheaaDoor

/- peerageref09.Text -/
namespace Go.Proofs.YtngeldgohijheaaDoor
open Go.RowKit Go.Sort

theorem formB_L {g : Nat} {ls : List Int} {h : U32L ls} {q k : Nat} {kk : Int} (hk : cmG kk = g) (hg : g = 1 ∨ g = 2 ∨ g = 3) (_hq : k = q * g) (hl : k + g ≤ ls.length) : formB kk (tupAt g ls h q) = formL kk ((ls.drop k).take g) := by
  subst _hq
  unfold formB formL
  rw [hk]
  rcases hg with rfl | rfl | rfl
  · rw [drop_nth (by omega)]
    simp [tupAt, nth]
  · rw [drop_nth (by omega), drop_nth (by omega)]
    simp [tupAt, nth]
  · rw [drop_nth (by omega), drop_nth (by omega), drop_nth (by omega)]
    simp [tupAt, nth]
theorem cmTxt_snoc (k : Int) (ts : List Tup) (t : Tup) : cmTxt k (ts ++ [t]) = cmTxt k ts ++ ⟨#[32]⟩ ++ formB k t := by
  unfold cmTxt joinB
  rw [List.map_append, ← List.cons_append, List.map_append]
  rw [show ([t].map (formB k)).map (fun x : ByteArray => x.data.toList) = [(formB k t).data.toList] from rfl, lib_join_snoc _ _ _ (by simp)]
  apply ByteArray.ext
  simp
theorem cmTxt_nil (k : Int) : cmTxt k [] = cmNm k := by
  unfold cmTxt joinB
  apply ByteArray.ext
  simp [Lib.join_one]
theorem cmTxt_size (k : Int) : ∀ (ts : List Tup), (cmTxt k ts).size ≤ 100 * (ts.length + 1) := by
  intro ts
  unfold cmTxt
  have h := joinB_size (k := 80) (s := 1) (xs := cmNm k :: ts.map (formB k)) (sep := [32]) (by
    intro x hx
    rcases List.mem_cons.1 hx with rfl | hx
    · have := cmNm_size k; omega
    · obtain ⟨t, _, rfl⟩ := List.mem_map.1 hx
      exact formB_size k t) (by simp)
  simp only [List.length_cons, List.length_map] at h
  omega
set_option maxRecDepth 100000 in
theorem rcmtext_no (a : At) (w : World) (hm : a.n2 ≤ maxLen) (hv : cmOk a = false) :
    Calls Tryd.prog 22 #[.agg (atc a)] w fun e w' => e = .returned (.string ⟨#[]⟩) ∧ Below w.heap.size w w' := by
  have hV := Lib.hid (fun W => rcmvalid_any a W hm)
  rw [hv] at hV
  clear hv hm
  obtain ⟨k, p, N, M, A1, n1, c1, A2, n2, c2, A3, n3, c3, f, A4, n4, c4⟩ := a
  unfold atc at *
  dsimp only at *
  have hb0 := bl_alloc (bl_refl w) (.cells #[.int .i64 k, .bool p, .int .u32 N, .int .u32 M, .slice A1 n1 c1, .slice A2 n2 c2, .slice A3 n3 c3, .int .i64 f, .slice A4 n4 c4] 29)
  go_enter Tryd.func22, Tryd.ntmps22
  go_wp2_with fail
  refine (hV.out _).mono ?_
  rintro e w1 ⟨rfl, hb1⟩
  go_wp2
  go_ret
  exact ⟨rfl, bl_trans hb0 hb1⟩
set_option maxRecDepth 100000 in
set_option maxHeartbeats 6400000 in
theorem rcmtext_yes (a : At) (g m : Nat) (ls : List Int) (h : CmIn a g m ls) (hv : cmOk a = true) (w : World) (hU : U32s w w.heap.size a.A2 a.n2 ls) (hm : m ≤ 1000) :
    Calls Tryd.prog 22 #[.agg (atc a)] w fun e w' => e = .returned (.string (cmTxt a.k (tups g ls h.hR m))) ∧ Below w.heap.size w w' := by
  have hV := Lib.hid (fun W => rcmvalid_any a W (Nat.le_trans h.hnc h.hcm))
  rw [hv] at hV
  have hN := Lib.hid (fun W => rcmname_any a.k W)
  have hG := Lib.hid (fun W => rcmgroup_any a.k W)
  rw [h.hg] at hG
  have HU := Lib.hid hU
  have HL := Lib.hid hU.1
  have HR := Lib.hid h.hR
  have HM := Lib.hid h.hm
  have hg1 := h.hg1
  have HG := Lib.hid hg1
  have hg0 : 0 < g := by omega
  have hg3 : g ≤ 3 := by omega
  have hn3 : a.n2 ≤ 3000 := by have h1 := Nat.mul_le_mul hm hg3; have h2 := h.hm; omega
  have hnc := h.hnc
  have hcm := h.hcm
  unfold maxLen at hcm
  have hFL := Lib.hid (fun (q p : Nat) (hp : p = q * g) (hl : p + g ≤ ls.length) => formB_L (h := h.hR) h.hg h.hg1 hp hl)
  have hSn := Lib.hid (fun q => (congrArg (cmTxt a.k) (tups_succ g ls h.hR q)).trans (cmTxt_snoc a.k _ _))
  have hSz := Lib.hid (fun q => (show (cmTxt a.k (tups g ls h.hR q)).size ≤ 100 * (q + 1) by have := cmTxt_size a.k (tups g ls h.hR q); rwa [tups_length] at this))
  have h00 := Lib.hid (show cmTxt a.k (tups g ls h.hR 0) = cmNm a.k from cmTxt_nil a.k)
  generalize tups g ls h.hR = tsf at *
  generalize tupAt g ls h.hR = tat at *
  generalize cmNm a.k = nm at *
  obtain ⟨k, p0, N, M, A1, n1, c1, A2, n2, c2, A3, n3, c3, f, A4, n4, c4⟩ := a
  unfold atc at *
  dsimp only at *
  have hb0 := bl_alloc (bl_refl w) (.cells #[.int .i64 k, .bool p0, .int .u32 N, .int .u32 M, .slice A1 n1 c1, .slice A2 n2 c2, .slice A3 n3 c3, .int .i64 f, .slice A4 n4 c4] 29)
  have o0 := Own.new w 29 #[.int .i64 k, .bool p0, .int .u32 N, .int .u32 M, .slice A1 n1 c1, .slice A2 n2 c2, .slice A3 n3 c3, .int .i64 f, .slice A4 n4 c4]
  clear hU h hv hg1
  go_enter Tryd.func22, Tryd.ntmps22
  go_wp2_with fail
  refine (hV.out _).mono ?_
  rintro e w1 ⟨rfl, hb1⟩
  have o1 := o0.step hb1
  have hb2 := bl_trans hb0 hb1
  have e0 := o1.cell (i := 0) rfl
  have e5 := o1.cell (i := 5) rfl
  go_wp2_with (first
    | (go_at_call 51; refine (hN.out _).mono ?_; rintro e w' ⟨rfl, rfl⟩)
    | (go_at_call 17; refine (hG.out _).mono ?_; rintro e w' ⟨rfl, rfl⟩))
  go_loopw [3, 5] (fun s i wr => ∃ q p : Nat, Hid (p = q * g) ∧ q ≤ m ∧ p ≤ n2 ∧ i = .int .i64 p ∧ s = .string (cmTxt k (tsf q)) ∧ Own wr w.heap.size 29 #[.int .i64 k, .bool p0, .int .u32 N, .int .u32 M, .slice A1 n1 c1, .slice A2 n2 c2, .slice A3 n3 c3, .int .i64 f, .slice A4 n4 c4] ∧ Below w.heap.size w wr) (fun _ i _ => n2 - (intOf i).toNat)
  case atStart => exact ⟨0, 0, Lib.hid (by simp), Nat.zero_le _, Nat.zero_le _, rfl, by rw [h00.out], o1, hb2⟩
  case round =>
    obtain ⟨q, p, HP, hq, hp, rfl, rfl, oq, hbq⟩ := hrel
    clear o1 o0 hb0 hb1 hb2 e0 e5
    have e0 := oq.cell (i := 0) rfl
    have e5 := oq.cell (i := 5) rfl
    have k1 : IntKind.i64.wrap ((p : Int) + (g : Int)) = (p : Int) + (g : Int) := IntWalk.i64_in _ (by omega)
    by_cases hlt : q < m
    · have hpg : p + g ≤ n2 := by
        have h1 := HP.out
        have h2 := HM.out
        have h3 := Nat.mul_le_mul_right g (show q + 1 ≤ m from hlt)
        rw [Nat.succ_mul] at h3
        omega
      have hplt : (p : Int) < (n2 : Int) := by omega
      have hplt2 : p < n2 := by omega
      obtain ⟨b, o, rfl, hbB, _⟩ := (HU.out.below hbq).at_ (k := p) hplt2
      have hsrc := u32s_part (p := p) (g := g) (HU.out.below hbq)
      have hSt := Lib.hid (hSn.out q)
      have hfl := hFL.out q p HP.out (by rw [← HL.out]; exact hpg)
      rw [hfl] at hSt
      have hLr : U32L ((ls.drop p).take g) := fun x hx => HR.out x (List.mem_of_mem_drop (List.mem_of_mem_take hx))
      have hLl : g = ((ls.drop p).take g).length := by rw [List.length_take, List.length_drop, ← HL.out]; omega
      have hzf := formB_size k (tat q)
      rw [hfl] at hzf
      generalize (ls.drop p).take g = L at *
      have hUL : U32s wr wr.heap.size (some ⟨b, o + p, none⟩) g L := ⟨hLl, .inr ⟨b, o + p, rfl, by have := hbq.size; omega, fun i v hv => by have := hsrc i v hv; rwa [Addr.add_lit] at this⟩⟩
      have hFm := Lib.hid (rg_of (w := wr) (fun W hW => rform_any k (some ⟨b, o + p, none⟩) g (c2 - p) L W ((hUL.below hW).more hW.size) hLr (by omega) hg3 (by omega)))
      have hz := hSz.out q
      generalize cmTxt k (tsf q) = J at *
      generalize formL k L = F at *
      have hq1000 : q ≤ 1000 := by omega
      have s1 : ¬ 9223372036854775807 < J.size + 1 := by omega
      have s2 : ¬ 9223372036854775807 < J.size + 1 + F.size := by omega
      have i1 : (0 : Int) ≤ (p : Int) := by omega
      have i2 : (p : Int) ≤ (p : Int) + (g : Int) := by omega
      have i3 : (p : Int) + (g : Int) ≤ (c2 : Int) := by omega
      have i4 : p + g ≤ c2 := by omega
      have i5 : ¬ c2 = p := by omega
      have i6 : ((p : Int) + (g : Int)).toNat - p = g := by omega
      have q0 := cell_regrown e0
      have q5 := cell_regrown e5
      clear hsrc hUL hfl hLr hLl
      go_wp2_with fail
      refine wp_region_quiet_below (by kernel_rfl) (by kernel_rfl) ?_
      repeat (first
        | go_big_quiet_skip
        | go_big_quiet_step (with_reducible first | exact hFm.out _ _))
      refine wpQuiet_nil ?_
      first | rintro _ ⟨⟨dq, osq⟩, rfl⟩ | rintro ⟨dq, osq⟩
      have hb3 := below_regrown wr dq osq
      have oq3 := oq.step hb3
      have hbq3 := bl_trans hbq hb3
      generalize grow (redrawn wr dq) osq = w4 at *
      go_wp2
      go_roundw
      case rel => exact ⟨q + 1, p + g, Lib.hid (by rw [Nat.succ_mul, HP.out]), by omega, hpg, by go_num, by rw [hSt.out], oq3, hbq3⟩
      case measure => simp [intOf]; omega
    · obtain rfl : q = m := by omega
      have hpn2 : ¬ (p < n2) := by have := HP.out; have := HM.out; omega
      go_wp2
      go_ret
      exact ⟨rfl, hbq⟩
end Go.Proofs.YtngeldgohijheaaDoor

/- CommunityForms: the walk -/
namespace Go.Proofs.YtngeldgohijheaaDoor
open Go.RowKit Go.Sort

set_option maxRecDepth 100000 in
theorem rg_pure9 {w : World} {v : Value} {f : FuncId} {args : Array Value} (h : ∀ W, Calls Tryd.prog f args W fun e w' => e = .returned v ∧ W = w') (d : Nat) (os : Array Obj) :
    Calls Tryd.prog f args (grow (redrawn w d) os) fun e w'' => e = .returned v ∧ ∃ p : Regrown, w'' = grow (redrawn w p.d) p.os :=
  rg_of (w := w) (fun W _ => (h W).mono (fun e w' q => ⟨q.1, by rw [← q.2]; exact bl_refl W⟩)) d os
set_option maxRecDepth 100000 in
theorem bytesEq_rg9 {w : World} (A A' : Option Addr) (n n' c c' : Nat) (xs : List Int) (hx : Bytes w w.heap.size A n xs) (hy : Bytes w w.heap.size A' n' xs) (hn : n ≤ 1000000000) (hn' : n' ≤ 1000000000) (d : Nat) (os : Array Obj) :
    Calls Tryd.prog 14 #[.slice A n c, .slice A' n' c'] (grow (redrawn w d) os) fun e w'' => e = .returned (.bool true) ∧ ∃ p : Regrown, w'' = grow (redrawn w p.d) p.os :=
  rg_of (w := w) (fun W hW => (bytesEq_any A A' n n' c c' xs xs W w.heap.size w.heap.size (hx.below hW) (hy.below hW) hn hn').mono (fun e w' h => ⟨by rw [h.1]; simp, by obtain ⟨m, rfl⟩ := h.2; exact bl_drewN (bl_refl W) m⟩)) d os
set_option maxRecDepth 100000 in
theorem cforms_early (a : At) (ss : List Sg) (w : World) (ht : Tens w) (hs : Segs w w.heap.size a.A1 a.n1 ss) (hm : a.n1 ≤ maxLen) (h : small9 a ss = false) :
    Calls Tryd.prog 5 #[.agg (atc a)] w fun e w' => e = .returned (.bool true) ∧ Below w.heap.size w w' := by
  have hSm := Lib.hid (fun (W : World) (hb : Below w.heap.size w W) => small09_any a ss W ((hs.below hb).more hb.size) hm)
  rw [h] at hSm
  have HT := Lib.hid ht
  clear hs ht h
  obtain ⟨k, p, N, M, A1, n1, c1, A2, n2, c2, A3, n3, c3, f, A4, n4, c4⟩ := a
  unfold atc at *
  dsimp only at *
  have hb0 := bl_alloc (bl_refl w) (.cells #[.int .i64 k, .bool p, .int .u32 N, .int .u32 M, .slice A1 n1 c1, .slice A2 n2 c2, .slice A3 n3 c3, .int .i64 f, .slice A4 n4 c4] 29)
  go_enter Tryd.func5, Tryd.ntmps5
  go_wp2_with fail
  refine (hSm.out _ hb0).mono ?_
  rintro e w1 ⟨rfl, hb1⟩
  have hb2 := bl_trans hb0 hb1
  go_wp2_with fail
  refine (alive09_any _ (HT.out.below hb2)).mono ?_
  rintro e w3 ⟨rfl, hb3⟩
  go_wp2
  go_ret
  exact ⟨rfl, bl_trans hb2 hb3⟩
set_option maxRecDepth 100000 in
set_option maxHeartbeats 3200000 in
theorem cforms_no (a : At) (ss : List Sg) (w : World) (ht : Tens w) (hs : Segs w w.heap.size a.A1 a.n1 ss) (hm : a.n1 ≤ maxLen) (h : small9 a ss = true) (hm2 : a.n2 ≤ maxLen) (hv : cmOk a = false) :
    Calls Tryd.prog 5 #[.agg (atc a)] w fun e w' => e = .returned (.bool true) ∧ Below w.heap.size w w' := by
  have hSm := Lib.hid (fun (W : World) (hb : Below w.heap.size w W) => small09_any a ss W ((hs.below hb).more hb.size) hm)
  rw [h] at hSm
  have hV := Lib.hid (fun W => cmvalid_any a W hm2)
  have hRV := Lib.hid (fun W => rcmvalid_any a W hm2)
  rw [hv] at hV hRV
  have hT := Lib.hid (fun W => cmtext_no a W hm2 hv)
  have hRT := Lib.hid (fun W => rcmtext_no a W hm2 hv)
  have hH := Lib.hid (cmgroup_any a.k)
  have hRH := Lib.hid (rcmgroup_any a.k)
  have hB := Lib.hid (fun W => cmbytes_no a W hm2 hv)
  have hRB := Lib.hid (fun W => rcmbytes_no a W hm2 hv)
  generalize cmG a.k = Q at *
  clear hv hs h
  obtain ⟨k, p, N, M, A1, n1, c1, A2, n2, c2, A3, n3, c3, f, A4, n4, c4⟩ := a
  unfold atc at *
  dsimp only at *
  have hb0 := bl_alloc (bl_refl w) (.cells #[.int .i64 k, .bool p, .int .u32 N, .int .u32 M, .slice A1 n1 c1, .slice A2 n2 c2, .slice A3 n3 c3, .int .i64 f, .slice A4 n4 c4] 29)
  have o0 := Own.new w 29 #[.int .i64 k, .bool p, .int .u32 N, .int .u32 M, .slice A1 n1 c1, .slice A2 n2 c2, .slice A3 n3 c3, .int .i64 f, .slice A4 n4 c4]
  go_enter Tryd.func5, Tryd.ntmps5
  go_wp2_with fail
  refine (hSm.out _ hb0).mono ?_
  rintro e w1 ⟨rfl, hb1⟩
  have o1 := o0.step hb1
  have hb2 := bl_trans hb0 hb1
  clear hb0 hb1 o0
  obtain ⟨e0, e1, e2, e3, e4, e5, e6, e7, e8⟩ := at_cells o1
  go_wp2_with fail
  refine (hB.out _).mono ?_
  rintro e w2 ⟨rfl, hb3⟩
  have o2 := o1.step hb3
  have hb4 := bl_trans hb2 hb3
  clear hb2 hb3 o1 e0 e1 e2 e3 e4 e5 e6 e7 e8
  obtain ⟨e0, e1, e2, e3, e4, e5, e6, e7, e8⟩ := at_cells o2
  go_wp2_with fail
  refine (hRB.out _).mono ?_
  rintro e w3 ⟨rfl, hb5⟩
  have o3 := o2.step hb5
  have hb6 := bl_trans hb4 hb5
  clear hb4 hb5 o2 e0 e1 e2 e3 e4 e5 e6 e7 e8
  go_wp2_with fail
  have a3 := Lib.hid (bytesEq_rg9 (w := w3) none none 0 0 0 0 [] (Bytes.nil _ _ _) (Bytes.nil _ _ _) (by omega) (by omega))
  have a1 := Lib.hid (rg_of (w := w3) (fun W _ => hV.out W))
  have a2 := Lib.hid (rg_of (w := w3) (fun W _ => hRV.out W))
  have a4 := Lib.hid (rg_of (w := w3) (fun W _ => hT.out W))
  have a5 := Lib.hid (rg_of (w := w3) (fun W _ => hRT.out W))
  have a6 := Lib.hid (rg_pure9 (w := w3) hH.out)
  have a7 := Lib.hid (rg_pure9 (w := w3) hRH.out)
  have q0 := cell_regrown (at_cells o3).1
  refine wp_region_quiet_below (by kernel_rfl) (by kernel_rfl) ?_
  repeat (first
    | go_big_quiet_skip
    | (refine wpQuiet_load_row (by rfl) 29 _ rfl w.heap.size rfl 29 #[.int .i64 k, .bool p, .int .u32 N, .int .u32 M, .slice A1 n1 c1, .slice A2 n2 c2, .slice A3 n3 c3, .int .i64 f, .slice A4 n4 c4] (.struct (Tryd.prog.fieldsOf 29)) o3.rg (by kernel_rfl) rfl (at_info9 _ _ _ _ _ _ _ _ _) ?_; go_simp)
    | go_big_quiet_step (with_reducible first | exact a1.out _ _ | exact a2.out _ _ | exact a3.out _ _ | exact a4.out _ _ | exact a5.out _ _ | exact a6.out _ _ | exact a7.out _ _))
  refine wpQuiet_nil ?_
  first | rintro _ ⟨⟨dq, osq⟩, rfl⟩ | rintro ⟨dq, osq⟩
  have hb7 := bl_trans hb6 (below_regrown w3 dq osq)
  generalize grow (redrawn w3 dq) osq = w4 at *
  clear a1 a2 a3 a4 a5 a6 a7 q0 o3 hb6
  go_wp2_with fail
  refine (alive09_any _ (ht.below hb7)).mono ?_
  rintro e w5 ⟨rfl, hb8⟩
  go_wp2
  go_ret
  exact ⟨rfl, bl_trans hb7 hb8⟩
set_option maxRecDepth 100000 in
set_option maxHeartbeats 6400000 in
theorem cforms_yes (a : At) (ss : List Sg) (ls : List Int) (w : World) (ht : Tens w) (hs : Segs w w.heap.size a.A1 a.n1 ss) (hm : a.n1 ≤ maxLen) (h : small9 a ss = true) (hU : U32s w w.heap.size a.A2 a.n2 ls) (hR : U32L ls) (hnc : a.n2 ≤ a.c2) (hcm : a.c2 ≤ maxLen) (hn : a.n2 ≤ 200) (hv : cmOk a = true) :
    Calls Tryd.prog 5 #[.agg (atc a)] w fun e w' => e = .returned (.bool true) ∧ Below w.heap.size w w' := by
  have hSm := Lib.hid (fun (W : World) (hb : Below w.heap.size w W) => small09_any a ss W ((hs.below hb).more hb.size) hm)
  rw [h] at hSm
  have hm2 : a.n2 ≤ maxLen := Nat.le_trans hnc hcm
  have hV := Lib.hid (fun W => cmvalid_any a W hm2)
  have hRV := Lib.hid (fun W => rcmvalid_any a W hm2)
  rw [hv] at hV hRV
  have hI := cmOk_in hv hR hnc hcm hU.1
  have hdv : a.n2 / cmG a.k ≤ 1000 := Nat.le_trans (Nat.div_le_self _ _) (by omega)
  have hT := Lib.hid (fun (W : World) (hb : Below w.heap.size w W) => cmtext_yes a _ _ ls hI hv W (ht.below hb) ((hU.below hb).more hb.size) hdv)
  have hRT := Lib.hid (fun (W : World) (hb : Below w.heap.size w W) => rcmtext_yes a _ _ ls hI hv W ((hU.below hb).more hb.size) hdv)
  generalize cmTxt a.k (tups (cmG a.k) ls hI.hR (a.n2 / cmG a.k)) = S at *
  have hH := Lib.hid (cmgroup_any a.k)
  have hRH := Lib.hid (rcmgroup_any a.k)
  have hB := Lib.hid (fun (W : World) (hb : Below w.heap.size w W) => cmbytes_yes a ls W ((hU.below hb).more hb.size) hR (by omega) hv)
  have hRB := Lib.hid (fun (W : World) (hb : Below w.heap.size w W) => rcmbytes_yes a ls W ((hU.below hb).more hb.size) hR (by omega) hv)
  have hln : ls.length ≤ 200 := by rw [← hU.1]; exact hn
  have hfl : (cmForm ls).length ≤ 1000 := by rw [cmForm_len]; omega
  have hrd : cmRd a.k (cmForm ls).length = true := by
    rw [cmForm_len, ← hU.1]
    have h2 := hv
    unfold cmOk at h2
    simp only [Bool.and_eq_true, decide_eq_true_eq] at h2
    unfold cmRd
    exact decide_eq_true ⟨h2.1.1, by omega, by rw [Nat.mul_mod_mul_left, h2.1.2.2]⟩
  have hRd := Lib.hid (fun (W : World) (A3 : Option Addr) (hB : Bytes W W.heap.size A3 (cmForm ls).length (cmForm ls)) => cmread_yes a.k A3 (cmForm ls).length (cmForm ls).length a.n2 (cmForm ls) W hB hrd (by rw [cmForm_len, ← hU.1]) (by omega))
  rw [hU.1, nums_form4 hR, ← hU.1] at hRd
  have hcb : cmB a = true := by
    unfold cmOk at hv
    simp only [Bool.and_eq_true] at hv
    exact hv.2
  have HU := Lib.hid hU
  have HL := Lib.hid hU.1
  have HT := Lib.hid ht
  generalize cmG a.k = Q at *
  generalize cmForm ls = bs at *
  have HCB := Lib.hid hcb
  clear hv hs h hU hI hdv hR hrd ht hcb
  obtain ⟨k, p, N, M, A1, n1, c1, A2, n2, c2, A3, n3, c3, f, A4, n4, c4⟩ := a
  have hSS := Lib.hid (fun (W : World) (A6 : Option Addr) (c6 : Nat) (h1 : U32s W W.heap.size A6 n2 ls) (h2 : U32s W W.heap.size A2 n2 ls) => rsame09_yes (atL k false A6 n2 c6) ⟨k, false, N, M, A1, n1, c1, A2, n2, c2, A3, n3, c3, f, A4, n4, c4⟩ ls W rfl rfl (cmB_atL _ _ _ _ _) HCB.out h1 h2 (by omega))
  unfold atL at hRd hSS
  unfold atc at *
  dsimp only at *
  have hb0 := bl_alloc (bl_refl w) (.cells #[.int .i64 k, .bool p, .int .u32 N, .int .u32 M, .slice A1 n1 c1, .slice A2 n2 c2, .slice A3 n3 c3, .int .i64 f, .slice A4 n4 c4] 29)
  have o0 := Own.new w 29 #[.int .i64 k, .bool p, .int .u32 N, .int .u32 M, .slice A1 n1 c1, .slice A2 n2 c2, .slice A3 n3 c3, .int .i64 f, .slice A4 n4 c4]
  go_enter Tryd.func5, Tryd.ntmps5
  go_wp2_with fail
  refine (hSm.out _ hb0).mono ?_
  rintro e w1 ⟨rfl, hb1⟩
  have o1 := o0.step hb1
  have hb2 := bl_trans hb0 hb1
  clear hb0 hb1 o0
  obtain ⟨e0, e1, e2, e3, e4, e5, e6, e7, e8⟩ := at_cells o1
  go_wp2_with fail
  refine (hB.out _ hb2).mono ?_
  rintro e w2 ⟨A, rfl, hx, hb3⟩
  have o2 := o1.step hb3
  have hb4 := bl_trans hb2 hb3
  clear hb2 hb3 o1 e0 e1 e2 e3 e4 e5 e6 e7 e8
  obtain ⟨e0, e1, e2, e3, e4, e5, e6, e7, e8⟩ := at_cells o2
  go_wp2_with fail
  refine (hRB.out _ hb4).mono ?_
  rintro e w3 ⟨B, c, rfl, hy, hb5⟩
  have o3 := o2.step hb5
  have hb6 := bl_trans hb4 hb5
  have hx3 := (hx.below hb5).more hb5.size
  clear hb4 hb5 o2 e0 e1 e2 e3 e4 e5 e6 e7 e8 hx
  go_wp2_with fail
  have a3 := Lib.hid (bytesEq_rg9 (w := w3) A B bs.length bs.length bs.length c bs hx3 hy (by omega) (by omega))
  have a1 := Lib.hid (rg_of (w := w3) (fun W _ => hV.out W))
  have a2 := Lib.hid (rg_of (w := w3) (fun W _ => hRV.out W))
  have a4 := Lib.hid (rg_of (w := w3) (fun W hW => hT.out W (bl_trans hb6 hW)))
  have a5 := Lib.hid (rg_of (w := w3) (fun W hW => hRT.out W (bl_trans hb6 hW)))
  have a6 := Lib.hid (rg_pure9 (w := w3) hH.out)
  have a7 := Lib.hid (rg_pure9 (w := w3) hRH.out)
  have q0 := cell_regrown (at_cells o3).1
  refine wp_region_quiet_below (by kernel_rfl) (by kernel_rfl) ?_
  repeat (first
    | go_big_quiet_skip
    | (refine wpQuiet_load_row (by rfl) 29 _ rfl w.heap.size rfl 29 #[.int .i64 k, .bool p, .int .u32 N, .int .u32 M, .slice A1 n1 c1, .slice A2 n2 c2, .slice A3 n3 c3, .int .i64 f, .slice A4 n4 c4] (.struct (Tryd.prog.fieldsOf 29)) o3.rg (by kernel_rfl) rfl (at_info9 _ _ _ _ _ _ _ _ _) ?_; go_simp)
    | go_big_quiet_step (with_reducible first | exact a1.out _ _ | exact a2.out _ _ | exact a3.out _ _ | exact a4.out _ _ | exact a5.out _ _ | exact a6.out _ _ | exact a7.out _ _))
  refine wpQuiet_nil ?_
  first | rintro _ ⟨⟨dq, osq⟩, rfl⟩ | rintro ⟨dq, osq⟩
  have hg := below_regrown w3 dq osq
  have hb7 := bl_trans hb6 hg
  have o4 := o3.step hg
  have hx4 := (hx3.below hg).more hg.size
  generalize grow (redrawn w3 dq) osq = w4 at *
  clear a1 a2 a3 a4 a5 a6 a7 q0 o3 hb6 hx3 hy hg
  obtain ⟨e0, e1, e2, e3, e4, e5, e6, e7, e8⟩ := at_cells o4
  go_wp2_with fail
  refine (hRd.out _ _ hx4).mono ?_
  rintro e w5 ⟨A6, c6, rfl, row6, hb8⟩
  have hlt := (o4.step hb8).lt
  have o5 := (o4.step hb8).alloc (.cells #[.int .i64 k, .bool false, .int .u32 0, .int .u32 0, .slice none 0 0, .slice A6 n2 c6, .slice none 0 0, .int .i64 0, .slice none 0 0] 29)
  have oS := (o4.step hb8).set_ 1 (.bool false)
  have hbS := (bl_trans hb7 hb8).setCell (p := ⟨w.heap.size, 1, none⟩) (Nat.le_refl _) (.bool false)
  have row7 := (row_rest row6 (Rest.setCell w5 ⟨w.heap.size, 1, none⟩ (.bool false)) (fun j hj e => (row_typed row6 hj).1.ne (o4.step hb8).typed (Ne.symm cr_types.2.2) e)).alloc (.cells #[.int .i64 k, .bool false, .int .u32 0, .int .u32 0, .slice none 0 0, .slice A6 n2 c6, .slice none 0 0, .int .i64 0, .slice none 0 0] 29)
  clear hb7 hb8 o4 e0 e1 e2 e3 e4 e5 e6 e7 e8 hx4 row6
  obtain ⟨e0, e1, e2, e3, e4, e5, e6, e7, e8⟩ := at_cells o5
  have fz := o5.frozen 1
  go_wp2_with fail
  have o6 : Own ((w5.setCell ⟨w.heap.size, 1, none⟩ (.bool false)).alloc (.cells #[.int .i64 k, .bool false, .int .u32 0, .int .u32 0, .slice none 0 0, .slice A6 n2 c6, .slice none 0 0, .int .i64 0, .slice none 0 0] 29)) w.heap.size 29 #[.int .i64 k, .bool false, .int .u32 N, .int .u32 M, .slice A1 n1 c1, .slice A2 n2 c2, .slice A3 n3 c3, .int .i64 f, .slice A4 n4 c4] := by
    have := oS.alloc (.cells #[.int .i64 k, .bool false, .int .u32 0, .int .u32 0, .slice none 0 0, .slice A6 n2 c6, .slice none 0 0, .int .i64 0, .slice none 0 0] 29)
    simpa using this
  have oY := Own.new (w5.setCell ⟨w.heap.size, 1, none⟩ (.bool false)) 29 #[.int .i64 k, .bool false, .int .u32 0, .int .u32 0, .slice none 0 0, .slice A6 n2 c6, .slice none 0 0, .int .i64 0, .slice none 0 0]
  rw [show (w5.setCell ⟨w.heap.size, 1, none⟩ (.bool false)).heap.size = w5.heap.size by simp] at oY
  have hb10 := bl_alloc hbS (.cells #[.int .i64 k, .bool false, .int .u32 0, .int .u32 0, .slice none 0 0, .slice A6 n2 c6, .slice none 0 0, .int .i64 0, .slice none 0 0] 29)
  clear e0 e1 e2 e3 e4 e5 e6 e7 e8 fz hbS o5 oS
  refine (alive09_any _ (HT.out.below hb10)).mono ?_
  rintro e w6 ⟨rfl, hb11⟩
  obtain ⟨e0, e1, e2, e3, e4, e5, e6, e7, e8⟩ := at_cells (o6.step hb11)
  obtain ⟨f0, f1, f2, f3, f4, f5, f6, f7, f8⟩ := at_cells (oY.step hb11)
  have hb12 := bl_trans hb10 hb11
  have HU6 := Lib.hid (row_u32k (own_belowG row7 hb11) HL.out)
  have HA6 := Lib.hid ((HU.out.below hb12).more hb12.size)
  clear hb10 hb11 o6 oY row7
  go_wp2_with fail
  refine (hSS.out _ _ _ HU6.out HA6.out).mono ?_
  rintro e w7 ⟨rfl, hb13⟩
  go_wp2
  go_ret
  exact ⟨rfl, bl_trans hb12 hb13⟩
set_option maxRecDepth 100000 in
theorem cforms_all (a : At) (w : World) (ht : Tens w) (hin : AtIn w a) :
    Calls Tryd.prog 5 #[.agg (atc a)] w fun e w' => e = .returned (.bool true) ∧ Below w.heap.size w w' := by
  obtain ⟨_, _, _, _, ⟨i1, i2, ss, i3⟩, ⟨i4, i5, ls, i6, i7⟩, _, _⟩ := hin
  by_cases h : small9 a ss = false
  · exact cforms_early a ss w ht i3 (by omega) h
  · have h' : small9 a ss = true := by simpa using h
    by_cases hv : cmOk a = false
    · exact cforms_no a ss w ht i3 (by omega) h' (by omega) hv
    · have hn : a.n2 ≤ 200 := by
        unfold small9 at h'
        simp only [Bool.and_eq_true, decide_eq_true_eq] at h'
        exact h'.2.1
      exact cforms_yes a ss ls w ht i3 (by omega) h' i7 i6 i4 i5 hn (by simpa using hv)
end Go.Proofs.YtngeldgohijheaaDoor

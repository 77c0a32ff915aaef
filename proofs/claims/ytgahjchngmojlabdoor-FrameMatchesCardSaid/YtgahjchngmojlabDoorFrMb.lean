/- XFrMb: XFrE, XFrF, XFrG, XFrH in one text -/
import Derived.Test.YtgahjchngmojlabDoorFrMa
import Derived.Deep.DeepCutAuto
/- frame: give, plain ways -/
namespace Go.Proofs.YtgahjchngmojlabDoor
open Go.RowKit

set_option maxRecDepth 100000 in
set_option maxHeartbeats 3200000 in
theorem give_no1 (g B n c m : Nat) (K : Option Addr) (want : Int) (a0 a1 a2 a3 a4 a5 : Bool) (fr : Int) (kept : List Int) (x : Int) (w : World) (ow : Own w g 76 (frc K n c want ⟨a0, a1, a2, a3, a4, a5⟩ 0 0 false fr)) (hr : w.ownsRow B 5 1 (.slice K n c) n (kept.map (Value.int .u8))) (hgB : g < B) (hB : B ≤ w.heap.size) (hn : n ≤ 100000) (hm : m = n + 1) (hx : x = 255) (h16 : m ≤ 16) :
    Calls Tryd.prog 29 #[.pointer (some ⟨g, 0, none⟩), .int .u8 x] w fun e w' => GvNo w g B m want ⟨a0, a1, a2, a3, a4, a5⟩ fr (kept ++ [x]) (.slice K n c) e w' := by
  have q1 : (x != 255) = false := by simpa using hx
  clear hx
  have q2 : ((m : Int) == 19) = false := by simp; omega
  have q3 : (m : Int) ≤ 16 := by omega
  have q4 : (m : Int) < 19 := by omega
  have ow1 := ow.alloc (.cells #[.slice none 0 0, .int .i64 0, .int .i64 0, .int .i64 0, .slice none 0 0, .int .i64 0] 57)
  have hr1 := own_belowG hr (bl_alloc (bl_refl w) (.cells #[.slice none 0 0, .int .i64 0, .int .i64 0, .int .i64 0, .slice none 0 0, .int .i64 0] 57))
  have oe1 := Own.new w 57 #[.slice none 0 0, .int .i64 0, .int .i64 0, .int .i64 0, .slice none 0 0, .int .i64 0]
  have R1 : Rest w (w.alloc (.cells #[.slice none 0 0, .int .i64 0, .int .i64 0, .int .i64 0, .slice none 0 0, .int .i64 0] 57)) (Pg g (.slice K n c)) := Rest.of_below (bl_alloc (bl_refl w) _) _
  have hlt := ow.lt
  have HP := Lib.hid (fput_any g B n c K want ⟨a0, a1, a2, a3, a4, a5⟩ 0 0 false fr kept x _ ow1 hr1 hgB (by simp; omega) hn)
  have HRT := Lib.hid (fun i hi => (row_typed hr1 (j := i) hi))
  have HM := Lib.hid hm
  rw [← HM.out] at HP
  have hge : ¬ g = w.heap.size := by omega
  clear ow hr ow1 hr1 hm
  go_enter Tryd.func29, Tryd.ntmps29
  go_wp2_with fail
  refine HP.out.mono ?_
  rintro e w2 ⟨rfl, K2, c2, ow2, hr2, R2, hob⟩
  have HOB := Lib.hid (hob.imp (fun e => e) (fun f j hj => Nat.le_trans (show w.heap.size ≤ (w.alloc (.cells #[.slice none 0 0, .int .i64 0, .int .i64 0, .int .i64 0, .slice none 0 0, .int .i64 0] 57)).heap.size by simp) (f j hj)))
  clear hob
  have oe2 := R2.own oe1 (fun e => by
    rcases e with e | e
    · exact hge e.symm
    · exact (HRT.out _ e).1.ne oe1.typed (Ne.symm fr_types.2.2.1) rfl)
  have R3 : Rest w w2 (Pg g (.slice K n c)) := R1.trans R2 (fun i _ h => h)
  have HBk := Lib.hid (fun i hi => (HRT.out i hi).2)
  have hs2 := R3.size
  have hs3 := oe2.lt
  clear HP HRT oe1 R1 R2 HM
  go_wp2_with fail
  refine (fsize_any g m c2 K2 want ⟨a0, a1, a2, a3, a4, a5⟩ 0 0 false fr w2 ow2).mono ?_
  rintro e w' ⟨rfl, rfl⟩
  have d1 := ow2.cell (i := 1) (v := .int .i64 want) rfl
  go_wp2_with (refine wpList_store_row rfl 57 _ _ rfl w.heap.size #[.slice none 0 0, .int .i64 0, .int .i64 0, .int .i64 0, .slice none 0 0, .int .i64 0] rfl rfl 57 #[.slice none 0 0, .int .i64 0, .int .i64 0, .int .i64 0, .slice none 0 0, .int .i64 0] oe2 (ev_info _ _ _ _ _ _) rfl (ev_one _ _ _ _ _ _ _ _ _ _) ?_)
  have R9 := rest_row oe2 #[.slice none 0 0, .int .i64 0, .int .i64 0, .int .i64 0, .slice none 0 0, .int .i64 0]
  have hfin : GvNo w g B m want ⟨a0, a1, a2, a3, a4, a5⟩ fr (kept ++ [x]) (.slice K n c) _ _ := ⟨rfl, K2, c2, R9.own ow2 hge, row_rest hr2 R9 (fun j hj e => (row_typed hr2 hj).1.ne oe2.typed (Ne.symm fr_types.2.2.1) e), R3.trans R9 (fun i hi h => Or.inr (by have h2 : i = w.heap.size := h; omega)), HOB.out⟩
  exact bodyPost_ret (results_cell_tmpF (p := 4) (t := 5) (fn := Tryd.f29) rfl _ _ w.heap.size 57 #[.slice none 0 0, .int .i64 0, .int .i64 0, .int .i64 0, .slice none 0 0, .int .i64 0] _ rfl oe2.setRow ev_desc rfl (ev_info _ _ _ _ _ _)) rfl hfin
set_option maxRecDepth 100000 in
set_option maxHeartbeats 3200000 in
theorem give_no2 (g B n c m : Nat) (K : Option Addr) (want : Int) (a0 a1 a2 a3 a4 a5 : Bool) (fr : Int) (kept : List Int) (x : Int) (w : World) (ow : Own w g 76 (frc K n c want ⟨a0, a1, a2, a3, a4, a5⟩ 0 0 false fr)) (hr : w.ownsRow B 5 1 (.slice K n c) n (kept.map (Value.int .u8))) (hgB : g < B) (hB : B ≤ w.heap.size) (hn : n ≤ 100000) (hm : m = n + 1) (h16 : 16 < m) (h19 : m < 19) :
    Calls Tryd.prog 29 #[.pointer (some ⟨g, 0, none⟩), .int .u8 x] w fun e w' => GvNo w g B m want ⟨a0, a1, a2, a3, a4, a5⟩ fr (kept ++ [x]) (.slice K n c) e w' := by
  have q2 : ((m : Int) == 19) = false := by simp; omega
  have q3 : ¬ (m : Int) ≤ 16 := by omega
  have q4 : (m : Int) < 19 := by omega
  have ow1 := ow.alloc (.cells #[.slice none 0 0, .int .i64 0, .int .i64 0, .int .i64 0, .slice none 0 0, .int .i64 0] 57)
  have hr1 := own_belowG hr (bl_alloc (bl_refl w) (.cells #[.slice none 0 0, .int .i64 0, .int .i64 0, .int .i64 0, .slice none 0 0, .int .i64 0] 57))
  have oe1 := Own.new w 57 #[.slice none 0 0, .int .i64 0, .int .i64 0, .int .i64 0, .slice none 0 0, .int .i64 0]
  have R1 : Rest w (w.alloc (.cells #[.slice none 0 0, .int .i64 0, .int .i64 0, .int .i64 0, .slice none 0 0, .int .i64 0] 57)) (Pg g (.slice K n c)) := Rest.of_below (bl_alloc (bl_refl w) _) _
  have hlt := ow.lt
  have HP := Lib.hid (fput_any g B n c K want ⟨a0, a1, a2, a3, a4, a5⟩ 0 0 false fr kept x _ ow1 hr1 hgB (by simp; omega) hn)
  have HRT := Lib.hid (fun i hi => (row_typed hr1 (j := i) hi))
  have HM := Lib.hid hm
  rw [← HM.out] at HP
  have hge : ¬ g = w.heap.size := by omega
  clear ow hr ow1 hr1 hm
  go_enter Tryd.func29, Tryd.ntmps29
  go_wp2_with fail
  refine HP.out.mono ?_
  rintro e w2 ⟨rfl, K2, c2, ow2, hr2, R2, hob⟩
  have HOB := Lib.hid (hob.imp (fun e => e) (fun f j hj => Nat.le_trans (show w.heap.size ≤ (w.alloc (.cells #[.slice none 0 0, .int .i64 0, .int .i64 0, .int .i64 0, .slice none 0 0, .int .i64 0] 57)).heap.size by simp) (f j hj)))
  clear hob
  have oe2 := R2.own oe1 (fun e => by
    rcases e with e | e
    · exact hge e.symm
    · exact (HRT.out _ e).1.ne oe1.typed (Ne.symm fr_types.2.2.1) rfl)
  have R3 : Rest w w2 (Pg g (.slice K n c)) := R1.trans R2 (fun i _ h => h)
  have HBk := Lib.hid (fun i hi => (HRT.out i hi).2)
  have hs2 := R3.size
  have hs3 := oe2.lt
  clear HP HRT oe1 R1 R2 HM
  go_wp2_with fail
  refine (fsize_any g m c2 K2 want ⟨a0, a1, a2, a3, a4, a5⟩ 0 0 false fr w2 ow2).mono ?_
  rintro e w' ⟨rfl, rfl⟩
  have d1 := ow2.cell (i := 1) (v := .int .i64 want) rfl
  go_wp2_with (refine wpList_store_row rfl 57 _ _ rfl w.heap.size #[.slice none 0 0, .int .i64 0, .int .i64 0, .int .i64 0, .slice none 0 0, .int .i64 0] rfl rfl 57 #[.slice none 0 0, .int .i64 0, .int .i64 0, .int .i64 0, .slice none 0 0, .int .i64 0] oe2 (ev_info _ _ _ _ _ _) rfl (ev_one _ _ _ _ _ _ _ _ _ _) ?_)
  have R9 := rest_row oe2 #[.slice none 0 0, .int .i64 0, .int .i64 0, .int .i64 0, .slice none 0 0, .int .i64 0]
  have hfin : GvNo w g B m want ⟨a0, a1, a2, a3, a4, a5⟩ fr (kept ++ [x]) (.slice K n c) _ _ := ⟨rfl, K2, c2, R9.own ow2 hge, row_rest hr2 R9 (fun j hj e => (row_typed hr2 hj).1.ne oe2.typed (Ne.symm fr_types.2.2.1) e), R3.trans R9 (fun i hi h => Or.inr (by have h2 : i = w.heap.size := h; omega)), HOB.out⟩
  exact bodyPost_ret (results_cell_tmpF (p := 4) (t := 5) (fn := Tryd.f29) rfl _ _ w.heap.size 57 #[.slice none 0 0, .int .i64 0, .int .i64 0, .int .i64 0, .slice none 0 0, .int .i64 0] _ rfl oe2.setRow ev_desc rfl (ev_info _ _ _ _ _ _)) rfl hfin
set_option maxRecDepth 100000 in
set_option maxHeartbeats 3200000 in
theorem give_no3 (g B n c m : Nat) (K : Option Addr) (want : Int) (a0 a1 a2 a3 a4 a5 : Bool) (fr : Int) (kept : List Int) (x : Int) (w : World) (ow : Own w g 76 (frc K n c want ⟨a0, a1, a2, a3, a4, a5⟩ 0 0 false fr)) (hr : w.ownsRow B 5 1 (.slice K n c) n (kept.map (Value.int .u8))) (hgB : g < B) (hB : B ≤ w.heap.size) (hn : n ≤ 100000) (hm : m = n + 1) (h19 : 19 < m) (hw : (m : Int) < want) :
    Calls Tryd.prog 29 #[.pointer (some ⟨g, 0, none⟩), .int .u8 x] w fun e w' => GvNo w g B m want ⟨a0, a1, a2, a3, a4, a5⟩ fr (kept ++ [x]) (.slice K n c) e w' := by
  have q2 : ((m : Int) == 19) = false := by simp; omega
  have q3 : ¬ (m : Int) ≤ 16 := by omega
  have q4 : ¬ (m : Int) < 19 := by omega
  have q5 : (m : Int) < want := hw
  have ow1 := ow.alloc (.cells #[.slice none 0 0, .int .i64 0, .int .i64 0, .int .i64 0, .slice none 0 0, .int .i64 0] 57)
  have hr1 := own_belowG hr (bl_alloc (bl_refl w) (.cells #[.slice none 0 0, .int .i64 0, .int .i64 0, .int .i64 0, .slice none 0 0, .int .i64 0] 57))
  have oe1 := Own.new w 57 #[.slice none 0 0, .int .i64 0, .int .i64 0, .int .i64 0, .slice none 0 0, .int .i64 0]
  have R1 : Rest w (w.alloc (.cells #[.slice none 0 0, .int .i64 0, .int .i64 0, .int .i64 0, .slice none 0 0, .int .i64 0] 57)) (Pg g (.slice K n c)) := Rest.of_below (bl_alloc (bl_refl w) _) _
  have hlt := ow.lt
  have HP := Lib.hid (fput_any g B n c K want ⟨a0, a1, a2, a3, a4, a5⟩ 0 0 false fr kept x _ ow1 hr1 hgB (by simp; omega) hn)
  have HRT := Lib.hid (fun i hi => (row_typed hr1 (j := i) hi))
  have HM := Lib.hid hm
  rw [← HM.out] at HP
  have hge : ¬ g = w.heap.size := by omega
  clear ow hr ow1 hr1 hm
  go_enter Tryd.func29, Tryd.ntmps29
  go_wp2_with fail
  refine HP.out.mono ?_
  rintro e w2 ⟨rfl, K2, c2, ow2, hr2, R2, hob⟩
  have HOB := Lib.hid (hob.imp (fun e => e) (fun f j hj => Nat.le_trans (show w.heap.size ≤ (w.alloc (.cells #[.slice none 0 0, .int .i64 0, .int .i64 0, .int .i64 0, .slice none 0 0, .int .i64 0] 57)).heap.size by simp) (f j hj)))
  clear hob
  have oe2 := R2.own oe1 (fun e => by
    rcases e with e | e
    · exact hge e.symm
    · exact (HRT.out _ e).1.ne oe1.typed (Ne.symm fr_types.2.2.1) rfl)
  have R3 : Rest w w2 (Pg g (.slice K n c)) := R1.trans R2 (fun i _ h => h)
  have HBk := Lib.hid (fun i hi => (HRT.out i hi).2)
  have hs2 := R3.size
  have hs3 := oe2.lt
  clear HP HRT oe1 R1 R2 HM
  go_wp2_with fail
  refine (fsize_any g m c2 K2 want ⟨a0, a1, a2, a3, a4, a5⟩ 0 0 false fr w2 ow2).mono ?_
  rintro e w' ⟨rfl, rfl⟩
  have d1 := ow2.cell (i := 1) (v := .int .i64 want) rfl
  go_wp2_with (refine wpList_store_row rfl 57 _ _ rfl w.heap.size #[.slice none 0 0, .int .i64 0, .int .i64 0, .int .i64 0, .slice none 0 0, .int .i64 0] rfl rfl 57 #[.slice none 0 0, .int .i64 0, .int .i64 0, .int .i64 0, .slice none 0 0, .int .i64 0] oe2 (ev_info _ _ _ _ _ _) rfl (ev_one _ _ _ _ _ _ _ _ _ _) ?_)
  have R9 := rest_row oe2 #[.slice none 0 0, .int .i64 0, .int .i64 0, .int .i64 0, .slice none 0 0, .int .i64 0]
  have hfin : GvNo w g B m want ⟨a0, a1, a2, a3, a4, a5⟩ fr (kept ++ [x]) (.slice K n c) _ _ := ⟨rfl, K2, c2, R9.own ow2 hge, row_rest hr2 R9 (fun j hj e => (row_typed hr2 hj).1.ne oe2.typed (Ne.symm fr_types.2.2.1) e), R3.trans R9 (fun i hi h => Or.inr (by have h2 : i = w.heap.size := h; omega)), HOB.out⟩
  exact bodyPost_ret (results_cell_tmpF (p := 4) (t := 5) (fn := Tryd.f29) rfl _ _ w.heap.size 57 #[.slice none 0 0, .int .i64 0, .int .i64 0, .int .i64 0, .slice none 0 0, .int .i64 0] _ rfl oe2.setRow ev_desc rfl (ev_info _ _ _ _ _ _)) rfl hfin
set_option maxRecDepth 100000 in
set_option maxHeartbeats 3200000 in
theorem give_yes (g B n c m : Nat) (K : Option Addr) (want : Int) (a0 a1 a2 a3 a4 a5 : Bool) (fr : Int) (kept : List Int) (x : Int) (w : World) (ow : Own w g 76 (frc K n c want ⟨a0, a1, a2, a3, a4, a5⟩ 0 0 false fr)) (hr : w.ownsRow B 5 1 (.slice K n c) n (kept.map (Value.int .u8))) (hgB : g < B) (hB : B ≤ w.heap.size) (hn : n ≤ 100000) (hm : m = n + 1) (h19 : 19 < m) (hw : (m : Int) = want) (hf0 : 0 ≤ fr) (hf1 : fr ≤ 1000000000) :
    Calls Tryd.prog 29 #[.pointer (some ⟨g, 0, none⟩), .int .u8 x] w fun e w' => GvYes w g B m ⟨a0, a1, a2, a3, a4, a5⟩ fr (kept ++ [x]) (.slice K n c) e w' := by
  have q2 : ((m : Int) == 19) = false := by simp; omega
  have q3 : ¬ (m : Int) ≤ 16 := by omega
  have q4 : ¬ (m : Int) < 19 := by omega
  have q5 : ¬ (m : Int) < want := by omega
  have ow1 := ow.alloc (.cells #[.slice none 0 0, .int .i64 0, .int .i64 0, .int .i64 0, .slice none 0 0, .int .i64 0] 57)
  have hr1 := own_belowG hr (bl_alloc (bl_refl w) (.cells #[.slice none 0 0, .int .i64 0, .int .i64 0, .int .i64 0, .slice none 0 0, .int .i64 0] 57))
  have oe1 := Own.new w 57 #[.slice none 0 0, .int .i64 0, .int .i64 0, .int .i64 0, .slice none 0 0, .int .i64 0]
  have R1 : Rest w (w.alloc (.cells #[.slice none 0 0, .int .i64 0, .int .i64 0, .int .i64 0, .slice none 0 0, .int .i64 0] 57)) (Pg g (.slice K n c)) := Rest.of_below (bl_alloc (bl_refl w) _) _
  have hlt := ow.lt
  have HP := Lib.hid (fput_any g B n c K want ⟨a0, a1, a2, a3, a4, a5⟩ 0 0 false fr kept x _ ow1 hr1 hgB (by simp; omega) hn)
  have HRT := Lib.hid (fun i hi => (row_typed hr1 (j := i) hi))
  have HM := Lib.hid hm
  rw [← HM.out] at HP
  have hge : ¬ g = w.heap.size := by omega
  clear ow hr ow1 hr1 hm
  go_enter Tryd.func29, Tryd.ntmps29
  go_wp2_with fail
  refine HP.out.mono ?_
  rintro e w2 ⟨rfl, K2, c2, ow2, hr2, R2, hob⟩
  have HOB := Lib.hid (hob.imp (fun e => e) (fun f j hj => Nat.le_trans (show w.heap.size ≤ (w.alloc (.cells #[.slice none 0 0, .int .i64 0, .int .i64 0, .int .i64 0, .slice none 0 0, .int .i64 0] 57)).heap.size by simp) (f j hj)))
  clear hob
  have oe2 := R2.own oe1 (fun e => by
    rcases e with e | e
    · exact hge e.symm
    · exact (HRT.out _ e).1.ne oe1.typed (Ne.symm fr_types.2.2.1) rfl)
  have R3 : Rest w w2 (Pg g (.slice K n c)) := R1.trans R2 (fun i _ h => h)
  have HBk := Lib.hid (fun i hi => (HRT.out i hi).2)
  have hs2 := R3.size
  have hs3 := oe2.lt
  clear HP HRT oe1 R1 R2 HM
  go_wp2_with fail
  refine (fsize_any g m c2 K2 want ⟨a0, a1, a2, a3, a4, a5⟩ 0 0 false fr w2 ow2).mono ?_
  rintro e w' ⟨rfl, rfl⟩
  have d1 := ow2.cell (i := 1) (v := .int .i64 want) rfl
  have d12 := ow2.cell (i := 12) (v := .int .i64 fr) rfl
  have f12 := ow2.frozen 12
  have ow7 := own_fr ow2 (fr + 1)
  have oe7 := oe2.far (p := ⟨g, 12, none⟩) (Ne.symm hge) (.int .i64 (fr + 1))
  have R7 := R3.trans (Rest.setCell _ ⟨g, 12, none⟩ (.int .i64 (fr + 1))) (fun i _ h => Or.inl h)
  have hr7 := row_rest hr2 (Rest.setCell _ ⟨g, 12, none⟩ (.int .i64 (fr + 1))) (fun j hj e => (row_typed hr2 hj).1.ne ow2.typed (Ne.symm fr_types.1) e)
  have HD := Lib.hid (fdrain_any g m c2 K2 want ⟨a0, a1, a2, a3, a4, a5⟩ 0 0 false (fr + 1) _ ow7)
  go_wp2_with fail
  refine (aadd_any g 12 fr _ d12 f12 hf0 hf1).mono ?_
  rintro e w' ⟨rfl, rfl⟩
  go_wp2_with fail
  refine HD.out.mono ?_
  rintro e w8 ⟨rfl, ow8, R8, hs8⟩
  have oe8 := R8.own oe7 (fun e => hge (by have h : w.heap.size = g := e; exact h.symm))
  have hr8 := row_rest hr7 R8 (fun j hj e => (row_typed hr7 hj).1.ne ow7.typed (Ne.symm fr_types.1) e)
  have R9 := R7.trans R8 (fun i _ h => Or.inl h)
  clear HD ow7 oe7 hr7 R7 R8 d1 d12 f12
  go_wp2_with (refine wpList_store_row rfl 57 _ _ rfl w.heap.size #[.slice K2 m c2, .int .i64 0, .int .i64 0, .int .i64 0, .slice none 0 0, .int .i64 0] rfl rfl 57 #[.slice none 0 0, .int .i64 0, .int .i64 0, .int .i64 0, .slice none 0 0, .int .i64 0] oe8 (ev_info _ _ _ _ _ _) rfl (ev_one _ _ _ _ _ _ _ _ _ _) ?_)
  have R10 := Rest.setRowF w8 w.heap.size #[.slice K2 m c2, .int .i64 0, .int .i64 0, .int .i64 0, .slice none 0 0, .int .i64 0]
  have hfin : GvYes w g B m ⟨a0, a1, a2, a3, a4, a5⟩ fr (kept ++ [x]) (.slice K n c) _ _ := ⟨K2, c2, rfl, ⟨_, R10.own ow8 hge⟩, row_rest hr8 R10 (fun j hj e => (row_typed hr8 hj).1.ne oe8.typed (Ne.symm fr_types.2.2.1) e), R9.trans R10 (fun i hi h => Or.inr (by have h2 : i = w.heap.size := h; omega))⟩
  exact bodyPost_ret (results_cell_tmpF (p := 4) (t := 5) (fn := Tryd.f29) rfl _ _ w.heap.size 57 #[.slice K2 m c2, .int .i64 0, .int .i64 0, .int .i64 0, .slice none 0 0, .int .i64 0] _ rfl oe8.setRow ev_desc rfl (ev_info _ _ _ _ _ _)) rfl hfin
end Go.Proofs.YtgahjchngmojlabDoor

/- frame: give, the ways that parse a header -/
namespace Go.Proofs.YtgahjchngmojlabDoor
open Go.RowKit

def GvP (w : World) (g B m : Nat) (o : O6) (fr : Int) (ks : List Int) (r : HR) (v : Value) (e : Ending) (w' : World) : Prop :=
  (r.k1 ≠ 0 ∧ GvBad w g B o fr r v e w') ∨ (r.k1 = 0 ∧ (m < 19 ∨ (m : Int) ≠ r.N) ∧ GvNo w g B m r.N o fr ks v e w') ∨ (r.k1 = 0 ∧ 19 ≤ m ∧ (m : Int) = r.N ∧ GvYes w g B m o fr ks v e w')
set_option maxRecDepth 100000 in
set_option maxHeartbeats 12800000 in
theorem give_parse (g B n c m : Nat) (K : Option Addr) (want : Int) (a0 a1 a2 a3 a4 a5 : Bool) (fr : Int) (kept : List Int) (x : Int) (w : World) (ow : Own w g 76 (frc K n c want ⟨a0, a1, a2, a3, a4, a5⟩ 0 0 false fr)) (hr : w.ownsRow B 5 1 (.slice K n c) n (kept.map (Value.int .u8))) (hgB : g < B) (hB : B ≤ w.heap.size) (hn : n ≤ 100000) (hm : m = n + 1) (hlk : (m ≤ 16 ∧ x ≠ 255) ∨ m = 19) (ht : HRows w) (hgl : 0 < g) (hkr : ∀ y ∈ kept ++ [x], 0 ≤ y ∧ y ≤ 255) (r : HR) (hSP : Hid (∀ w A n c, HRows w → Bytes w w.heap.size A n (kept ++ [x]) → n ≤ c → n ≤ 1000000000 → Calls Tryd.prog 43 #[.agg #[.bool a0, .bool a1, .bool a2, .bool a3, .bool a4, .bool a5], .slice A n c] w fun e w' => ∃ A1 m1 c1, e = .returned (.tuple #[.agg #[.int .i64 r.N, .int .i64 r.K], .agg #[.int .i64 r.k1, .int .i64 r.k2, .int .i64 r.k3, .slice A1 m1 c1, .int .i64 r.k5]]) ∧ BT w' w'.heap.size A1 m1 r.d ∧ Below w.heap.size w w')) (hacc : r.k1 = 0 → 19 ≤ r.N) (hf0 : 0 ≤ fr) (hf1 : fr ≤ 1000000000) :
    Calls Tryd.prog 29 #[.pointer (some ⟨g, 0, none⟩), .int .u8 x] w fun e w' => GvP w g B m ⟨a0, a1, a2, a3, a4, a5⟩ fr (kept ++ [x]) r (.slice K n c) e w' := by
  have ow1 := ow.alloc (.cells #[.slice none 0 0, .int .i64 0, .int .i64 0, .int .i64 0, .slice none 0 0, .int .i64 0] 57)
  have hr1 := own_belowG hr (bl_alloc (bl_refl w) (.cells #[.slice none 0 0, .int .i64 0, .int .i64 0, .int .i64 0, .slice none 0 0, .int .i64 0] 57))
  have oe1 := Own.new w 57 #[.slice none 0 0, .int .i64 0, .int .i64 0, .int .i64 0, .slice none 0 0, .int .i64 0]
  have R1 : Rest w (w.alloc (.cells #[.slice none 0 0, .int .i64 0, .int .i64 0, .int .i64 0, .slice none 0 0, .int .i64 0] 57)) (Pg g (.slice K n c)) := Rest.of_below (bl_alloc (bl_refl w) _) _
  have hlt := ow.lt
  have HP := Lib.hid (fput_any g B n c K want ⟨a0, a1, a2, a3, a4, a5⟩ 0 0 false fr kept x _ ow1 hr1 hgB (by simp; omega) hn)
  have HRT := Lib.hid (fun i hi => (row_typed hr1 (j := i) hi))
  have HM := Lib.hid hm
  rw [← HM.out] at HP
  have hge : ¬ g = w.heap.size := by omega
  clear ow hr ow1 hr1 hm
  go_enter Tryd.func29, Tryd.ntmps29
  go_wp2_with fail
  refine HP.out.mono ?_
  rintro e w2 ⟨rfl, K2, c2, ow2, hr2, R2, hob⟩
  have HOB := Lib.hid (hob.imp (fun e => e) (fun f j hj => Nat.le_trans (show w.heap.size ≤ (w.alloc (.cells #[.slice none 0 0, .int .i64 0, .int .i64 0, .int .i64 0, .slice none 0 0, .int .i64 0] 57)).heap.size by simp) (f j hj)))
  clear hob
  have oe2 := R2.own oe1 (fun e => by
    rcases e with e | e
    · exact hge e.symm
    · exact (HRT.out _ e).1.ne oe1.typed (Ne.symm fr_types.2.2.1) rfl)
  have R3 : Rest w w2 (Pg g (.slice K n c)) := R1.trans R2 (fun i _ h => h)
  have HBk := Lib.hid (fun i hi => (HRT.out i hi).2)
  have hs2 := R3.size
  have hs3 := oe2.lt
  clear HP HRT oe1 R1 R2 HM
  go_wp2_with fail
  refine (fsize_any g m c2 K2 want ⟨a0, a1, a2, a3, a4, a5⟩ 0 0 false fr w2 ow2).mono ?_
  rintro e w' ⟨rfl, rfl⟩
  have hrr := Lib.hid hlk
  clear hlk
  go_upto_region 3 with fail
  go_cut [27] (fun t wx => t = .bool true ∧ Own wx g 76 (frc K2 m c2 want ⟨a0, a1, a2, a3, a4, a5⟩ 0 0 false fr) ∧ wx.ownsRow B 5 1 (.slice K2 m c2) m ((kept ++ [x]).map (Value.int .u8)) ∧ Own wx w.heap.size 57 #[.slice none 0 0, .int .i64 0, .int .i64 0, .int .i64 0, .slice none 0 0, .int .i64 0] ∧ Rest w wx (Pg g (.slice K n c)))
  case first =>
    rcases hrr.out with ⟨h16, hx⟩ | h19
    · have q1 : (x != 255) = true := by simpa using hx
      have q3 : (m : Int) ≤ 16 := by omega
      clear hx
      go_wp2_with fail
      go_meet
      exact ⟨rfl, ow2, hr2, oe2, R3⟩
    · have q2 : ((m : Int) == 19) = true := by simp; omega
      have q3 : ¬ (m : Int) ≤ 16 := by omega
      clear h19
      go_wp2_with fail
      go_meet
      exact ⟨rfl, ow2, hr2, oe2, R3⟩
  case rest =>
  clear ow2 hr2 oe2 R3
  obtain ⟨rfl, ow2, hr2, oe2, R3⟩ := hcut
  obtain ⟨w2, hw2⟩ : ∃ z, z = wc := ⟨_, rfl⟩
  subst hw2
  have HO := Lib.hid ow2
  obtain ⟨hx2, hmc, _⟩ := row_bytes hr2 hkr
  have ht2 := ht.rest R3 (fun e => by
    rcases e with e | e
    · omega
    · have := HBk.out _ e
      omega)
  have HC := Lib.hid (fun W (h : Below w2.heap.size w2 W) => hSP.out W K2 m c2 (ht2.below h) ((hx2.below h).more h.size) hmc (by rcases hrr.out with h | h <;> omega))
  have st : GvSt w2 w2.drew none none none r.d := GvSt.start (bl_refl w2).drew
  clear hx2 hmc ht2
  go_upto_region 4 with fail
  go_cut [7, 8] (fun hv vv wx => GvR w2 wx r hv vv)
  case first =>
    refine wp_region_noPanic ?_
    refine wp_region_held_drew (S := (fun W => W.cell? ⟨g, 0, none⟩ = some (.slice K2 m c2) ∧ W.cell? ⟨g, 2, none⟩ = some (.bool a0) ∧ W.cell? ⟨g, 3, none⟩ = some (.bool a1) ∧ W.cell? ⟨g, 4, none⟩ = some (.bool a2) ∧ W.cell? ⟨g, 5, none⟩ = some (.bool a3) ∧ W.cell? ⟨g, 6, none⟩ = some (.bool a4) ∧ W.cell? ⟨g, 7, none⟩ = some (.bool a5))) (by kernel_rfl) (gs_of (HO.out.step st.1)) (fun hHeld => ?_)
    refine wpAnyH_take (i := 0) (v := ?_) rfl (by kernel_rfl) (by kernel_rfl) (by kernel_rfl) (fun _ _ _ h => h) (Or.inl ⟨by rfl, ?_⟩) (by assumption) ?_
    rotate_left
    · (intro W hSw; obtain ⟨s0, s1, s2, s3, s4, s5, s6⟩ := hSw; go_simp; try with_reducible rfl)
    simp only [Act.put, List.getElem_toArray, List.getElem_cons_zero, List.setIfInBounds_toArray, List.set_cons_zero, List.set_cons_succ]
    refine wpAnyH_take (i := 1) (v := ?_) rfl (by kernel_rfl) (by kernel_rfl) (by kernel_rfl) (fun _ _ _ h => h) (Or.inl ⟨by rfl, ?_⟩) (by assumption) ?_
    rotate_left
    · (intro W hSw; obtain ⟨s0, s1, s2, s3, s4, s5, s6⟩ := hSw; go_simp; try with_reducible rfl)
    simp only [Act.put, List.getElem_toArray, List.getElem_cons_zero, List.getElem_cons_succ, List.setIfInBounds_toArray, List.set_cons_zero, List.set_cons_succ]
    refine wpAnyH_take (i := 2) (v := ?_) rfl (by kernel_rfl) (by kernel_rfl) (by kernel_rfl) (fun _ _ _ h => h) (Or.inl ⟨by rfl, ?_⟩) (by assumption) ?_
    rotate_left
    · (intro W hSw; obtain ⟨s0, s1, s2, s3, s4, s5, s6⟩ := hSw; go_simp; try with_reducible rfl)
    simp only [Act.put, List.getElem_toArray, List.getElem_cons_zero, List.getElem_cons_succ, List.setIfInBounds_toArray, List.set_cons_zero, List.set_cons_succ]
    refine wpAnyH_take (i := 3) (v := ?_) rfl (by kernel_rfl) (by kernel_rfl) (by kernel_rfl) (fun _ _ _ h => h) (Or.inl ⟨by rfl, ?_⟩) (by assumption) ?_
    rotate_left
    · (intro W hSw; obtain ⟨s0, s1, s2, s3, s4, s5, s6⟩ := hSw; go_simp; try with_reducible rfl)
    simp only [Act.put, List.getElem_toArray, List.getElem_cons_zero, List.getElem_cons_succ, List.setIfInBounds_toArray, List.set_cons_zero, List.set_cons_succ]
    refine wpAnyH_take (i := 4) (v := ?_) rfl (by kernel_rfl) (by kernel_rfl) (by kernel_rfl) (fun _ _ _ h => h) (Or.inl ⟨by rfl, ?_⟩) (by assumption) ?_
    rotate_left
    · (intro W hSw; obtain ⟨s0, s1, s2, s3, s4, s5, s6⟩ := hSw; go_simp; try with_reducible rfl)
    simp only [Act.put, List.getElem_toArray, List.getElem_cons_zero, List.getElem_cons_succ, List.setIfInBounds_toArray, List.set_cons_zero, List.set_cons_succ]
    refine wpAnyH_take (i := 5) (v := ?_) rfl (by kernel_rfl) (by kernel_rfl) (by kernel_rfl) (fun _ _ _ h => h) (Or.inl ⟨by rfl, ?_⟩) (by assumption) ?_
    rotate_left
    · (intro W hSw; obtain ⟨s0, s1, s2, s3, s4, s5, s6⟩ := hSw; go_simp; try with_reducible rfl)
    simp only [Act.put, List.getElem_toArray, List.getElem_cons_zero, List.getElem_cons_succ, List.setIfInBounds_toArray, List.set_cons_zero, List.set_cons_succ]
    refine wpAnyH_take (i := 6) (v := ?_) rfl (by kernel_rfl) (by kernel_rfl) (by kernel_rfl) (fun _ _ _ h => h) (Or.inl ⟨by rfl, ?_⟩) (by assumption) ?_
    rotate_left
    · (intro W hSw; obtain ⟨s0, s1, s2, s3, s4, s5, s6⟩ := hSw; go_simp; try with_reducible rfl)
    simp only [Act.put, List.getElem_toArray, List.getElem_cons_zero, List.getElem_cons_succ, List.setIfInBounds_toArray, List.set_cons_zero, List.set_cons_succ]
    refine wpAnyH_take (i := 7) (v := ?_) rfl (by kernel_rfl) (by kernel_rfl) (by kernel_rfl) (fun _ _ _ h => h) (Or.inl ⟨by rfl, ?_⟩) (by assumption) ?_
    rotate_left
    · (intro W hSw; obtain ⟨s0, s1, s2, s3, s4, s5, s6⟩ := hSw; go_simp; try with_reducible rfl)
    simp only [Act.put, List.getElem_toArray, List.getElem_cons_zero, List.getElem_cons_succ, List.setIfInBounds_toArray, List.set_cons_zero, List.set_cons_succ]
    refine wpAnyH_take (i := 8) (v := ?_) rfl (by kernel_rfl) (by kernel_rfl) (by kernel_rfl) (fun _ _ _ h => h) (Or.inl ⟨by rfl, ?_⟩) (by assumption) ?_
    rotate_left
    · (intro W hSw; obtain ⟨s0, s1, s2, s3, s4, s5, s6⟩ := hSw; go_simp; try with_reducible rfl)
    simp only [Act.put, List.getElem_toArray, List.getElem_cons_zero, List.getElem_cons_succ, List.setIfInBounds_toArray, List.set_cons_zero, List.set_cons_succ]
    refine wpAnyH_ready (rs := [9, 13, 14]) (by kernel_rfl) (by simp) ?_
    refine AllReadyH.cons rfl (fun K hK => ?_) (AllReadyH.cons rfl (fun K hK => ?_) (AllReadyH.cons rfl (fun K hK => ?_) AllReadyH.nil))
    · go_simp
      (go_at_call 43; refine (HC.out _ st.1).mono ?_; rintro e w5 ⟨A1, m1, c1, rfl, hB1, hb1⟩)
      replace st := st.call hB1 hb1
      clear hB1 hb1
      refine hK.out _ _ (gs_of (HO.out.step st.1)) (fun hHeld2 => ?_)
      clear hK K hHeld
      have hHeld := hHeld2
      clear hHeld2
      try simp only [Act.put, List.getElem_toArray, List.getElem_cons_zero, List.getElem_cons_succ, List.setIfInBounds_toArray, List.set_cons_zero, List.set_cons_succ]
      refine wpAnyH_take (i := 10) (v := ?_) rfl (by kernel_rfl) (by kernel_rfl) (by kernel_rfl) (fun _ _ _ h => h) (Or.inl ⟨by rfl, ?_⟩) (by assumption) ?_
      rotate_left
      · (intro W hSw; obtain ⟨s0, s1, s2, s3, s4, s5, s6⟩ := hSw; go_simp; try with_reducible rfl)
      simp only [Act.put, List.getElem_toArray, List.getElem_cons_zero, List.getElem_cons_succ, List.setIfInBounds_toArray, List.set_cons_zero, List.set_cons_succ]
      refine wpAnyH_take (i := 11) (v := ?_) rfl (by kernel_rfl) (by kernel_rfl) (by kernel_rfl) (fun _ _ _ h => h) (Or.inl ⟨by rfl, ?_⟩) (by assumption) ?_
      rotate_left
      · (intro W hSw; obtain ⟨s0, s1, s2, s3, s4, s5, s6⟩ := hSw; go_simp; try with_reducible rfl)
      simp only [Act.put, List.getElem_toArray, List.getElem_cons_zero, List.getElem_cons_succ, List.setIfInBounds_toArray, List.set_cons_zero, List.set_cons_succ]
      refine wpAnyH_take (i := 12) (v := ?_) rfl (by kernel_rfl) (by kernel_rfl) (by kernel_rfl) (fun _ _ _ h => h) (Or.inl ⟨by rfl, ?_⟩) (by assumption) ?_
      rotate_left
      · (intro W hSw; obtain ⟨s0, s1, s2, s3, s4, s5, s6⟩ := hSw; go_simp; try with_reducible rfl)
      simp only [Act.put, List.getElem_toArray, List.getElem_cons_zero, List.getElem_cons_succ, List.setIfInBounds_toArray, List.set_cons_zero, List.set_cons_succ]
      refine wpAnyH_ready (rs := [13, 14]) (by kernel_rfl) (by simp) ?_
      refine AllReadyH.cons rfl (fun K hK => ?_) (AllReadyH.cons rfl (fun K hK => ?_) AllReadyH.nil)
      · go_simp
        replace st := st.hs (n := w5.heap.size) (by simp)
        refine hK.out _ _ (gs_of (HO.out.step st.1)) (fun hHeld2 => ?_)
        clear hK K hHeld
        have hHeld := hHeld2
        clear hHeld2
        try simp only [Act.put, List.getElem_toArray, List.getElem_cons_zero, List.getElem_cons_succ, List.setIfInBounds_toArray, List.set_cons_zero, List.set_cons_succ]
        refine wpAnyH_ready (rs := [14]) (by kernel_rfl) (by simp) ?_
        refine AllReadyH.cons rfl (fun K hK => ?_) AllReadyH.nil
        go_simp
        replace st := st.vs (n := w5.heap.size + 1) (by simp)
        refine hK.out _ _ (gs_of (HO.out.step st.1)) (fun hHeld2 => ?_)
        clear hK K hHeld
        have hHeld := hHeld2
        clear hHeld2
        try simp only [Act.put, List.getElem_toArray, List.getElem_cons_zero, List.getElem_cons_succ, List.setIfInBounds_toArray, List.set_cons_zero, List.set_cons_succ]
        refine wpAnyH_ready (rs := [15]) (by kernel_rfl) (by simp) ?_
        refine AllReadyH.cons rfl (fun K hK => ?_) AllReadyH.nil
        refine step_store_rowF rfl _ _ _ rfl _ #[.int .i64 r.N, .int .i64 r.K] rfl rfl 94 #[.int .i64 0, .int .i64 0] st.h (hd_info _ _) rfl (hd_oneF _ _) ?_
        refine hK.out _ _ (gs_of (st.g1 HO.out _)) (fun hHeld2 => ?_)
        clear hK K hHeld
        have hHeld := hHeld2
        clear hHeld2
        try simp only [Act.put, List.getElem_toArray, List.getElem_cons_zero, List.getElem_cons_succ]
        refine wpAnyH_ready (rs := [16]) (by kernel_rfl) (by simp) ?_
        refine AllReadyH.cons rfl (fun K hK => ?_) AllReadyH.nil
        refine step_store_rowF rfl _ _ _ rfl _ #[.int .i64 r.k1, .int .i64 r.k2, .int .i64 r.k3, .slice A1 m1 c1, .int .i64 r.k5] rfl rfl 49 #[.int .i64 0, .int .i64 0, .int .i64 0, .slice none 0 0, .int .i64 0] (st.v _) (vd_info _ _ _ _ _) rfl (vd_oneF _ _ _ _ _ _ _) ?_
        refine hK.out _ _ (gs_of (st.g2 HO.out _ _)) (fun hHeld2 => ?_)
        clear hK K hHeld
        have hHeld := hHeld2
        clear hHeld2
        try simp only [Act.put, List.getElem_toArray, List.getElem_cons_zero, List.getElem_cons_succ]
        refine wpAnyH_done (by kernel_rfl) ?_ _
        refine NoPanic.normal ?_
        go_wp2_with fail
        go_meet
        exact GvSt.fin st
      · go_simp
        replace st := st.vs (n := w5.heap.size) (by simp)
        refine hK.out _ _ (gs_of (HO.out.step st.1)) (fun hHeld2 => ?_)
        clear hK K hHeld
        have hHeld := hHeld2
        clear hHeld2
        try simp only [Act.put, List.getElem_toArray, List.getElem_cons_zero, List.getElem_cons_succ, List.setIfInBounds_toArray, List.set_cons_zero, List.set_cons_succ]
        refine wpAnyH_ready (rs := [13]) (by kernel_rfl) (by simp) ?_
        refine AllReadyH.cons rfl (fun K hK => ?_) AllReadyH.nil
        go_simp
        replace st := st.hs (n := w5.heap.size + 1) (by simp)
        refine hK.out _ _ (gs_of (HO.out.step st.1)) (fun hHeld2 => ?_)
        clear hK K hHeld
        have hHeld := hHeld2
        clear hHeld2
        try simp only [Act.put, List.getElem_toArray, List.getElem_cons_zero, List.getElem_cons_succ, List.setIfInBounds_toArray, List.set_cons_zero, List.set_cons_succ]
        refine wpAnyH_ready (rs := [15]) (by kernel_rfl) (by simp) ?_
        refine AllReadyH.cons rfl (fun K hK => ?_) AllReadyH.nil
        refine step_store_rowF rfl _ _ _ rfl _ #[.int .i64 r.N, .int .i64 r.K] rfl rfl 94 #[.int .i64 0, .int .i64 0] st.h (hd_info _ _) rfl (hd_oneF _ _) ?_
        refine hK.out _ _ (gs_of (st.g1 HO.out _)) (fun hHeld2 => ?_)
        clear hK K hHeld
        have hHeld := hHeld2
        clear hHeld2
        try simp only [Act.put, List.getElem_toArray, List.getElem_cons_zero, List.getElem_cons_succ]
        refine wpAnyH_ready (rs := [16]) (by kernel_rfl) (by simp) ?_
        refine AllReadyH.cons rfl (fun K hK => ?_) AllReadyH.nil
        refine step_store_rowF rfl _ _ _ rfl _ #[.int .i64 r.k1, .int .i64 r.k2, .int .i64 r.k3, .slice A1 m1 c1, .int .i64 r.k5] rfl rfl 49 #[.int .i64 0, .int .i64 0, .int .i64 0, .slice none 0 0, .int .i64 0] (st.v _) (vd_info _ _ _ _ _) rfl (vd_oneF _ _ _ _ _ _ _) ?_
        refine hK.out _ _ (gs_of (st.g2 HO.out _ _)) (fun hHeld2 => ?_)
        clear hK K hHeld
        have hHeld := hHeld2
        clear hHeld2
        try simp only [Act.put, List.getElem_toArray, List.getElem_cons_zero, List.getElem_cons_succ]
        refine wpAnyH_done (by kernel_rfl) ?_ _
        refine NoPanic.normal ?_
        go_wp2_with fail
        go_meet
        exact GvSt.fin st
    · go_simp
      replace st := st.hs (n := w2.heap.size) (by simp)
      refine hK.out _ _ (gs_of (HO.out.step st.1)) (fun hHeld2 => ?_)
      clear hK K hHeld
      have hHeld := hHeld2
      clear hHeld2
      try simp only [Act.put, List.getElem_toArray, List.getElem_cons_zero, List.getElem_cons_succ, List.setIfInBounds_toArray, List.set_cons_zero, List.set_cons_succ]
      refine wpAnyH_ready (rs := [9, 14]) (by kernel_rfl) (by simp) ?_
      refine AllReadyH.cons rfl (fun K hK => ?_) (AllReadyH.cons rfl (fun K hK => ?_) AllReadyH.nil)
      · go_simp
        (go_at_call 43; refine (HC.out _ st.1).mono ?_; rintro e w5 ⟨A1, m1, c1, rfl, hB1, hb1⟩)
        replace st := st.call hB1 hb1
        clear hB1 hb1
        refine hK.out _ _ (gs_of (HO.out.step st.1)) (fun hHeld2 => ?_)
        clear hK K hHeld
        have hHeld := hHeld2
        clear hHeld2
        try simp only [Act.put, List.getElem_toArray, List.getElem_cons_zero, List.getElem_cons_succ, List.setIfInBounds_toArray, List.set_cons_zero, List.set_cons_succ]
        refine wpAnyH_take (i := 10) (v := ?_) rfl (by kernel_rfl) (by kernel_rfl) (by kernel_rfl) (fun _ _ _ h => h) (Or.inl ⟨by rfl, ?_⟩) (by assumption) ?_
        rotate_left
        · (intro W hSw; obtain ⟨s0, s1, s2, s3, s4, s5, s6⟩ := hSw; go_simp; try with_reducible rfl)
        simp only [Act.put, List.getElem_toArray, List.getElem_cons_zero, List.getElem_cons_succ, List.setIfInBounds_toArray, List.set_cons_zero, List.set_cons_succ]
        refine wpAnyH_take (i := 11) (v := ?_) rfl (by kernel_rfl) (by kernel_rfl) (by kernel_rfl) (fun _ _ _ h => h) (Or.inl ⟨by rfl, ?_⟩) (by assumption) ?_
        rotate_left
        · (intro W hSw; obtain ⟨s0, s1, s2, s3, s4, s5, s6⟩ := hSw; go_simp; try with_reducible rfl)
        simp only [Act.put, List.getElem_toArray, List.getElem_cons_zero, List.getElem_cons_succ, List.setIfInBounds_toArray, List.set_cons_zero, List.set_cons_succ]
        refine wpAnyH_take (i := 12) (v := ?_) rfl (by kernel_rfl) (by kernel_rfl) (by kernel_rfl) (fun _ _ _ h => h) (Or.inl ⟨by rfl, ?_⟩) (by assumption) ?_
        rotate_left
        · (intro W hSw; obtain ⟨s0, s1, s2, s3, s4, s5, s6⟩ := hSw; go_simp; try with_reducible rfl)
        simp only [Act.put, List.getElem_toArray, List.getElem_cons_zero, List.getElem_cons_succ, List.setIfInBounds_toArray, List.set_cons_zero, List.set_cons_succ]
        refine wpAnyH_ready (rs := [14]) (by kernel_rfl) (by simp) ?_
        refine AllReadyH.cons rfl (fun K hK => ?_) AllReadyH.nil
        go_simp
        replace st := st.vs (n := w5.heap.size) (by simp)
        refine hK.out _ _ (gs_of (HO.out.step st.1)) (fun hHeld2 => ?_)
        clear hK K hHeld
        have hHeld := hHeld2
        clear hHeld2
        try simp only [Act.put, List.getElem_toArray, List.getElem_cons_zero, List.getElem_cons_succ, List.setIfInBounds_toArray, List.set_cons_zero, List.set_cons_succ]
        refine wpAnyH_ready (rs := [15]) (by kernel_rfl) (by simp) ?_
        refine AllReadyH.cons rfl (fun K hK => ?_) AllReadyH.nil
        refine step_store_rowF rfl _ _ _ rfl _ #[.int .i64 r.N, .int .i64 r.K] rfl rfl 94 #[.int .i64 0, .int .i64 0] st.h (hd_info _ _) rfl (hd_oneF _ _) ?_
        refine hK.out _ _ (gs_of (st.g1 HO.out _)) (fun hHeld2 => ?_)
        clear hK K hHeld
        have hHeld := hHeld2
        clear hHeld2
        try simp only [Act.put, List.getElem_toArray, List.getElem_cons_zero, List.getElem_cons_succ]
        refine wpAnyH_ready (rs := [16]) (by kernel_rfl) (by simp) ?_
        refine AllReadyH.cons rfl (fun K hK => ?_) AllReadyH.nil
        refine step_store_rowF rfl _ _ _ rfl _ #[.int .i64 r.k1, .int .i64 r.k2, .int .i64 r.k3, .slice A1 m1 c1, .int .i64 r.k5] rfl rfl 49 #[.int .i64 0, .int .i64 0, .int .i64 0, .slice none 0 0, .int .i64 0] (st.v _) (vd_info _ _ _ _ _) rfl (vd_oneF _ _ _ _ _ _ _) ?_
        refine hK.out _ _ (gs_of (st.g2 HO.out _ _)) (fun hHeld2 => ?_)
        clear hK K hHeld
        have hHeld := hHeld2
        clear hHeld2
        try simp only [Act.put, List.getElem_toArray, List.getElem_cons_zero, List.getElem_cons_succ]
        refine wpAnyH_done (by kernel_rfl) ?_ _
        refine NoPanic.normal ?_
        go_wp2_with fail
        go_meet
        exact GvSt.fin st
      · go_simp
        replace st := st.vs (n := w2.heap.size + 1) (by simp)
        refine hK.out _ _ (gs_of (HO.out.step st.1)) (fun hHeld2 => ?_)
        clear hK K hHeld
        have hHeld := hHeld2
        clear hHeld2
        try simp only [Act.put, List.getElem_toArray, List.getElem_cons_zero, List.getElem_cons_succ, List.setIfInBounds_toArray, List.set_cons_zero, List.set_cons_succ]
        refine wpAnyH_ready (rs := [9]) (by kernel_rfl) (by simp) ?_
        refine AllReadyH.cons rfl (fun K hK => ?_) AllReadyH.nil
        go_simp
        (go_at_call 43; refine (HC.out _ st.1).mono ?_; rintro e w5 ⟨A1, m1, c1, rfl, hB1, hb1⟩)
        replace st := st.call hB1 hb1
        clear hB1 hb1
        refine hK.out _ _ (gs_of (HO.out.step st.1)) (fun hHeld2 => ?_)
        clear hK K hHeld
        have hHeld := hHeld2
        clear hHeld2
        try simp only [Act.put, List.getElem_toArray, List.getElem_cons_zero, List.getElem_cons_succ, List.setIfInBounds_toArray, List.set_cons_zero, List.set_cons_succ]
        refine wpAnyH_take (i := 10) (v := ?_) rfl (by kernel_rfl) (by kernel_rfl) (by kernel_rfl) (fun _ _ _ h => h) (Or.inl ⟨by rfl, ?_⟩) (by assumption) ?_
        rotate_left
        · (intro W hSw; obtain ⟨s0, s1, s2, s3, s4, s5, s6⟩ := hSw; go_simp; try with_reducible rfl)
        simp only [Act.put, List.getElem_toArray, List.getElem_cons_zero, List.getElem_cons_succ, List.setIfInBounds_toArray, List.set_cons_zero, List.set_cons_succ]
        refine wpAnyH_take (i := 11) (v := ?_) rfl (by kernel_rfl) (by kernel_rfl) (by kernel_rfl) (fun _ _ _ h => h) (Or.inl ⟨by rfl, ?_⟩) (by assumption) ?_
        rotate_left
        · (intro W hSw; obtain ⟨s0, s1, s2, s3, s4, s5, s6⟩ := hSw; go_simp; try with_reducible rfl)
        simp only [Act.put, List.getElem_toArray, List.getElem_cons_zero, List.getElem_cons_succ, List.setIfInBounds_toArray, List.set_cons_zero, List.set_cons_succ]
        refine wpAnyH_take (i := 12) (v := ?_) rfl (by kernel_rfl) (by kernel_rfl) (by kernel_rfl) (fun _ _ _ h => h) (Or.inl ⟨by rfl, ?_⟩) (by assumption) ?_
        rotate_left
        · (intro W hSw; obtain ⟨s0, s1, s2, s3, s4, s5, s6⟩ := hSw; go_simp; try with_reducible rfl)
        simp only [Act.put, List.getElem_toArray, List.getElem_cons_zero, List.getElem_cons_succ, List.setIfInBounds_toArray, List.set_cons_zero, List.set_cons_succ]
        refine wpAnyH_ready (rs := [15]) (by kernel_rfl) (by simp) ?_
        refine AllReadyH.cons rfl (fun K hK => ?_) AllReadyH.nil
        refine step_store_rowF rfl _ _ _ rfl _ #[.int .i64 r.N, .int .i64 r.K] rfl rfl 94 #[.int .i64 0, .int .i64 0] st.h (hd_info _ _) rfl (hd_oneF _ _) ?_
        refine hK.out _ _ (gs_of (st.g1 HO.out _)) (fun hHeld2 => ?_)
        clear hK K hHeld
        have hHeld := hHeld2
        clear hHeld2
        try simp only [Act.put, List.getElem_toArray, List.getElem_cons_zero, List.getElem_cons_succ]
        refine wpAnyH_ready (rs := [16]) (by kernel_rfl) (by simp) ?_
        refine AllReadyH.cons rfl (fun K hK => ?_) AllReadyH.nil
        refine step_store_rowF rfl _ _ _ rfl _ #[.int .i64 r.k1, .int .i64 r.k2, .int .i64 r.k3, .slice A1 m1 c1, .int .i64 r.k5] rfl rfl 49 #[.int .i64 0, .int .i64 0, .int .i64 0, .slice none 0 0, .int .i64 0] (st.v _) (vd_info _ _ _ _ _) rfl (vd_oneF _ _ _ _ _ _ _) ?_
        refine hK.out _ _ (gs_of (st.g2 HO.out _ _)) (fun hHeld2 => ?_)
        clear hK K hHeld
        have hHeld := hHeld2
        clear hHeld2
        try simp only [Act.put, List.getElem_toArray, List.getElem_cons_zero, List.getElem_cons_succ]
        refine wpAnyH_done (by kernel_rfl) ?_ _
        refine NoPanic.normal ?_
        go_wp2_with fail
        go_meet
        exact GvSt.fin st
    · go_simp
      replace st := st.vs (n := w2.heap.size) (by simp)
      refine hK.out _ _ (gs_of (HO.out.step st.1)) (fun hHeld2 => ?_)
      clear hK K hHeld
      have hHeld := hHeld2
      clear hHeld2
      try simp only [Act.put, List.getElem_toArray, List.getElem_cons_zero, List.getElem_cons_succ, List.setIfInBounds_toArray, List.set_cons_zero, List.set_cons_succ]
      refine wpAnyH_ready (rs := [9, 13]) (by kernel_rfl) (by simp) ?_
      refine AllReadyH.cons rfl (fun K hK => ?_) (AllReadyH.cons rfl (fun K hK => ?_) AllReadyH.nil)
      · go_simp
        (go_at_call 43; refine (HC.out _ st.1).mono ?_; rintro e w5 ⟨A1, m1, c1, rfl, hB1, hb1⟩)
        replace st := st.call hB1 hb1
        clear hB1 hb1
        refine hK.out _ _ (gs_of (HO.out.step st.1)) (fun hHeld2 => ?_)
        clear hK K hHeld
        have hHeld := hHeld2
        clear hHeld2
        try simp only [Act.put, List.getElem_toArray, List.getElem_cons_zero, List.getElem_cons_succ, List.setIfInBounds_toArray, List.set_cons_zero, List.set_cons_succ]
        refine wpAnyH_take (i := 10) (v := ?_) rfl (by kernel_rfl) (by kernel_rfl) (by kernel_rfl) (fun _ _ _ h => h) (Or.inl ⟨by rfl, ?_⟩) (by assumption) ?_
        rotate_left
        · (intro W hSw; obtain ⟨s0, s1, s2, s3, s4, s5, s6⟩ := hSw; go_simp; try with_reducible rfl)
        simp only [Act.put, List.getElem_toArray, List.getElem_cons_zero, List.getElem_cons_succ, List.setIfInBounds_toArray, List.set_cons_zero, List.set_cons_succ]
        refine wpAnyH_take (i := 11) (v := ?_) rfl (by kernel_rfl) (by kernel_rfl) (by kernel_rfl) (fun _ _ _ h => h) (Or.inl ⟨by rfl, ?_⟩) (by assumption) ?_
        rotate_left
        · (intro W hSw; obtain ⟨s0, s1, s2, s3, s4, s5, s6⟩ := hSw; go_simp; try with_reducible rfl)
        simp only [Act.put, List.getElem_toArray, List.getElem_cons_zero, List.getElem_cons_succ, List.setIfInBounds_toArray, List.set_cons_zero, List.set_cons_succ]
        refine wpAnyH_take (i := 12) (v := ?_) rfl (by kernel_rfl) (by kernel_rfl) (by kernel_rfl) (fun _ _ _ h => h) (Or.inl ⟨by rfl, ?_⟩) (by assumption) ?_
        rotate_left
        · (intro W hSw; obtain ⟨s0, s1, s2, s3, s4, s5, s6⟩ := hSw; go_simp; try with_reducible rfl)
        simp only [Act.put, List.getElem_toArray, List.getElem_cons_zero, List.getElem_cons_succ, List.setIfInBounds_toArray, List.set_cons_zero, List.set_cons_succ]
        refine wpAnyH_ready (rs := [13]) (by kernel_rfl) (by simp) ?_
        refine AllReadyH.cons rfl (fun K hK => ?_) AllReadyH.nil
        go_simp
        replace st := st.hs (n := w5.heap.size) (by simp)
        refine hK.out _ _ (gs_of (HO.out.step st.1)) (fun hHeld2 => ?_)
        clear hK K hHeld
        have hHeld := hHeld2
        clear hHeld2
        try simp only [Act.put, List.getElem_toArray, List.getElem_cons_zero, List.getElem_cons_succ, List.setIfInBounds_toArray, List.set_cons_zero, List.set_cons_succ]
        refine wpAnyH_ready (rs := [15]) (by kernel_rfl) (by simp) ?_
        refine AllReadyH.cons rfl (fun K hK => ?_) AllReadyH.nil
        refine step_store_rowF rfl _ _ _ rfl _ #[.int .i64 r.N, .int .i64 r.K] rfl rfl 94 #[.int .i64 0, .int .i64 0] st.h (hd_info _ _) rfl (hd_oneF _ _) ?_
        refine hK.out _ _ (gs_of (st.g1 HO.out _)) (fun hHeld2 => ?_)
        clear hK K hHeld
        have hHeld := hHeld2
        clear hHeld2
        try simp only [Act.put, List.getElem_toArray, List.getElem_cons_zero, List.getElem_cons_succ]
        refine wpAnyH_ready (rs := [16]) (by kernel_rfl) (by simp) ?_
        refine AllReadyH.cons rfl (fun K hK => ?_) AllReadyH.nil
        refine step_store_rowF rfl _ _ _ rfl _ #[.int .i64 r.k1, .int .i64 r.k2, .int .i64 r.k3, .slice A1 m1 c1, .int .i64 r.k5] rfl rfl 49 #[.int .i64 0, .int .i64 0, .int .i64 0, .slice none 0 0, .int .i64 0] (st.v _) (vd_info _ _ _ _ _) rfl (vd_oneF _ _ _ _ _ _ _) ?_
        refine hK.out _ _ (gs_of (st.g2 HO.out _ _)) (fun hHeld2 => ?_)
        clear hK K hHeld
        have hHeld := hHeld2
        clear hHeld2
        try simp only [Act.put, List.getElem_toArray, List.getElem_cons_zero, List.getElem_cons_succ]
        refine wpAnyH_done (by kernel_rfl) ?_ _
        refine NoPanic.normal ?_
        go_wp2_with fail
        go_meet
        exact GvSt.fin st
      · go_simp
        replace st := st.hs (n := w2.heap.size + 1) (by simp)
        refine hK.out _ _ (gs_of (HO.out.step st.1)) (fun hHeld2 => ?_)
        clear hK K hHeld
        have hHeld := hHeld2
        clear hHeld2
        try simp only [Act.put, List.getElem_toArray, List.getElem_cons_zero, List.getElem_cons_succ, List.setIfInBounds_toArray, List.set_cons_zero, List.set_cons_succ]
        refine wpAnyH_ready (rs := [9]) (by kernel_rfl) (by simp) ?_
        refine AllReadyH.cons rfl (fun K hK => ?_) AllReadyH.nil
        go_simp
        (go_at_call 43; refine (HC.out _ st.1).mono ?_; rintro e w5 ⟨A1, m1, c1, rfl, hB1, hb1⟩)
        replace st := st.call hB1 hb1
        clear hB1 hb1
        refine hK.out _ _ (gs_of (HO.out.step st.1)) (fun hHeld2 => ?_)
        clear hK K hHeld
        have hHeld := hHeld2
        clear hHeld2
        try simp only [Act.put, List.getElem_toArray, List.getElem_cons_zero, List.getElem_cons_succ, List.setIfInBounds_toArray, List.set_cons_zero, List.set_cons_succ]
        refine wpAnyH_take (i := 10) (v := ?_) rfl (by kernel_rfl) (by kernel_rfl) (by kernel_rfl) (fun _ _ _ h => h) (Or.inl ⟨by rfl, ?_⟩) (by assumption) ?_
        rotate_left
        · (intro W hSw; obtain ⟨s0, s1, s2, s3, s4, s5, s6⟩ := hSw; go_simp; try with_reducible rfl)
        simp only [Act.put, List.getElem_toArray, List.getElem_cons_zero, List.getElem_cons_succ, List.setIfInBounds_toArray, List.set_cons_zero, List.set_cons_succ]
        refine wpAnyH_take (i := 11) (v := ?_) rfl (by kernel_rfl) (by kernel_rfl) (by kernel_rfl) (fun _ _ _ h => h) (Or.inl ⟨by rfl, ?_⟩) (by assumption) ?_
        rotate_left
        · (intro W hSw; obtain ⟨s0, s1, s2, s3, s4, s5, s6⟩ := hSw; go_simp; try with_reducible rfl)
        simp only [Act.put, List.getElem_toArray, List.getElem_cons_zero, List.getElem_cons_succ, List.setIfInBounds_toArray, List.set_cons_zero, List.set_cons_succ]
        refine wpAnyH_take (i := 12) (v := ?_) rfl (by kernel_rfl) (by kernel_rfl) (by kernel_rfl) (fun _ _ _ h => h) (Or.inl ⟨by rfl, ?_⟩) (by assumption) ?_
        rotate_left
        · (intro W hSw; obtain ⟨s0, s1, s2, s3, s4, s5, s6⟩ := hSw; go_simp; try with_reducible rfl)
        simp only [Act.put, List.getElem_toArray, List.getElem_cons_zero, List.getElem_cons_succ, List.setIfInBounds_toArray, List.set_cons_zero, List.set_cons_succ]
        refine wpAnyH_ready (rs := [15]) (by kernel_rfl) (by simp) ?_
        refine AllReadyH.cons rfl (fun K hK => ?_) AllReadyH.nil
        refine step_store_rowF rfl _ _ _ rfl _ #[.int .i64 r.N, .int .i64 r.K] rfl rfl 94 #[.int .i64 0, .int .i64 0] st.h (hd_info _ _) rfl (hd_oneF _ _) ?_
        refine hK.out _ _ (gs_of (st.g1 HO.out _)) (fun hHeld2 => ?_)
        clear hK K hHeld
        have hHeld := hHeld2
        clear hHeld2
        try simp only [Act.put, List.getElem_toArray, List.getElem_cons_zero, List.getElem_cons_succ]
        refine wpAnyH_ready (rs := [16]) (by kernel_rfl) (by simp) ?_
        refine AllReadyH.cons rfl (fun K hK => ?_) AllReadyH.nil
        refine step_store_rowF rfl _ _ _ rfl _ #[.int .i64 r.k1, .int .i64 r.k2, .int .i64 r.k3, .slice A1 m1 c1, .int .i64 r.k5] rfl rfl 49 #[.int .i64 0, .int .i64 0, .int .i64 0, .slice none 0 0, .int .i64 0] (st.v _) (vd_info _ _ _ _ _) rfl (vd_oneF _ _ _ _ _ _ _) ?_
        refine hK.out _ _ (gs_of (st.g2 HO.out _ _)) (fun hHeld2 => ?_)
        clear hK K hHeld
        have hHeld := hHeld2
        clear hHeld2
        try simp only [Act.put, List.getElem_toArray, List.getElem_cons_zero, List.getElem_cons_succ]
        refine wpAnyH_done (by kernel_rfl) ?_ _
        refine NoPanic.normal ?_
        go_wp2_with fail
        go_meet
        exact GvSt.fin st
  case rest =>
  obtain ⟨hb, vb, A1, m1, c1, rfl, rfl, oh4, ov4, hB4, hb4⟩ := hcut
  clear HC st
  have ow4 := ow2.step hb4
  have oe4 := oe2.step hb4
  have hr4 := own_belowG hr2 hb4
  have R4 := R3.below hb4
  have v0 := ov4.cell (i := 0) (v := .int .i64 r.k1) rfl
  have h0 := oh4.cell (i := 0) (v := .int .i64 r.N) rfl
  have hs4 := R4.size
  clear HO ow2 oe2 hr2 R3 hb4
  by_cases hk0 : r.k1 = 0
  · have p0 : (r.k1 != 0) = false := by simp [hk0]
    have hN := hacc hk0
    have HK := Lib.hid hk0
    have c1' := ow4.cell (i := 1) (v := .int .i64 want) rfl
    have f1' := ow4.frozen 1
    have ow5 := own_want ow4 r.N
    have oe5 := oe4.far (p := ⟨g, 1, none⟩) (Ne.symm hge) (.int .i64 r.N)
    have R5 := R4.trans (Rest.setCell _ ⟨g, 1, none⟩ (.int .i64 r.N)) (fun i _ h => Or.inl h)
    have hr5 := row_rest hr4 (Rest.setCell _ ⟨g, 1, none⟩ (.int .i64 r.N)) (fun j hj e => (row_typed hr4 hj).1.ne ow4.typed (Ne.symm fr_types.1) e)
    clear ow4 oe4 R4 hr4 hk0
    by_cases h19 : m = 19
    · have q4 : ¬ (m : Int) < 19 := by omega
      have H19 := Lib.hid h19
      clear h19
      by_cases hw : (m : Int) < r.N
      · have HW := Lib.hid hw
        have d1 := ow5.cell (i := 1) (v := .int .i64 r.N) rfl
        go_wp2_with (refine wpList_store_row rfl 57 _ _ rfl w.heap.size #[.slice none 0 0, .int .i64 0, .int .i64 0, .int .i64 0, .slice none 0 0, .int .i64 0] rfl rfl 57 #[.slice none 0 0, .int .i64 0, .int .i64 0, .int .i64 0, .slice none 0 0, .int .i64 0] oe5 (ev_info _ _ _ _ _ _) rfl (ev_one _ _ _ _ _ _ _ _ _ _) ?_)
        have R9 := rest_row oe5 #[.slice none 0 0, .int .i64 0, .int .i64 0, .int .i64 0, .slice none 0 0, .int .i64 0]
        have hfin : GvNo w g B m r.N ⟨a0, a1, a2, a3, a4, a5⟩ fr (kept ++ [x]) (.slice K n c) _ _ := ⟨rfl, K2, c2, R9.own ow5 hge, row_rest hr5 R9 (fun j hj e => (row_typed hr5 hj).1.ne oe5.typed (Ne.symm fr_types.2.2.1) e), R5.trans R9 (fun i hi h => Or.inr (by have h2 : i = w.heap.size := h; omega)), HOB.out⟩
        exact bodyPost_ret (results_cell_tmpF (p := 4) (t := 5) (fn := Tryd.f29) rfl _ _ w.heap.size 57 #[.slice none 0 0, .int .i64 0, .int .i64 0, .int .i64 0, .slice none 0 0, .int .i64 0] _ rfl oe5.setRow ev_desc rfl (ev_info _ _ _ _ _ _)) rfl (Or.inr (Or.inl ⟨HK.out, Or.inr (by have := HW.out; omega), hfin⟩))
      · have HW := Lib.hid hw
        have d1 := ow5.cell (i := 1) (v := .int .i64 r.N) rfl
        have d12 := ow5.cell (i := 12) (v := .int .i64 fr) rfl
        have f12 := ow5.frozen 12
        have ow7 := own_fr ow5 (fr + 1)
        have oe7 := oe5.far (p := ⟨g, 12, none⟩) (Ne.symm hge) (.int .i64 (fr + 1))
        have R7 := R5.trans (Rest.setCell _ ⟨g, 12, none⟩ (.int .i64 (fr + 1))) (fun i _ h => Or.inl h)
        have hr7 := row_rest hr5 (Rest.setCell _ ⟨g, 12, none⟩ (.int .i64 (fr + 1))) (fun j hj e => (row_typed hr5 hj).1.ne ow5.typed (Ne.symm fr_types.1) e)
        have HD := Lib.hid (fdrain_any g m c2 K2 r.N ⟨a0, a1, a2, a3, a4, a5⟩ 0 0 false (fr + 1) _ ow7)
        go_wp2_with fail
        refine (aadd_any g 12 fr _ d12 f12 hf0 hf1).mono ?_
        rintro e w' ⟨rfl, rfl⟩
        go_wp2_with fail
        refine HD.out.mono ?_
        rintro e w8 ⟨rfl, ow8, R8, hs8⟩
        have oe8 := R8.own oe7 (fun e => hge (by have h : w.heap.size = g := e; exact h.symm))
        have hr8 := row_rest hr7 R8 (fun j hj e => (row_typed hr7 hj).1.ne ow7.typed (Ne.symm fr_types.1) e)
        have R9 := R7.trans R8 (fun i _ h => Or.inl h)
        clear HD ow7 oe7 hr7 R7 R8 d1 d12 f12
        go_wp2_with (refine wpList_store_row rfl 57 _ _ rfl w.heap.size #[.slice K2 m c2, .int .i64 0, .int .i64 0, .int .i64 0, .slice none 0 0, .int .i64 0] rfl rfl 57 #[.slice none 0 0, .int .i64 0, .int .i64 0, .int .i64 0, .slice none 0 0, .int .i64 0] oe8 (ev_info _ _ _ _ _ _) rfl (ev_one _ _ _ _ _ _ _ _ _ _) ?_)
        have R10 := Rest.setRowF w8 w.heap.size #[.slice K2 m c2, .int .i64 0, .int .i64 0, .int .i64 0, .slice none 0 0, .int .i64 0]
        have hfin : GvYes w g B m ⟨a0, a1, a2, a3, a4, a5⟩ fr (kept ++ [x]) (.slice K n c) _ _ := ⟨K2, c2, rfl, ⟨_, R10.own ow8 hge⟩, row_rest hr8 R10 (fun j hj e => (row_typed hr8 hj).1.ne oe8.typed (Ne.symm fr_types.2.2.1) e), R9.trans R10 (fun i hi h => Or.inr (by have h2 : i = w.heap.size := h; omega))⟩
        exact bodyPost_ret (results_cell_tmpF (p := 4) (t := 5) (fn := Tryd.f29) rfl _ _ w.heap.size 57 #[.slice K2 m c2, .int .i64 0, .int .i64 0, .int .i64 0, .slice none 0 0, .int .i64 0] _ rfl oe8.setRow ev_desc rfl (ev_info _ _ _ _ _ _)) rfl (Or.inr (Or.inr ⟨HK.out, by omega, by have := HW.out; have := H19.out; omega, hfin⟩))
    · have q4 : (m : Int) < 19 := by
        rcases hrr.out with h | h
        · omega
        · exact absurd h h19
      have H19 := Lib.hid q4
      have d1 := ow5.cell (i := 1) (v := .int .i64 r.N) rfl
      go_wp2_with (refine wpList_store_row rfl 57 _ _ rfl w.heap.size #[.slice none 0 0, .int .i64 0, .int .i64 0, .int .i64 0, .slice none 0 0, .int .i64 0] rfl rfl 57 #[.slice none 0 0, .int .i64 0, .int .i64 0, .int .i64 0, .slice none 0 0, .int .i64 0] oe5 (ev_info _ _ _ _ _ _) rfl (ev_one _ _ _ _ _ _ _ _ _ _) ?_)
      have R9 := rest_row oe5 #[.slice none 0 0, .int .i64 0, .int .i64 0, .int .i64 0, .slice none 0 0, .int .i64 0]
      have hfin : GvNo w g B m r.N ⟨a0, a1, a2, a3, a4, a5⟩ fr (kept ++ [x]) (.slice K n c) _ _ := ⟨rfl, K2, c2, R9.own ow5 hge, row_rest hr5 R9 (fun j hj e => (row_typed hr5 hj).1.ne oe5.typed (Ne.symm fr_types.2.2.1) e), R5.trans R9 (fun i hi h => Or.inr (by have h2 : i = w.heap.size := h; omega)), HOB.out⟩
      exact bodyPost_ret (results_cell_tmpF (p := 4) (t := 5) (fn := Tryd.f29) rfl _ _ w.heap.size 57 #[.slice none 0 0, .int .i64 0, .int .i64 0, .int .i64 0, .slice none 0 0, .int .i64 0] _ rfl oe5.setRow ev_desc rfl (ev_info _ _ _ _ _ _)) rfl (Or.inr (Or.inl ⟨HK.out, Or.inl (by have := H19.out; omega), hfin⟩))
  · skip
    have p0 : (r.k1 != 0) = true := by simpa using hk0
    have HK := Lib.hid hk0
    have HCl := Lib.hid (fclose_open g m c2 K2 want ⟨a0, a1, a2, a3, a4, a5⟩ fr _ ow4)
    have hgv : ¬ vb = g := ov4.typed.ne ow4.typed (Ne.symm fv_types)
    clear hr4 oh4 h0 hk0
    go_wp2_with fail
    refine HCl.out.mono ?_
    rintro e w6 ⟨rfl, ow6, R6⟩
    have ov6 := R6.own ov4 hgv
    have oe6 := R6.own oe4 (fun e => hge (by have h : w.heap.size = g := e; exact h.symm))
    have hB6 := (hB4.rest R6 (fun i _ ht e => ht.ne ow4.typed (Ne.symm fr_types.1) e) (Nat.le_refl _)).more R6.size
    have R7 := R4.trans R6 (fun i _ h => Or.inl h)
    have u0 := ov6.cell (i := 0) (v := .int .i64 r.k1) rfl
    have u1 := ov6.cell (i := 1) (v := .int .i64 r.k2) rfl
    have u2 := ov6.cell (i := 2) (v := .int .i64 r.k3) rfl
    have u3 := ov6.cell (i := 3) (v := .slice A1 m1 c1) rfl
    have u4 := ov6.cell (i := 4) (v := .int .i64 r.k5) rfl
    clear HCl ow4 oe4 ov4 hB4 R4 R6 v0
    go_wp2_with (refine wpList_store_row rfl 57 _ _ rfl w.heap.size #[.slice none 0 0, .int .i64 r.k1, .int .i64 r.k2, .int .i64 r.k3, .slice A1 m1 c1, .int .i64 r.k5] rfl rfl 57 #[.slice none 0 0, .int .i64 0, .int .i64 0, .int .i64 0, .slice none 0 0, .int .i64 0] oe6 (ev_info _ _ _ _ _ _) rfl (ev_one _ _ _ _ _ _ _ _ _ _) ?_)
    have R9 := Rest.setRowF w6 w.heap.size #[.slice none 0 0, .int .i64 r.k1, .int .i64 r.k2, .int .i64 r.k3, .slice A1 m1 c1, .int .i64 r.k5]
    have hfin : GvBad w g B ⟨a0, a1, a2, a3, a4, a5⟩ fr r (.slice K n c) _ _ := ⟨A1, m1, c1, rfl, R9.own ow6 hge, (hB6.rest R9 (fun i _ ht e => ht.ne oe6.typed (Ne.symm fr_types.2.2.1) e) (Nat.le_refl _)).more R9.size, R7.trans R9 (fun i hi h => Or.inr (by have h2 : i = w.heap.size := h; omega))⟩
    exact bodyPost_ret (results_cell_tmpF (p := 4) (t := 5) (fn := Tryd.f29) rfl _ _ w.heap.size 57 #[.slice none 0 0, .int .i64 r.k1, .int .i64 r.k2, .int .i64 r.k3, .slice A1 m1 c1, .int .i64 r.k5] _ rfl oe6.setRow ev_desc rfl (ev_info _ _ _ _ _ _)) rfl (Or.inl ⟨HK.out, hfin⟩)
end Go.Proofs.YtgahjchngmojlabDoor

/- frame: give and Feed at every state; Split -/
namespace Go.Proofs.YtgahjchngmojlabDoor
open Go.RowKit

theorem fr_mk {w w' : World} {B g m : Nat} {K' : Option Addr} {c' : Nat} {want len : Int} {o : O6} {fr : Nat} {kept : List Int} (R : Rest w w' (Pu w g B)) (hrows : HRows w) (hgl : 0 < g) (hgB : g < B) (hB : B ≤ w.heap.size)
    (ow : Own w' g 76 (frc K' m c' want o 0 0 false fr)) (hr : w'.ownsRow B 5 1 (.slice K' m c') m (kept.map (Value.int .u8))) (hm : m = kept.length) (hw : 19 ≤ kept.length → want = len) (hok : FS.Ok ⟨o, kept, len, false, fr⟩) :
    FrIs w' B g ⟨o, kept, len, false, fr⟩ (Value.slice K' m c').ownBlock := by
  subst hm
  exact ⟨K', c', want, rfl, ow, hr, hw, hgB, Nat.le_trans hB R.size, hrows.rest R (fun h => by rcases h with e | e; omega; have := e.1; omega), hgl, hok⟩
theorem fr_mk0 {w w' : World} {B g : Nat} {want len d : Int} {cl : Bool} {o : O6} {fr : Nat} {f : Int} (R : Rest w w' (Pu w g B)) (hrows : HRows w) (hgl : 0 < g) (hgB : g < B) (hB : B ≤ w.heap.size)
    (ow : Own w' g 76 (frc none 0 0 want o d 0 cl f)) (hd : d = dn cl) (hf : f = (fr : Int)) (hok : FS.Ok ⟨o, [], len, cl, fr⟩) :
    FrIs w' w'.heap.size g ⟨o, [], len, cl, fr⟩ none := by
  subst hd hf
  have hs := R.size
  exact ⟨none, 0, want, rfl, ow, World.ownsRow_nil _ _ _ _, (fun h => by simp at h), by omega, Nat.le_refl _, hrows.rest R (fun h => by rcases h with e | e; omega; have := e.1; omega), hgl, hok⟩
/-- What give leaves. -/
def GiveR (w w' : World) (B g : Nat) (kb : Option Nat) (s' : FS) (ps : List EvP) (B' : Nat) (kb' : Option Nat) (E : Ev) (q : Bool) : Prop :=
  FrIs w' B' g s' kb' ∧ B ≤ B' ∧ Rest w w' (Pk g kb) ∧ (kb' = kb ∨ ∀ j, kb' = some j → w.heap.size ≤ j) ∧ ((q = false ∧ ps = [] ∧ B' = B) ∨ (q = true ∧ ps = [E.p] ∧ E.Ok w' B' ∧ E.T w' B B'))
theorem give_no_in {w w' : World} {B g m n c : Nat} {K : Option Addr} {want len : Int} {o : O6} {fr : Nat} {ks : List Int} {ls : List Value} {e : Ending} {s : FS} (hr : w.ownsRow B 5 1 (.slice K n c) n ls) (hrows : HRows w) (hgl : 0 < g) (hgB : g < B) (hB : B ≤ w.heap.size)
    (h : GvNo w g B m want o fr ks (.slice K n c) e w') (hm : m = ks.length) (hw : 19 ≤ ks.length → want = len) (hok : FS.Ok ⟨o, ks, len, false, fr⟩) (hs : s = ⟨o, ks, len, false, fr⟩) :
    ∃ (E : Ev) (q : Bool) (B' : Nat) (kb' : Option Nat), e = .returned (.tuple #[.agg (evc E), .bool q]) ∧ GiveR w w' B g (Value.slice K n c).ownBlock s [] B' kb' E q := by
  subst hs
  obtain ⟨rfl, K', c', ow, hr', R, hob⟩ := h
  exact ⟨ev0, false, B, _, rfl, fr_mk (R.mono (pg_pu hr)) hrows hgl hgB hB ow hr' hm hw hok, Nat.le_refl _, R, hob, .inl ⟨rfl, rfl, rfl⟩⟩
theorem give_yes_in {w w' : World} {B g m n c : Nat} {K : Option Addr} {len : Int} {o : O6} {fr : Nat} {ks : List Int} {ls : List Value} {e : Ending} {s : FS} (hr : w.ownsRow B 5 1 (.slice K n c) n ls) (hrows : HRows w) (hgl : 0 < g) (hgB : g < B) (hB : B ≤ w.heap.size)
    (h : GvYes w g B m o fr ks (.slice K n c) e w') (_hm : m = ks.length) (hm2 : m ≤ 65535) (hk : ∀ y ∈ ks, 0 ≤ y ∧ y ≤ 255) (hok : FS.Ok ⟨o, [], len, false, fr + 1⟩) (hs : s = ⟨o, [], len, false, fr + 1⟩) :
    ∃ (E : Ev) (q : Bool) (B' : Nat) (kb' : Option Nat), e = .returned (.tuple #[.agg (evc E), .bool q]) ∧ GiveR w w' B g (Value.slice K n c).ownBlock s [(ks, (0, 0, 0, 0, []))] B' kb' E q := by
  subst hs
  obtain ⟨K', c', rfl, ⟨want', ow⟩, hr', R⟩ := h
  have R' := R.mono (pg_pu hr)
  obtain ⟨hx, _, hd⟩ := row_bytes hr' hk
  have hsz := R.size
  exact ⟨⟨K', m, c', ks, 0, 0, 0, none, 0, 0, [], 0⟩, true, w'.heap.size, none, rfl, fr_mk0 R' hrows hgl hgB hB ow rfl (by omega) hok, by omega, R, .inr (fun j hj => by cases hj), .inr ⟨rfl, rfl, ⟨⟨hx, .inr fun a ha => (hd a ha).2.2⟩, BT.nil _ _ _, hm2⟩, hd⟩⟩
theorem give_bad_in {w w' : World} {B g n c : Nat} {K : Option Addr} {len : Int} {o : O6} {fr : Nat} {r : HR} {ls : List Value} {e : Ending} {s : FS} (hr : w.ownsRow B 5 1 (.slice K n c) n ls) (hrows : HRows w) (hgl : 0 < g) (hgB : g < B) (hB : B ≤ w.heap.size)
    (h : GvBad w g B o fr r (.slice K n c) e w') (hok : FS.Ok ⟨o, [], len, true, fr⟩) (hs : s = ⟨o, [], len, true, fr⟩) :
    ∃ (E : Ev) (q : Bool) (B' : Nat) (kb' : Option Nat), e = .returned (.tuple #[.agg (evc E), .bool q]) ∧ GiveR w w' B g (Value.slice K n c).ownBlock s [([], r.vp)] B' kb' E q := by
  subst hs
  obtain ⟨D, dm, dc, rfl, ow, hD, R⟩ := h
  have R' := R.mono (pg_pu hr)
  have hsz := R.size
  exact ⟨⟨none, 0, 0, [], r.k1, r.k2, r.k3, D, dm, dc, r.d, r.k5⟩, true, w'.heap.size, none, rfl, fr_mk0 R' hrows hgl hgB hB ow rfl rfl hok, by omega, R, .inr (fun j hj => by cases hj), .inr ⟨rfl, rfl, ⟨BT.nil _ _ _, hD, by simp⟩, fun a ha => by cases ha⟩⟩
set_option maxRecDepth 100000 in
theorem fgive_any (g B : Nat) (kb : Option Nat) (s : FS) (x : Int) (w : World) (h : FrIs w B g s kb) (hc : s.closed = false) (hx : 0 ≤ x ∧ x ≤ 255) (hfr : s.fr ≤ 1000000000) :
    Calls Tryd.prog 29 #[.pointer (some ⟨g, 0, none⟩), .int .u8 x] w fun e w' => ∃ (E : Ev) (q : Bool) (B' : Nat) (kb' : Option Nat), e = .returned (.tuple #[.agg (evc E), .bool q]) ∧ GiveR w w' B g kb (s.step x).1 (s.step x).2 B' kb' E q := by
  have hok' := FS.step_ok h.ok hc hx
  obtain ⟨K, c, want, rfl, ow, hr, hw, hgB, hB, hrows, hgl, hok⟩ := h
  obtain ⟨o, kept, len, closed, fr⟩ := s
  dsimp only at hc ow hr hw hfr
  subst hc
  obtain ⟨a0, a1, a2, a3, a4, a5⟩ := o
  have hl : kept.length < 65535 := hok.len
  have hk2 := rng_snoc hok.rng hx
  have hml : kept.length + 1 = (kept ++ [x]).length := by simp
  by_cases hlk : (FS.mk ⟨a0, a1, a2, a3, a4, a5⟩ kept len false fr).looks x
  · have hacc := hdP_acc a1 (kept ++ [x])
    have hsp := Lib.hid (hdP_same ⟨a0, a1, a2, a3, a4, a5⟩ (kept ++ [x]) hk2).1
    have hlk2 : (kept.length + 1 ≤ 16 ∧ x ≠ 255) ∨ kept.length + 1 = 19 := hlk
    refine (give_parse g B kept.length c (kept.length + 1) K want a0 a1 a2 a3 a4 a5 fr kept x w ow hr hgB hB (by omega) rfl hlk2 hrows hgl hk2 (hdP a1 (kept ++ [x])) hsp (fun e => (hacc e).1) (by omega) (by omega)).mono ?_
    rintro e w' (⟨hk, h⟩ | ⟨hk, hN, h⟩ | ⟨hk, h19, hN, h⟩)
    · have es := FS.step_bad hlk hk
      rw [es] at hok' ⊢
      exact give_bad_in hr hrows hgl hgB hB h hok' rfl
    · have es := FS.step_good hlk hk
      have et : FS.tail ⟨⟨a0, a1, a2, a3, a4, a5⟩, kept ++ [x], (hdP a1 (kept ++ [x])).N, false, fr⟩ = (⟨⟨a0, a1, a2, a3, a4, a5⟩, kept ++ [x], (hdP a1 (kept ++ [x])).N, false, fr⟩, []) := FS.tail_no (by rw [← hml]; exact hN)
      have es2 := es.trans et
      rw [es2] at hok' ⊢
      exact give_no_in hr hrows hgl hgB hB h hml (fun _ => rfl) hok' rfl
    · have es := FS.step_good hlk hk
      have et : FS.tail ⟨⟨a0, a1, a2, a3, a4, a5⟩, kept ++ [x], (hdP a1 (kept ++ [x])).N, false, fr⟩ = (⟨⟨a0, a1, a2, a3, a4, a5⟩, [], (hdP a1 (kept ++ [x])).N, false, fr + 1⟩, [(kept ++ [x], (0, 0, 0, 0, []))]) := FS.tail_yes (by rw [← hml]; exact h19) (by rw [← hml]; exact hN)
      have es2 := es.trans et
      rw [es2] at hok' ⊢
      exact give_yes_in hr hrows hgl hgB hB h hml (by omega) hk2 hok' rfl
  · have es := FS.step_plain hlk
    have hnot : ¬ ((kept.length + 1 ≤ 16 ∧ x ≠ 255) ∨ kept.length + 1 = 19) := hlk
    have e19 : kept.length + 1 ≠ 19 := fun e => hnot (.inr e)
    have eno : ∀ (_ : kept.length + 1 < 19 ∨ ((kept.length + 1 : Nat) : Int) ≠ len), FS.step ⟨⟨a0, a1, a2, a3, a4, a5⟩, kept, len, false, fr⟩ x = (⟨⟨a0, a1, a2, a3, a4, a5⟩, kept ++ [x], len, false, fr⟩, []) := fun h => es.trans (FS.tail_no (by
      show (kept ++ [x]).length < 19 ∨ ((kept ++ [x]).length : Int) ≠ len
      rw [← hml]; exact h))
    by_cases h16 : kept.length + 1 ≤ 16
    · have hx255 : x = 255 := Decidable.byContradiction fun hne => hnot (.inl ⟨h16, hne⟩)
      have es2 := eno (.inl (by omega))
      rw [es2] at hok' ⊢
      exact (give_no1 g B kept.length c (kept.length + 1) K want a0 a1 a2 a3 a4 a5 fr kept x w ow hr hgB hB (by omega) rfl hx255 h16).mono fun e w' h => give_no_in hr hrows hgl hgB hB h hml (fun h => by omega) hok' rfl
    · by_cases h18 : kept.length + 1 < 19
      · have es2 := eno (.inl h18)
        rw [es2] at hok' ⊢
        exact (give_no2 g B kept.length c (kept.length + 1) K want a0 a1 a2 a3 a4 a5 fr kept x w ow hr hgB hB (by omega) rfl (by omega) h18).mono fun e w' h => give_no_in hr hrows hgl hgB hB h hml (fun h => by omega) hok' rfl
      · have h19 : 19 ≤ kept.length := by omega
        have hwl := hw h19
        have hop : (kept.length : Int) < len := hok.open_ h19
        by_cases hN : ((kept.length + 1 : Nat) : Int) = len
        · have es2 : FS.step ⟨⟨a0, a1, a2, a3, a4, a5⟩, kept, len, false, fr⟩ x = (⟨⟨a0, a1, a2, a3, a4, a5⟩, [], len, false, fr + 1⟩, [(kept ++ [x], (0, 0, 0, 0, []))]) := es.trans (FS.tail_yes (by show 19 ≤ (kept ++ [x]).length; omega) (by show ((kept ++ [x]).length : Int) = len; rw [← hml]; exact hN))
          rw [es2] at hok' ⊢
          exact (give_yes g B kept.length c (kept.length + 1) K want a0 a1 a2 a3 a4 a5 fr kept x w ow hr hgB hB (by omega) rfl (by omega) (by rw [hwl]; exact hN) (by omega) (by omega)).mono fun e w' h => give_yes_in hr hrows hgl hgB hB h hml (by omega) hk2 hok' rfl
        · have es2 := eno (.inr hN)
          rw [es2] at hok' ⊢
          exact (give_no3 g B kept.length c (kept.length + 1) K want a0 a1 a2 a3 a4 a5 fr kept x w ow hr hgB hB (by omega) rfl (by omega) (by rw [hwl]; omega)).mono fun e w' h => give_no_in hr hrows hgl hgB hB h hml (fun _ => hwl) hok' rfl
end Go.Proofs.YtgahjchngmojlabDoor

/- frame: Feed, Split -/
namespace Go.Proofs.YtgahjchngmojlabDoor
open Go.RowKit

/-- What Feed leaves. -/
def FeedR (w w' : World) (B g : Nat) (kb : Option Nat) (s' : FS) (ps : List EvP) (B' : Nat) (kb' : Option Nat) (L : List Ev) (v : Value) : Prop :=
  L.map Ev.p = ps ∧ w'.ownsRow w.heap.size 57 6 v L.length (flatE L) ∧ (∀ x ∈ L, x.Ok w' B' ∧ x.T w' B B') ∧ FrIs w' B' g s' kb' ∧ B ≤ B' ∧ Rest w w' (Pk g kb) ∧ (kb' = kb ∨ ∀ j, kb' = some j → w.heap.size ≤ j)
theorem pk_not {w : World} {g B i : Nat} {s : FS} {kb : Option Nat} (h : FrIs w B g s kb) (hi : i < B) (ht : Typed w i 5) : ¬ Pk g kb i := by
  rintro (e | e)
  · exact ht.ne h.typed (Ne.symm fr_types.1) e
  · have := (h.kb i e).1
    omega
theorem row_pk {w w' : World} {g B base n : Nat} {s : FS} {kb : Option Nat} {v : Value} {xs : List Value} (h : FrIs w B g s kb) (hr : w.ownsRow base 57 6 v n xs) (R : Rest w w' (Pk g kb)) : w'.ownsRow base 57 6 v n xs :=
  row_rest hr R (fun j hj e => by
    rcases e with e | e
    · exact (row_typed hr hj).1.ne h.typed (Ne.symm fr_types.2.1) e
    · exact (row_typed hr hj).1.ne (h.kb j e).2.1 fr_types.2.2.1 rfl)
theorem FeedR.give {w w1 w2 : World} {B g Br B' : Nat} {kb kb1 kb2 : Option Nat} {s1 s2 : FS} {ps qs : List EvP} {L : List Ev} {v : Value} {E : Ev} {q : Bool} (h : FeedR w w1 B g kb s1 ps Br kb1 L v) (k : GiveR w1 w2 Br g kb1 s2 qs B' kb2 E q) :
    w2.ownsRow w.heap.size 57 6 v L.length (flatE L) ∧ (∀ x ∈ L, x.Ok w2 B' ∧ x.T w2 B B') ∧ FrIs w2 B' g s2 kb2 ∧ B ≤ B' ∧ Rest w w2 (Pk g kb) ∧ (kb2 = kb ∨ ∀ j, kb2 = some j → w.heap.size ≤ j) ∧ ((q = false ∧ qs = [] ∧ B' = Br) ∨ (q = true ∧ qs = [E.p] ∧ E.Ok w2 B' ∧ E.T w2 B B')) := by
  obtain ⟨_, hrow, hev, hf, hB, hR, hkb⟩ := h
  obtain ⟨hf2, hBB, R2, hkb2, hq⟩ := k
  refine ⟨row_pk hf hrow R2, fun x hx => ⟨((hev x hx).1.rest R2 (fun i hi ht => pk_not hf hi ht) hf.size.2).more hBB, ((hev x hx).2.rest R2 (fun i hi ht => pk_not hf hi ht)).more hBB⟩, hf2, Nat.le_trans hB hBB, hR.pk R2 hkb, kb_trans hkb hkb2 hR.size, ?_⟩
  rcases hq with ⟨h1, h2, h3⟩ | ⟨h1, h2, h3, h4⟩
  · exact .inl ⟨h1, h2, h3⟩
  · exact .inr ⟨h1, h2, h3, h4.low hB⟩
theorem FeedR.below {w w1 w2 : World} {B g Br : Nat} {kb kb1 : Option Nat} {s1 : FS} {ps : List EvP} {L : List Ev} {v : Value} (h : FeedR w w1 B g kb s1 ps Br kb1 L v) (k : Below w1.heap.size w1 w2) : FeedR w w2 B g kb s1 ps Br kb1 L v := by
  obtain ⟨h1, hrow, hev, hf, hB, hR, hkb⟩ := h
  have R := Rest.of_below k (fun _ => False)
  exact ⟨h1, own_belowG hrow k, fun x hx => ⟨(hev x hx).1.below k hf.size.2, (hev x hx).2.rest R (fun _ _ _ f => f)⟩, hf.below k, hB, hR.below k, hkb⟩
/-- One event more in the row. -/
theorem FeedR.push {w w1 w2 : World} {B g B' : Nat} {kb kb1 : Option Nat} {s2 : FS} {ps : List EvP} {L : List Ev} {v v2 : Value} {E : Ev} (hgl : 0 < w.heap.size) (hL : L.map Ev.p = ps) (hrow : w1.ownsRow w.heap.size 57 6 v L.length (flatE L)) (hev : ∀ x ∈ L, x.Ok w1 B' ∧ x.T w1 B B') (hf : FrIs w1 B' g s2 kb1) (hB : B ≤ B') (hR : Rest w w1 (Pk g kb)) (hkb : kb1 = kb ∨ ∀ j, kb1 = some j → w.heap.size ≤ j) (hE : E.Ok w1 B') (hT : E.T w1 B B')
    (hr2 : w2.ownsRow w.heap.size 57 6 v2 (L.length + 1) (flatE L ++ (evc E).toList)) (R2 : Rest w1 w2 (fun i => v.ownBlock = some i)) : FeedR w w2 B g kb s2 (ps ++ [E.p]) B' kb1 (L ++ [E]) v2 := by
  have hno : ∀ i, Typed w1 i 5 → ¬ (v.ownBlock = some i) := fun i ht e => (row_typed hrow e).1.ne ht fr_types.2.2.1 rfl
  have key : ∀ x : Ev, x.Ok w1 B' → x.T w1 B B' → x.Ok w2 B' ∧ x.T w2 B B' := fun x h1 h2 => ⟨h1.rest R2 (fun i _ ht => hno i ht) hf.size.2, h2.rest R2 (fun i _ ht => hno i ht)⟩
  refine ⟨by rw [List.map_append, hL]; rfl, ?_, fun x hx => ?_, hf.rest R2 (fun e => (row_typed hrow e).1.ne hf.typed (Ne.symm fr_types.2.1) rfl) (fun j _ _ ht => hno j ht) (fun e => by have := (row_typed hrow e).2; omega), hB, hR.trans R2 (fun i hi e => by have := (row_typed hrow e).2; omega), hkb⟩
  · rw [List.length_append, flatE_append]
    simpa [flatE] using hr2
  · rcases List.mem_append.1 hx with hx | hx
    · exact key x (hev x hx).1 (hev x hx).2
    · rw [List.mem_singleton] at hx
      subst hx
      exact key _ hE hT
set_option maxRecDepth 100000 in
set_option maxHeartbeats 6400000 in
theorem ffeed_gen (g B n c : Nat) (kb : Option Nat) (s : FS) (A : Option Addr) (xs : List Int) (w : World) (h : FrIs w B g s kb) (hlen : n = xs.length) (hrg : ∀ x ∈ xs, 0 ≤ x ∧ x ≤ 255) (HX : Hid (∀ W k, k < n → Rest w W (Pk g kb) → (k = 0 → W = w) → ∃ b o, A = some ⟨b, o, none⟩ ∧ b < W.heap.size ∧ W.cell? ⟨b, o + k, none⟩ = some (.int .u8 (nth xs k)) ∧ 0 ≤ nth xs k ∧ nth xs k ≤ 255)) (hn : n ≤ 100000) (hfr : s.fr ≤ 100000) :
    Calls Tryd.prog 14 #[.pointer (some ⟨g, 0, none⟩), .slice A n c] w fun e w' => ∃ (v : Value) (L : List Ev) (B' : Nat) (kb' : Option Nat), e = .returned v ∧ FeedR w w' B g kb (s.feed xs).1 (s.feed xs).2 B' kb' L v := by
  have HN := Lib.hid hlen
  have HFO := Lib.hid (fun k => FS.feed_ok h.ok (xs.take k) (fun x hx' => hrg x (List.mem_of_mem_take hx')))
  have HGL := Lib.hid h.hrows.2
  have HF0 := Lib.hid hfr
  have hst : FeedR w w B g kb (s.feed (xs.take 0)).1 (s.feed (xs.take 0)).2 B kb [] (.slice none 0 0) := ⟨rfl, World.ownsRow_nil _ _ _ _, (fun _ h => by cases h), h, Nat.le_refl _, Rest.refl _ _, .inl rfl⟩
  clear h hfr hlen hrg
  go_enter Tryd.func14, Tryd.ntmps14
  go_wp2_with fail
  go_loopw [5, 7, 8, 9, 12] (fun ev _ _ _ i wr => ∃ (k : Nat) (L : List Ev) (Br : Nat) (kr : Option Nat), k ≤ n ∧ i = .int .i64 k ∧ FeedR w wr B g kb (s.feed (xs.take k)).1 (s.feed (xs.take k)).2 Br kr L ev ∧ Hid (k = 0 → wr = w)) (fun _ _ _ _ i _ => n - (intOf i).toNat)
  case atStart => exact ⟨0, [], B, kb, Nat.zero_le _, rfl, hst, Lib.hid (fun _ => rfl)⟩
  case round =>
    obtain ⟨k, L, Br, kr, hk, rfl, hI, hk0⟩ := hrel
    clear hst
    by_cases hlt : k < n
    · obtain ⟨b, o, rfl, HB0, hcx, h0, h1⟩ := HX.out wr k hlt hI.2.2.2.2.2.1 hk0.out
      clear HX hk0
      have hkl := Lib.hid (show k < xs.length by have := HN.out; omega)
      have hfk := HFO.out k
      rw [List.length_take] at hfk
      have HLen := Lib.hid (show L.length ≤ k by have h2 := congrArg List.length hI.1; rw [List.length_map] at h2; omega)
      have HFr := Lib.hid (show (s.feed (xs.take k)).1.fr ≤ 1000000000 by have := HF0.out; omega)
      have HT := Lib.hid (fun hc => FS.feed_take (s := s) hkl.out hc)
      have HSt := Lib.hid (fun hc => FS.feed_stop (s := s) (xs := xs) (k := k) hc)
      generalize s.feed (xs.take k) = p at *
      obtain ⟨s1, ps⟩ := p
      dsimp only at hI HFr HT HSt hfk
      clear hfk
      obtain ⟨K, c1, want, ow⟩ := hI.2.2.2.1.form
      cases hcl : s1.closed with
      | true =>
        rw [hcl] at ow
        have HC := Lib.hid (fclosed_any g _ c1 K want s1.o _ 0 true s1.fr wr ow)
        have HE := Lib.hid (HSt.out hcl)
        clear ow hcl HT HSt HFr h0 h1
        have HI := Lib.hid hI
        clear hI
        go_wp2_with fail
        refine HC.out.mono ?_
        rintro e w' ⟨rfl, rfl⟩
        go_wp2
        go_ret
        refine ⟨_, L, Br, kr, rfl, ?_⟩
        rw [← HE.out]
        exact HI.out
      | false =>
        rw [hcl] at ow
        have HC := Lib.hid (fclosed_any g _ c1 K want s1.o _ 0 false s1.fr wr ow)
        have HG := Lib.hid (fgive_any g Br kr s1 (nth xs k) wr hI.2.2.2.1 hcl ⟨h0, h1⟩ HFr.out)
        have HT2 := Lib.hid (HT.out hcl)
        generalize nth xs k = x at *
        have HI := Lib.hid hI
        clear ow hcl HT HSt HFr hI
        go_wp2_with fail
        refine HC.out.mono ?_
        rintro e w' ⟨rfl, rfl⟩
        go_wp2_with fail
        refine HG.out.mono ?_
        rintro e w3 ⟨E, q, B', kb2, rfl, hG⟩
        obtain ⟨hrow3, hev3, hf3, hBB, R3, hkb3, hq⟩ := HI.out.give hG
        obtain ⟨EA, En, Ec, Ex, E1, E2, E3, ED, Em, Ee, Ed, E5⟩ := E
        have bX := bl_alloc (bl_refl w3) (.cells #[.slice EA En Ec, .int .i64 E1, .int .i64 E2, .int .i64 E3, .slice ED Em Ee, .int .i64 E5] 57)
        have hL1 := Lib.hid HI.out.1
        have hLk := HLen.out
        clear hG HG HC hcx h0 h1
        simp only [evc]
        cases q with
        | false =>
          obtain ⟨hps, rfl⟩ : (s1.step x).2 = [] ∧ B' = Br := by
            rcases hq with ⟨_, h2, h3⟩ | ⟨h2, _⟩
            · exact ⟨h2, h3⟩
            · cases h2
          have HF := Lib.hid (FeedR.below (w := w) (B := B) (v := u5) (ps := ps) ⟨hL1.out, hrow3, hev3, hf3, hBB, R3, hkb3⟩ bX)
          have HPS := Lib.hid hps
          clear hrow3 hev3 hf3 hBB R3 hkb3 hq hps
          go_wp2
          go_roundw
          case rel => exact ⟨k + 1, L, B', _, by omega, by go_num, by rw [HT2.out]; dsimp only; rw [HPS.out, List.append_nil]; exact HF.out, Lib.hid (fun h => absurd h (by omega))⟩
          case measure => simp [intOf]; omega
        | true =>
          obtain ⟨hps, hEo, hEt⟩ : (s1.step x).2 = [Ev.p ⟨EA, En, Ec, Ex, E1, E2, E3, ED, Em, Ee, Ed, E5⟩] ∧ Ev.Ok w3 B' ⟨EA, En, Ec, Ex, E1, E2, E3, ED, Em, Ee, Ed, E5⟩ ∧ Ev.T w3 B B' ⟨EA, En, Ec, Ex, E1, E2, E3, ED, Em, Ee, Ed, E5⟩ := by
            rcases hq with ⟨h2, _⟩ | ⟨_, h2, h3, h4⟩
            · cases h2
            · exact ⟨h2, h3, h4⟩
          have oS := Own.new (w3.alloc (.cells #[.slice EA En Ec, .int .i64 E1, .int .i64 E2, .int .i64 E3, .slice ED Em Ee, .int .i64 E5] 57)) 57 #[.slice EA En Ec, .int .i64 E1, .int .i64 E2, .int .i64 E3, .slice ED Em Ee, .int .i64 E5]
          rw [show (w3.alloc (.cells #[.slice EA En Ec, .int .i64 E1, .int .i64 E2, .int .i64 E3, .slice ED Em Ee, .int .i64 E5] 57)).heap.size = w3.heap.size + 1 by simp] at oS
          have bY := bl_alloc bX (.cells #[.slice EA En Ec, .int .i64 E1, .int .i64 E2, .int .i64 E3, .slice ED Em Ee, .int .i64 E5] 57)
          have HRow := Lib.hid (own_belowG hrow3 bY)
          have HPu := Lib.hid (fun w6 v6 h1 h2 => FeedR.push (E := ⟨EA, En, Ec, Ex, E1, E2, E3, ED, Em, Ee, Ed, E5⟩) (w2 := w6) (v2 := v6) HGL.out hL1.out hrow3 hev3 hf3 hBB R3 hkb3 hEo hEt h1 h2)
          have HPS := Lib.hid hps
          have hsz : w.heap.size ≤ w3.heap.size := R3.size
          clear hrow3 hev3 hf3 hBB R3 hkb3 hq hps hEo hEt bX
          go_wp2_with (at_builtin; refine wpList_append_grow _ rfl _ _ rfl sl_evs w.heap.size _ L.length (flatE L) rfl HRow.out (w3.heap.size + 1 + 1) (some ⟨w3.heap.size + 1, 0, none⟩) 1 1 [.slice EA En Ec, .int .i64 E1, .int .i64 E2, .int .i64 E3, .slice ED Em Ee, .int .i64 E5] rfl rfl (Shows.of_owned (xs := [.slice EA En Ec, .int .i64 E1, .int .i64 E2, .int .i64 E3, .slice ED Em Ee, .int .i64 E5]) oS (Nat.lt_succ_self _)) (fun u hu => L6_one (e := ⟨EA, En, Ec, Ex, E1, E2, E3, ED, Em, Ee, Ed, E5⟩) hu) (by unfold maxLen; omega) (by omega) (by simp; omega) ?_; intro v6 w6 hrow6 hg6)
          have R6 : Rest w3 w6 (fun i => u5.ownBlock = some i) := (Rest.of_below bY (fun i => u5.ownBlock = some i)).trans (Rest.of_grown hg6 (P := fun i => u5.ownBlock = some i) (fun j hj => hj)) (fun i _ h => h)
          have HF := Lib.hid (HPu.out w6 v6 hrow6 R6)
          clear hrow6 hg6 R6
          go_roundw
          case rel => exact ⟨k + 1, _, B', _, by omega, by go_num, by rw [HT2.out]; dsimp only; rw [HPS.out]; exact HF.out, Lib.hid (fun h => absurd h (by omega))⟩
          case measure => simp [intOf]; omega
    · have he : k = xs.length := by have := HN.out; omega
      have HE := Lib.hid (show xs.take k = xs by rw [he, List.take_length])
      have HI := Lib.hid hI
      clear hI he
      go_wp2
      go_ret
      refine ⟨_, L, Br, kr, rfl, ?_⟩
      have := HI.out
      rw [HE.out] at this
      exact this
set_option maxRecDepth 100000 in
theorem ffeed_any (g B n c : Nat) (kb : Option Nat) (s : FS) (A : Option Addr) (xs : List Int) (w : World) (h : FrIs w B g s kb) (hx : Bytes w B A n xs) (hn : n ≤ 100000) (hfr : s.fr ≤ 100000) :
    Calls Tryd.prog 14 #[.pointer (some ⟨g, 0, none⟩), .slice A n c] w fun e w' => ∃ (v : Value) (L : List Ev) (B' : Nat) (kb' : Option Nat), e = .returned v ∧ FeedR w w' B g kb (s.feed xs).1 (s.feed xs).2 B' kb' L v :=
  ffeed_gen g B n c kb s A xs w h hx.1 hx.2.1 (Lib.hid fun W k hk R _ => by
    obtain ⟨b, o, h1, h2, h3, h4, h5⟩ := (h.bytes R hx).at_ hk
    exact ⟨b, o, h1, by have := R.size; have := h.size.2; omega, h3, h4, h5⟩) hn hfr
set_option maxRecDepth 100000 in
theorem ffeed_one (g B j c : Nat) (kb : Option Nat) (s : FS) (x : Int) (w : World) (h : FrIs w B g s kb) (hj : w.cell? ⟨j, 0, none⟩ = some (.int .u8 x)) (hjl : j < w.heap.size) (hx : 0 ≤ x ∧ x ≤ 255) (hfr : s.fr ≤ 100000) :
    Calls Tryd.prog 14 #[.pointer (some ⟨g, 0, none⟩), .slice (some ⟨j, 0, none⟩) 1 c] w fun e w' => ∃ (v : Value) (L : List Ev) (B' : Nat) (kb' : Option Nat), e = .returned v ∧ FeedR w w' B g kb (s.feed [x]).1 (s.feed [x]).2 B' kb' L v :=
  ffeed_gen g B 1 c kb s (some ⟨j, 0, none⟩) [x] w h rfl (fun y hy => by rw [List.mem_singleton] at hy; rw [hy]; exact hx) (Lib.hid fun W k hk _ he => by
    have h0 : k = 0 := by omega
    subst h0
    obtain rfl := he rfl
    exact ⟨j, 0, rfl, hjl, hj, hx.1, hx.2⟩) (by omega) hfr
end Go.Proofs.YtgahjchngmojlabDoor

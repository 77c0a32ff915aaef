/- flag.Canonical -/
import Derived.Test.YtmcnpkfeipelgaaGreatDoorFlCa
namespace Go.Proofs.YtmcnpkfeipelgaaGreatDoor
open Go.RowKit

set_option maxRecDepth 100000 in
set_option maxHeartbeats 2000000 in
theorem canon_any (k : Int) (p : Bool) (n : Int) (w : World) (hk : (Lit.int .i64 k).wf = true) :
    Calls Tryz.prog 53 #[.int .i64 k, .bool p, .int .i64 n] w fun e w' => e = .returned (.tuple #[.agg (canH k p n), .bool (canOk k p n)]) ∧ Below w.heap.size w w' := by
  have ho := Own.new w 42 #[.int .i64 0, .int .i64 0, .int .i64 0]
  have hb0 := bl_alloc (bl_refl w) (.cells #[.int .i64 0, .int .i64 0, .int .i64 0] 42)
  have q1 := or_flags.1
  have q2 := or_flags.2.1
  have q3 := or_flags.2.2.1
  have q4 := or_flags.2.2.2.1
  have q5 := or_flags.2.2.2.2
  have hcl : ∃ c, flagCls k = c ∧ (c = 64 ∨ c = 128 ∨ c = 192 ∨ c = 0) := ⟨_, rfl, flagCls_cases k⟩
  obtain ⟨c, hc, hcc⟩ := hcl
  have hkn : flagKnown k = decide (c ≠ 0) := by unfold flagKnown; rw [hc]
  have hcc2 : canC k = if c = 0 then 192 else c := by unfold canC; rw [hkn, hc]; by_cases h0 : c = 0 <;> simp [h0]
  have HC := Lib.hid hc
  have HKN := Lib.hid hkn
  have HCC := Lib.hid hcc2
  clear hc hkn hcc2
  rcases hcc with rfl | rfl | rfl | rfl
  · cases p
    · go_enter Tryz.func53, Tryz.ntmps53
      go_wp2_with fail
      refine (class_any k _ hk).mono ?_
      rw [HKN.out, HC.out]
      rintro e w1 ⟨rfl, hb1⟩
      have o1 := ho.below hb1 ho.lt
      have c0 := o1.cell (i := 0) (v := .int .i64 0) rfl
      have c1 := o1.cell (i := 1) (v := .int .i64 0) rfl
      have c2 := o1.cell (i := 2) (v := .int .i64 0) rfl
      have f0 := o1.frozen 0
      have f1 := o1.frozen 1
      have f2 := o1.frozen 2
      have hlt := o1.lt
      have hbw := bl_trans hb0 hb1
      go_wp2_with (go_at_call 103; refine (isByte_any _ _).mono ?_; rintro e w' ⟨rfl, rfl⟩)
      · refine bodyPost_ret (results_cell_tmp (p := 6) (t := 7) (fn := Tryz.f53) rfl _ _ w.heap.size 42 #[.int .i64 80, .int .i64 k, .int .i64 n] _ rfl ((own_three o1 (.int .i64 80) (.int .i64 k) (.int .i64 n)).alloc _) fhead_desc rfl (fhead_info _ _ _)) rfl ⟨?_, bl_alloc (((hbw.setCell (p := ⟨w.heap.size, 0, none⟩) (Nat.le_refl _) _).setCell (p := ⟨w.heap.size, 1, none⟩) (Nat.le_refl _) _).setCell (p := ⟨w.heap.size, 2, none⟩) (Nat.le_refl _) _) _⟩
        obtain ⟨e1, e2⟩ := canH_ok (k := k) (p := false) (n := n) (F := 80) HCC.out (by omega) (by omega) (by omega) (by simp) (by rw [if_pos (show (255 : Int) < n by omega)]; rfl); rw [e1, e2]; rfl
      · refine bodyPost_ret (results_cell_tmp (p := 6) (t := 7) (fn := Tryz.f53) rfl _ _ w.heap.size 42 #[.int .i64 64, .int .i64 k, .int .i64 n] _ rfl ((own_three o1 (.int .i64 64) (.int .i64 k) (.int .i64 n)).alloc _) fhead_desc rfl (fhead_info _ _ _)) rfl ⟨?_, bl_alloc (((hbw.setCell (p := ⟨w.heap.size, 0, none⟩) (Nat.le_refl _) _).setCell (p := ⟨w.heap.size, 1, none⟩) (Nat.le_refl _) _).setCell (p := ⟨w.heap.size, 2, none⟩) (Nat.le_refl _) _) _⟩
        obtain ⟨e1, e2⟩ := canH_ok (k := k) (p := false) (n := n) (F := 64) HCC.out (by omega) (by omega) (by omega) (by simp) (by rw [if_neg (show ¬ (255 : Int) < n by omega)]; rfl); rw [e1, e2]; rfl
      all_goals
        refine bodyPost_ret (results_cell_tmp (p := 6) (t := 7) (fn := Tryz.f53) rfl _ _ w.heap.size 42 #[.int .i64 0, .int .i64 0, .int .i64 0] _ rfl (own_three o1 _ _ _) fhead_desc rfl (fhead_info _ _ _)) rfl ⟨?_, ((hbw.setCell (p := ⟨w.heap.size, 0, none⟩) (Nat.le_refl _) _).setCell (p := ⟨w.heap.size, 1, none⟩) (Nat.le_refl _) _).setCell (p := ⟨w.heap.size, 2, none⟩) (Nat.le_refl _) _⟩
        obtain ⟨e1, e2⟩ := canH_no (k := k) (p := false) (n := n) HCC.out (by first | omega | (refine .inr (.inr (.inr ⟨rfl, by decide⟩)))); rw [e1, e2]; rfl
    · go_enter Tryz.func53, Tryz.ntmps53
      go_wp2_with fail
      refine (class_any k _ hk).mono ?_
      rw [HKN.out, HC.out]
      rintro e w1 ⟨rfl, hb1⟩
      have o1 := ho.below hb1 ho.lt
      have c0 := o1.cell (i := 0) (v := .int .i64 0) rfl
      have c1 := o1.cell (i := 1) (v := .int .i64 0) rfl
      have c2 := o1.cell (i := 2) (v := .int .i64 0) rfl
      have f0 := o1.frozen 0
      have f1 := o1.frozen 1
      have f2 := o1.frozen 2
      have hlt := o1.lt
      have hbw := bl_trans hb0 hb1
      go_wp2_with (go_at_call 103; refine (isByte_any _ _).mono ?_; rintro e w' ⟨rfl, rfl⟩)
      all_goals
        refine bodyPost_ret (results_cell_tmp (p := 6) (t := 7) (fn := Tryz.f53) rfl _ _ w.heap.size 42 #[.int .i64 0, .int .i64 0, .int .i64 0] _ rfl (own_three o1 _ _ _) fhead_desc rfl (fhead_info _ _ _)) rfl ⟨?_, ((hbw.setCell (p := ⟨w.heap.size, 0, none⟩) (Nat.le_refl _) _).setCell (p := ⟨w.heap.size, 1, none⟩) (Nat.le_refl _) _).setCell (p := ⟨w.heap.size, 2, none⟩) (Nat.le_refl _) _⟩
        obtain ⟨e1, e2⟩ := canH_no (k := k) (p := true) (n := n) HCC.out (by first | omega | (refine .inr (.inr (.inr ⟨rfl, by decide⟩)))); rw [e1, e2]; rfl
  · cases p
    · go_enter Tryz.func53, Tryz.ntmps53
      go_wp2_with fail
      refine (class_any k _ hk).mono ?_
      rw [HKN.out, HC.out]
      rintro e w1 ⟨rfl, hb1⟩
      have o1 := ho.below hb1 ho.lt
      have c0 := o1.cell (i := 0) (v := .int .i64 0) rfl
      have c1 := o1.cell (i := 1) (v := .int .i64 0) rfl
      have c2 := o1.cell (i := 2) (v := .int .i64 0) rfl
      have f0 := o1.frozen 0
      have f1 := o1.frozen 1
      have f2 := o1.frozen 2
      have hlt := o1.lt
      have hbw := bl_trans hb0 hb1
      go_wp2_with (go_at_call 103; refine (isByte_any _ _).mono ?_; rintro e w' ⟨rfl, rfl⟩)
      · refine bodyPost_ret (results_cell_tmp (p := 6) (t := 7) (fn := Tryz.f53) rfl _ _ w.heap.size 42 #[.int .i64 144, .int .i64 k, .int .i64 n] _ rfl ((own_three o1 (.int .i64 144) (.int .i64 k) (.int .i64 n)).alloc _) fhead_desc rfl (fhead_info _ _ _)) rfl ⟨?_, bl_alloc (((hbw.setCell (p := ⟨w.heap.size, 0, none⟩) (Nat.le_refl _) _).setCell (p := ⟨w.heap.size, 1, none⟩) (Nat.le_refl _) _).setCell (p := ⟨w.heap.size, 2, none⟩) (Nat.le_refl _) _) _⟩
        obtain ⟨e1, e2⟩ := canH_ok (k := k) (p := false) (n := n) (F := 144) HCC.out (by omega) (by omega) (by omega) (by simp) (by rw [if_pos (show (255 : Int) < n by omega)]; rfl); rw [e1, e2]; rfl
      · refine bodyPost_ret (results_cell_tmp (p := 6) (t := 7) (fn := Tryz.f53) rfl _ _ w.heap.size 42 #[.int .i64 128, .int .i64 k, .int .i64 n] _ rfl ((own_three o1 (.int .i64 128) (.int .i64 k) (.int .i64 n)).alloc _) fhead_desc rfl (fhead_info _ _ _)) rfl ⟨?_, bl_alloc (((hbw.setCell (p := ⟨w.heap.size, 0, none⟩) (Nat.le_refl _) _).setCell (p := ⟨w.heap.size, 1, none⟩) (Nat.le_refl _) _).setCell (p := ⟨w.heap.size, 2, none⟩) (Nat.le_refl _) _) _⟩
        obtain ⟨e1, e2⟩ := canH_ok (k := k) (p := false) (n := n) (F := 128) HCC.out (by omega) (by omega) (by omega) (by simp) (by rw [if_neg (show ¬ (255 : Int) < n by omega)]; rfl); rw [e1, e2]; rfl
      all_goals
        refine bodyPost_ret (results_cell_tmp (p := 6) (t := 7) (fn := Tryz.f53) rfl _ _ w.heap.size 42 #[.int .i64 0, .int .i64 0, .int .i64 0] _ rfl (own_three o1 _ _ _) fhead_desc rfl (fhead_info _ _ _)) rfl ⟨?_, ((hbw.setCell (p := ⟨w.heap.size, 0, none⟩) (Nat.le_refl _) _).setCell (p := ⟨w.heap.size, 1, none⟩) (Nat.le_refl _) _).setCell (p := ⟨w.heap.size, 2, none⟩) (Nat.le_refl _) _⟩
        obtain ⟨e1, e2⟩ := canH_no (k := k) (p := false) (n := n) HCC.out (by first | omega | (refine .inr (.inr (.inr ⟨rfl, by decide⟩)))); rw [e1, e2]; rfl
    · go_enter Tryz.func53, Tryz.ntmps53
      go_wp2_with fail
      refine (class_any k _ hk).mono ?_
      rw [HKN.out, HC.out]
      rintro e w1 ⟨rfl, hb1⟩
      have o1 := ho.below hb1 ho.lt
      have c0 := o1.cell (i := 0) (v := .int .i64 0) rfl
      have c1 := o1.cell (i := 1) (v := .int .i64 0) rfl
      have c2 := o1.cell (i := 2) (v := .int .i64 0) rfl
      have f0 := o1.frozen 0
      have f1 := o1.frozen 1
      have f2 := o1.frozen 2
      have hlt := o1.lt
      have hbw := bl_trans hb0 hb1
      go_wp2_with (go_at_call 103; refine (isByte_any _ _).mono ?_; rintro e w' ⟨rfl, rfl⟩)
      all_goals
        refine bodyPost_ret (results_cell_tmp (p := 6) (t := 7) (fn := Tryz.f53) rfl _ _ w.heap.size 42 #[.int .i64 0, .int .i64 0, .int .i64 0] _ rfl (own_three o1 _ _ _) fhead_desc rfl (fhead_info _ _ _)) rfl ⟨?_, ((hbw.setCell (p := ⟨w.heap.size, 0, none⟩) (Nat.le_refl _) _).setCell (p := ⟨w.heap.size, 1, none⟩) (Nat.le_refl _) _).setCell (p := ⟨w.heap.size, 2, none⟩) (Nat.le_refl _) _⟩
        obtain ⟨e1, e2⟩ := canH_no (k := k) (p := true) (n := n) HCC.out (by first | omega | (refine .inr (.inr (.inr ⟨rfl, by decide⟩)))); rw [e1, e2]; rfl
  · cases p
    · go_enter Tryz.func53, Tryz.ntmps53
      go_wp2_with fail
      refine (class_any k _ hk).mono ?_
      rw [HKN.out, HC.out]
      rintro e w1 ⟨rfl, hb1⟩
      have o1 := ho.below hb1 ho.lt
      have c0 := o1.cell (i := 0) (v := .int .i64 0) rfl
      have c1 := o1.cell (i := 1) (v := .int .i64 0) rfl
      have c2 := o1.cell (i := 2) (v := .int .i64 0) rfl
      have f0 := o1.frozen 0
      have f1 := o1.frozen 1
      have f2 := o1.frozen 2
      have hlt := o1.lt
      have hbw := bl_trans hb0 hb1
      go_wp2_with (go_at_call 103; refine (isByte_any _ _).mono ?_; rintro e w' ⟨rfl, rfl⟩)
      · refine bodyPost_ret (results_cell_tmp (p := 6) (t := 7) (fn := Tryz.f53) rfl _ _ w.heap.size 42 #[.int .i64 208, .int .i64 k, .int .i64 n] _ rfl ((own_three o1 (.int .i64 208) (.int .i64 k) (.int .i64 n)).alloc _) fhead_desc rfl (fhead_info _ _ _)) rfl ⟨?_, bl_alloc (((hbw.setCell (p := ⟨w.heap.size, 0, none⟩) (Nat.le_refl _) _).setCell (p := ⟨w.heap.size, 1, none⟩) (Nat.le_refl _) _).setCell (p := ⟨w.heap.size, 2, none⟩) (Nat.le_refl _) _) _⟩
        obtain ⟨e1, e2⟩ := canH_ok (k := k) (p := false) (n := n) (F := 208) HCC.out (by omega) (by omega) (by omega) (by simp) (by rw [if_pos (show (255 : Int) < n by omega)]; rfl); rw [e1, e2]; rfl
      · refine bodyPost_ret (results_cell_tmp (p := 6) (t := 7) (fn := Tryz.f53) rfl _ _ w.heap.size 42 #[.int .i64 192, .int .i64 k, .int .i64 n] _ rfl ((own_three o1 (.int .i64 192) (.int .i64 k) (.int .i64 n)).alloc _) fhead_desc rfl (fhead_info _ _ _)) rfl ⟨?_, bl_alloc (((hbw.setCell (p := ⟨w.heap.size, 0, none⟩) (Nat.le_refl _) _).setCell (p := ⟨w.heap.size, 1, none⟩) (Nat.le_refl _) _).setCell (p := ⟨w.heap.size, 2, none⟩) (Nat.le_refl _) _) _⟩
        obtain ⟨e1, e2⟩ := canH_ok (k := k) (p := false) (n := n) (F := 192) HCC.out (by omega) (by omega) (by omega) (by simp) (by rw [if_neg (show ¬ (255 : Int) < n by omega)]; rfl); rw [e1, e2]; rfl
      all_goals
        refine bodyPost_ret (results_cell_tmp (p := 6) (t := 7) (fn := Tryz.f53) rfl _ _ w.heap.size 42 #[.int .i64 0, .int .i64 0, .int .i64 0] _ rfl (own_three o1 _ _ _) fhead_desc rfl (fhead_info _ _ _)) rfl ⟨?_, ((hbw.setCell (p := ⟨w.heap.size, 0, none⟩) (Nat.le_refl _) _).setCell (p := ⟨w.heap.size, 1, none⟩) (Nat.le_refl _) _).setCell (p := ⟨w.heap.size, 2, none⟩) (Nat.le_refl _) _⟩
        obtain ⟨e1, e2⟩ := canH_no (k := k) (p := false) (n := n) HCC.out (by first | omega | (refine .inr (.inr (.inr ⟨rfl, by decide⟩)))); rw [e1, e2]; rfl
    · go_enter Tryz.func53, Tryz.ntmps53
      go_wp2_with fail
      refine (class_any k _ hk).mono ?_
      rw [HKN.out, HC.out]
      rintro e w1 ⟨rfl, hb1⟩
      have o1 := ho.below hb1 ho.lt
      have c0 := o1.cell (i := 0) (v := .int .i64 0) rfl
      have c1 := o1.cell (i := 1) (v := .int .i64 0) rfl
      have c2 := o1.cell (i := 2) (v := .int .i64 0) rfl
      have f0 := o1.frozen 0
      have f1 := o1.frozen 1
      have f2 := o1.frozen 2
      have hlt := o1.lt
      have hbw := bl_trans hb0 hb1
      go_wp2_with (go_at_call 103; refine (isByte_any _ _).mono ?_; rintro e w' ⟨rfl, rfl⟩)
      · refine bodyPost_ret (results_cell_tmp (p := 6) (t := 7) (fn := Tryz.f53) rfl _ _ w.heap.size 42 #[.int .i64 240, .int .i64 k, .int .i64 n] _ rfl ((own_three o1 (.int .i64 240) (.int .i64 k) (.int .i64 n)).alloc _) fhead_desc rfl (fhead_info _ _ _)) rfl ⟨?_, bl_alloc (((hbw.setCell (p := ⟨w.heap.size, 0, none⟩) (Nat.le_refl _) _).setCell (p := ⟨w.heap.size, 1, none⟩) (Nat.le_refl _) _).setCell (p := ⟨w.heap.size, 2, none⟩) (Nat.le_refl _) _) _⟩
        obtain ⟨e1, e2⟩ := canH_ok (k := k) (p := true) (n := n) (F := 240) HCC.out (by omega) (by omega) (by omega) (by simp) (by rw [if_pos (show (255 : Int) < n by omega)]; rfl); rw [e1, e2]; rfl
      · refine bodyPost_ret (results_cell_tmp (p := 6) (t := 7) (fn := Tryz.f53) rfl _ _ w.heap.size 42 #[.int .i64 224, .int .i64 k, .int .i64 n] _ rfl ((own_three o1 (.int .i64 224) (.int .i64 k) (.int .i64 n)).alloc _) fhead_desc rfl (fhead_info _ _ _)) rfl ⟨?_, bl_alloc (((hbw.setCell (p := ⟨w.heap.size, 0, none⟩) (Nat.le_refl _) _).setCell (p := ⟨w.heap.size, 1, none⟩) (Nat.le_refl _) _).setCell (p := ⟨w.heap.size, 2, none⟩) (Nat.le_refl _) _) _⟩
        obtain ⟨e1, e2⟩ := canH_ok (k := k) (p := true) (n := n) (F := 224) HCC.out (by omega) (by omega) (by omega) (by simp) (by rw [if_neg (show ¬ (255 : Int) < n by omega)]; rfl); rw [e1, e2]; rfl
      all_goals
        refine bodyPost_ret (results_cell_tmp (p := 6) (t := 7) (fn := Tryz.f53) rfl _ _ w.heap.size 42 #[.int .i64 0, .int .i64 0, .int .i64 0] _ rfl (own_three o1 _ _ _) fhead_desc rfl (fhead_info _ _ _)) rfl ⟨?_, ((hbw.setCell (p := ⟨w.heap.size, 0, none⟩) (Nat.le_refl _) _).setCell (p := ⟨w.heap.size, 1, none⟩) (Nat.le_refl _) _).setCell (p := ⟨w.heap.size, 2, none⟩) (Nat.le_refl _) _⟩
        obtain ⟨e1, e2⟩ := canH_no (k := k) (p := true) (n := n) HCC.out (by first | omega | (refine .inr (.inr (.inr ⟨rfl, by decide⟩)))); rw [e1, e2]; rfl
  · cases p
    · go_enter Tryz.func53, Tryz.ntmps53
      go_wp2_with fail
      refine (class_any k _ hk).mono ?_
      rw [HKN.out, HC.out]
      rintro e w1 ⟨rfl, hb1⟩
      have o1 := ho.below hb1 ho.lt
      have c0 := o1.cell (i := 0) (v := .int .i64 0) rfl
      have c1 := o1.cell (i := 1) (v := .int .i64 0) rfl
      have c2 := o1.cell (i := 2) (v := .int .i64 0) rfl
      have f0 := o1.frozen 0
      have f1 := o1.frozen 1
      have f2 := o1.frozen 2
      have hlt := o1.lt
      have hbw := bl_trans hb0 hb1
      go_wp2_with (go_at_call 103; refine (isByte_any _ _).mono ?_; rintro e w' ⟨rfl, rfl⟩)
      · refine bodyPost_ret (results_cell_tmp (p := 6) (t := 7) (fn := Tryz.f53) rfl _ _ w.heap.size 42 #[.int .i64 208, .int .i64 k, .int .i64 n] _ rfl ((own_three o1 (.int .i64 208) (.int .i64 k) (.int .i64 n)).alloc _) fhead_desc rfl (fhead_info _ _ _)) rfl ⟨?_, bl_alloc (((hbw.setCell (p := ⟨w.heap.size, 0, none⟩) (Nat.le_refl _) _).setCell (p := ⟨w.heap.size, 1, none⟩) (Nat.le_refl _) _).setCell (p := ⟨w.heap.size, 2, none⟩) (Nat.le_refl _) _) _⟩
        obtain ⟨e1, e2⟩ := canH_ok (k := k) (p := false) (n := n) (F := 208) HCC.out (by omega) (by omega) (by omega) (by simp) (by rw [if_pos (show (255 : Int) < n by omega)]; rfl); rw [e1, e2]; rfl
      · refine bodyPost_ret (results_cell_tmp (p := 6) (t := 7) (fn := Tryz.f53) rfl _ _ w.heap.size 42 #[.int .i64 192, .int .i64 k, .int .i64 n] _ rfl ((own_three o1 (.int .i64 192) (.int .i64 k) (.int .i64 n)).alloc _) fhead_desc rfl (fhead_info _ _ _)) rfl ⟨?_, bl_alloc (((hbw.setCell (p := ⟨w.heap.size, 0, none⟩) (Nat.le_refl _) _).setCell (p := ⟨w.heap.size, 1, none⟩) (Nat.le_refl _) _).setCell (p := ⟨w.heap.size, 2, none⟩) (Nat.le_refl _) _) _⟩
        obtain ⟨e1, e2⟩ := canH_ok (k := k) (p := false) (n := n) (F := 192) HCC.out (by omega) (by omega) (by omega) (by simp) (by rw [if_neg (show ¬ (255 : Int) < n by omega)]; rfl); rw [e1, e2]; rfl
      all_goals
        refine bodyPost_ret (results_cell_tmp (p := 6) (t := 7) (fn := Tryz.f53) rfl _ _ w.heap.size 42 #[.int .i64 0, .int .i64 0, .int .i64 0] _ rfl (own_three o1 _ _ _) fhead_desc rfl (fhead_info _ _ _)) rfl ⟨?_, ((hbw.setCell (p := ⟨w.heap.size, 0, none⟩) (Nat.le_refl _) _).setCell (p := ⟨w.heap.size, 1, none⟩) (Nat.le_refl _) _).setCell (p := ⟨w.heap.size, 2, none⟩) (Nat.le_refl _) _⟩
        obtain ⟨e1, e2⟩ := canH_no (k := k) (p := false) (n := n) HCC.out (by first | omega | (refine .inr (.inr (.inr ⟨rfl, by decide⟩)))); rw [e1, e2]; rfl
    · go_enter Tryz.func53, Tryz.ntmps53
      go_wp2_with fail
      refine (class_any k _ hk).mono ?_
      rw [HKN.out, HC.out]
      rintro e w1 ⟨rfl, hb1⟩
      have o1 := ho.below hb1 ho.lt
      have c0 := o1.cell (i := 0) (v := .int .i64 0) rfl
      have c1 := o1.cell (i := 1) (v := .int .i64 0) rfl
      have c2 := o1.cell (i := 2) (v := .int .i64 0) rfl
      have f0 := o1.frozen 0
      have f1 := o1.frozen 1
      have f2 := o1.frozen 2
      have hlt := o1.lt
      have hbw := bl_trans hb0 hb1
      go_wp2_with (go_at_call 103; refine (isByte_any _ _).mono ?_; rintro e w' ⟨rfl, rfl⟩)
      · refine bodyPost_ret (results_cell_tmp (p := 6) (t := 7) (fn := Tryz.f53) rfl _ _ w.heap.size 42 #[.int .i64 240, .int .i64 k, .int .i64 n] _ rfl ((own_three o1 (.int .i64 240) (.int .i64 k) (.int .i64 n)).alloc _) fhead_desc rfl (fhead_info _ _ _)) rfl ⟨?_, bl_alloc (((hbw.setCell (p := ⟨w.heap.size, 0, none⟩) (Nat.le_refl _) _).setCell (p := ⟨w.heap.size, 1, none⟩) (Nat.le_refl _) _).setCell (p := ⟨w.heap.size, 2, none⟩) (Nat.le_refl _) _) _⟩
        obtain ⟨e1, e2⟩ := canH_ok (k := k) (p := true) (n := n) (F := 240) HCC.out (by omega) (by omega) (by omega) (by simp) (by rw [if_pos (show (255 : Int) < n by omega)]; rfl); rw [e1, e2]; rfl
      · refine bodyPost_ret (results_cell_tmp (p := 6) (t := 7) (fn := Tryz.f53) rfl _ _ w.heap.size 42 #[.int .i64 224, .int .i64 k, .int .i64 n] _ rfl ((own_three o1 (.int .i64 224) (.int .i64 k) (.int .i64 n)).alloc _) fhead_desc rfl (fhead_info _ _ _)) rfl ⟨?_, bl_alloc (((hbw.setCell (p := ⟨w.heap.size, 0, none⟩) (Nat.le_refl _) _).setCell (p := ⟨w.heap.size, 1, none⟩) (Nat.le_refl _) _).setCell (p := ⟨w.heap.size, 2, none⟩) (Nat.le_refl _) _) _⟩
        obtain ⟨e1, e2⟩ := canH_ok (k := k) (p := true) (n := n) (F := 224) HCC.out (by omega) (by omega) (by omega) (by simp) (by rw [if_neg (show ¬ (255 : Int) < n by omega)]; rfl); rw [e1, e2]; rfl
      all_goals
        refine bodyPost_ret (results_cell_tmp (p := 6) (t := 7) (fn := Tryz.f53) rfl _ _ w.heap.size 42 #[.int .i64 0, .int .i64 0, .int .i64 0] _ rfl (own_three o1 _ _ _) fhead_desc rfl (fhead_info _ _ _)) rfl ⟨?_, ((hbw.setCell (p := ⟨w.heap.size, 0, none⟩) (Nat.le_refl _) _).setCell (p := ⟨w.heap.size, 1, none⟩) (Nat.le_refl _) _).setCell (p := ⟨w.heap.size, 2, none⟩) (Nat.le_refl _) _⟩
        obtain ⟨e1, e2⟩ := canH_no (k := k) (p := true) (n := n) HCC.out (by first | omega | (refine .inr (.inr (.inr ⟨rfl, by decide⟩)))); rw [e1, e2]; rfl
end Go.Proofs.YtmcnpkfeipelgaaGreatDoor

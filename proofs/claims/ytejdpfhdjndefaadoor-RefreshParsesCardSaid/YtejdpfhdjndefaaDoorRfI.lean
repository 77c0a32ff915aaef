/- RefreshMakes: the walk -/
import Derived.Test.YtejdpfhdjndefaaDoorRfH
namespace Go.Proofs.YtejdpfhdjndefaaDoor
open Go.RowKit Extern.Stop

theorem own_six {W : World} {g : Nat} {T : TypeId} {a0 a1 a2 a3 a4 a5 : Bool} (o : Own W g T #[.bool a0, .bool a1, .bool a2, .bool a3, .bool a4, .bool a5]) :
    W.cell? ⟨g, 0, none⟩ = some (.bool a0) ∧ W.cell? ⟨g, 1, none⟩ = some (.bool a1) ∧ W.cell? ⟨g, 2, none⟩ = some (.bool a2) ∧ W.cell? ⟨g, 3, none⟩ = some (.bool a3) ∧ W.cell? ⟨g, 4, none⟩ = some (.bool a4) ∧ W.cell? ⟨g, 5, none⟩ = some (.bool a5) :=
  ⟨o.cell rfl, o.cell rfl, o.cell rfl, o.cell rfl, o.cell rfl, o.cell rfl⟩
theorem own_thr {W : World} {k : Nat} {U : TypeId} {a b c : Int} (p : Own W k U #[.int .i64 a, .int .i64 b, .int .i64 c]) :
    W.cell? ⟨k, 0, none⟩ = some (.int .i64 a) ∧ W.cell? ⟨k, 1, none⟩ = some (.int .i64 b) ∧ W.cell? ⟨k, 2, none⟩ = some (.int .i64 c) := ⟨p.cell rfl, p.cell rfl, p.cell rfl⟩
set_option maxRecDepth 100000 in
theorem rMP_two (a0 a1 a2 a3 a4 a5 : Bool) (w : World) :
    Calls Tryd.prog 30 #[.agg #[.bool a0, .bool a1, .bool a2, .bool a3, .bool a4, .bool a5], .int .i64 2] w fun e w' => e = .returned (.bool a3) ∧ Below w.heap.size w w' := by
  refine (rMP_any a0 a1 a2 a3 a4 a5 2 w).mono ?_
  rintro e w' ⟨rfl, hb⟩
  exact ⟨by simp, hb⟩
set_option maxRecDepth 100000 in
theorem rf_neq_same (a b c : Int) (W : World) : (binOp .neq 52 (.agg #[.int .i64 a, .int .i64 b, .int .i64 c]) (.agg #[.int .i64 a, .int .i64 b, .int .i64 c])).run Tryd.prog W = Result.ok (.bool false) W := by
  rw [rf_neq]; simp
set_option maxRecDepth 100000 in
set_option maxHeartbeats 1600000 in
theorem rfmakes_no (a0 a1 a2 a3 a4 a5 : Bool) (f s : Int) (w : World) (ht : Fams w) (hk : ¬ ((f = 1 ∨ f = 2) ∧ 0 ≤ s ∧ s ≤ 255)) :
    Calls Tryd.prog 8 #[.agg #[.bool a0, .bool a1, .bool a2, .bool a3, .bool a4, .bool a5], .int .i64 f, .int .i64 s] w fun e w' => e = .returned (.bool true) ∧ Below w.heap.size w w' := by
  have HK := Lib.hid hk
  have hb0 := bl_alloc (bl_refl w) (.cells #[.bool a0, .bool a1, .bool a2, .bool a3, .bool a4, .bool a5] 23)
  have ht0 := ht.alloc (.cells #[.bool a0, .bool a1, .bool a2, .bool a3, .bool a4, .bool a5] 23)
  have hneq := rf_neq_same 0 0 0
  clear hk
  go_enter Tryd.func8, Tryd.ntmps8
  go_wp2_with fail
  refine (rfmake_no f s _ ht0 HK.out).mono ?_
  rintro e w1 ⟨rfl, hb1⟩
  have ht1 := (ht0.below hb1).alloc (.cells #[.int .i64 0, .int .i64 0, .int .i64 0] 52)
  have hb2 := bl_alloc (bl_trans hb0 hb1) (.cells #[.int .i64 0, .int .i64 0, .int .i64 0] 52)
  have o2 := Own.new w1 52 #[.int .i64 0, .int .i64 0, .int .i64 0]
  clear ht0 hb0 hb1
  go_wp2_with fail
  refine (rrfmake_no f s _ HK.out).mono ?_
  rintro e w2 ⟨rfl, hb3⟩
  have ht2 := (ht1.below hb3).alloc (.cells #[.int .i64 0, .int .i64 0, .int .i64 0] 55)
  have hb4 := bl_alloc (bl_trans hb2 hb3) (.cells #[.int .i64 0, .int .i64 0, .int .i64 0] 55)
  have o3 := (o2.step hb3).alloc (.cells #[.int .i64 0, .int .i64 0, .int .i64 0] 55)
  obtain ⟨c0, c1, c2⟩ := own_thr o3
  clear ht1 hb2 hb3 o2
  go_wp2_with fail
  refine (alive19_any _ ht2).mono ?_
  rintro e w3 ⟨rfl, hb5⟩
  have hb6 := bl_trans hb4 hb5
  go_wp2
  go_ret
  exact ⟨rfl, hb6⟩
set_option maxRecDepth 100000 in
set_option maxHeartbeats 1600000 in
theorem rfmakes_1_s (a0 a1 a2 a3 a4 a5 : Bool) (s : Int) (w : World) (ht : Fams w) (h0 : 0 ≤ s) (h1 : s ≤ 255) (h2 : s ≤ 2) :
    Calls Tryd.prog 8 #[.agg #[.bool a0, .bool a1, .bool a2, .bool a3, .bool a4, .bool a5], .int .i64 1, .int .i64 s] w fun e w' => e = .returned (.bool true) ∧ Below w.heap.size w w' := by
  have HU := Lib.hid (show rfUse a3 1 s 1 = true by
    have e1 : rfOk 1 s 1 = true := by unfold rfOk; simp; omega
    have e2 : decide (s ≤ 2) = true := by simpa using h2
    unfold rfUse
    rw [e1, e2]
    rfl)
  have e2 : decide (s ≤ 2) = true := by simpa using h2
  have HI := Lib.hid (show famIn a3 1 = true by rfl)
  have hb0 := bl_alloc (bl_refl w) (.cells #[.bool a0, .bool a1, .bool a2, .bool a3, .bool a4, .bool a5] 23)
  have o0 := Own.new w 23 #[.bool a0, .bool a1, .bool a2, .bool a3, .bool a4, .bool a5]
  have ht0 := ht.alloc (.cells #[.bool a0, .bool a1, .bool a2, .bool a3, .bool a4, .bool a5] 23)
  have hneq := rf_neq_same 1 s 1
  clear h2 ht
  go_enter Tryd.func8, Tryd.ntmps8
  go_wp2_with fail
  refine (rfmake_yes 1 s _ ht0 (by omega) h0 h1).mono ?_
  rintro e w1 ⟨rfl, hb1⟩
  have ht1 := (ht0.below hb1).alloc (.cells #[.int .i64 1, .int .i64 s, .int .i64 1] 52)
  have hb2 := bl_alloc (bl_trans hb0 hb1) (.cells #[.int .i64 1, .int .i64 s, .int .i64 1] 52)
  have o1 := (o0.step hb1).alloc (.cells #[.int .i64 1, .int .i64 s, .int .i64 1] 52)
  have o2 := Own.new w1 52 #[.int .i64 1, .int .i64 s, .int .i64 1]
  clear ht0 hb0 hb1 o0
  go_wp2_with fail
  refine (rrfmake_yes 1 s _ (by omega) h0 h1).mono ?_
  rintro e w2 ⟨rfl, hb3⟩
  have ht2 := (ht1.below hb3).alloc (.cells #[.int .i64 1, .int .i64 s, .int .i64 1] 55)
  have hb4 := bl_alloc (bl_trans hb2 hb3) (.cells #[.int .i64 1, .int .i64 s, .int .i64 1] 55)
  have o3 := (o1.step hb3).alloc (.cells #[.int .i64 1, .int .i64 s, .int .i64 1] 55)
  have o4 := (o2.step hb3).alloc (.cells #[.int .i64 1, .int .i64 s, .int .i64 1] 55)
  obtain ⟨c0, c1, c2⟩ := own_thr o4
  obtain ⟨b0, b1, b2, b3, b4, b5⟩ := own_six o3
  clear ht1 hb2 hb3 o1 o2
  go_wp2_with fail
  refine (alive19_any _ ht2).mono ?_
  rintro e w3 ⟨rfl, hb5⟩
  have hb6 := bl_trans hb4 hb5
  have o5 := o3.step hb5
  have o6 := o4.step hb5
  have ht3 := ht2.below hb5
  clear c0 c1 c2 b0 b1 b2 b3 b4 b5
  obtain ⟨c0, c1, c2⟩ := own_thr o6
  obtain ⟨b0, b1, b2, b3, b4, b5⟩ := own_six o5
  clear hb4 hb5 ht2 o3 o4
  go_wp2_with fail
  refine (useful_agg a0 a1 a2 a3 a4 a5 1 s 1 _ ht3).mono ?_
  rw [HU.out]
  rintro e w4 ⟨rfl, hb7⟩
  have hb8 := bl_trans hb6 hb7
  have o7 := o5.step hb7
  clear c0 c1 c2 b0 b1 b2 b3 b4 b5
  obtain ⟨b0, b1, b2, b3, b4, b5⟩ := own_six o7
  clear hb6 hb7 ht3 o5 o6
  go_wp2_with fail
  refine (ofam_agg a0 a1 a2 a3 a4 a5 _).mono ?_
  rintro e w5 ⟨rfl, og, hb9⟩
  have hb10 := bl_trans hb8 hb9
  have o8 := o7.step hb9
  clear b0 b1 b2 b3 b4 b5
  obtain ⟨b0, b1, b2, b3, b4, b5⟩ := own_six o8
  clear hb8 hb9 o7
  go_wp2_with fail
  refine (icontains_any a3 _ 1 _ og).mono ?_
  rw [HI.out]
  rintro e w6 ⟨rfl, rfl⟩
  have hq : (a3 == a3) = true := by simp
  go_wp2
  go_ret
  exact ⟨rfl, hb10⟩
set_option maxRecDepth 100000 in
set_option maxHeartbeats 1600000 in
theorem rfmakes_1_b (a0 a1 a2 a3 a4 a5 : Bool) (s : Int) (w : World) (ht : Fams w) (h0 : 0 ≤ s) (h1 : s ≤ 255) (h2 : ¬ s ≤ 2) :
    Calls Tryd.prog 8 #[.agg #[.bool a0, .bool a1, .bool a2, .bool a3, .bool a4, .bool a5], .int .i64 1, .int .i64 s] w fun e w' => e = .returned (.bool true) ∧ Below w.heap.size w w' := by
  have HU := Lib.hid (show rfUse a3 1 s 1 = false by
    have e1 : rfOk 1 s 1 = true := by unfold rfOk; simp; omega
    have e2 : decide (s ≤ 2) = false := by simpa using h2
    unfold rfUse
    rw [e1, e2]
    rfl)
  have e2 : decide (s ≤ 2) = false := by simpa using h2
  have HI := Lib.hid (show famIn a3 1 = true by rfl)
  have hb0 := bl_alloc (bl_refl w) (.cells #[.bool a0, .bool a1, .bool a2, .bool a3, .bool a4, .bool a5] 23)
  have o0 := Own.new w 23 #[.bool a0, .bool a1, .bool a2, .bool a3, .bool a4, .bool a5]
  have ht0 := ht.alloc (.cells #[.bool a0, .bool a1, .bool a2, .bool a3, .bool a4, .bool a5] 23)
  have hneq := rf_neq_same 1 s 1
  clear h2 ht
  go_enter Tryd.func8, Tryd.ntmps8
  go_wp2_with fail
  refine (rfmake_yes 1 s _ ht0 (by omega) h0 h1).mono ?_
  rintro e w1 ⟨rfl, hb1⟩
  have ht1 := (ht0.below hb1).alloc (.cells #[.int .i64 1, .int .i64 s, .int .i64 1] 52)
  have hb2 := bl_alloc (bl_trans hb0 hb1) (.cells #[.int .i64 1, .int .i64 s, .int .i64 1] 52)
  have o1 := (o0.step hb1).alloc (.cells #[.int .i64 1, .int .i64 s, .int .i64 1] 52)
  have o2 := Own.new w1 52 #[.int .i64 1, .int .i64 s, .int .i64 1]
  clear ht0 hb0 hb1 o0
  go_wp2_with fail
  refine (rrfmake_yes 1 s _ (by omega) h0 h1).mono ?_
  rintro e w2 ⟨rfl, hb3⟩
  have ht2 := (ht1.below hb3).alloc (.cells #[.int .i64 1, .int .i64 s, .int .i64 1] 55)
  have hb4 := bl_alloc (bl_trans hb2 hb3) (.cells #[.int .i64 1, .int .i64 s, .int .i64 1] 55)
  have o3 := (o1.step hb3).alloc (.cells #[.int .i64 1, .int .i64 s, .int .i64 1] 55)
  have o4 := (o2.step hb3).alloc (.cells #[.int .i64 1, .int .i64 s, .int .i64 1] 55)
  obtain ⟨c0, c1, c2⟩ := own_thr o4
  obtain ⟨b0, b1, b2, b3, b4, b5⟩ := own_six o3
  clear ht1 hb2 hb3 o1 o2
  go_wp2_with fail
  refine (alive19_any _ ht2).mono ?_
  rintro e w3 ⟨rfl, hb5⟩
  have hb6 := bl_trans hb4 hb5
  have o5 := o3.step hb5
  have o6 := o4.step hb5
  have ht3 := ht2.below hb5
  clear c0 c1 c2 b0 b1 b2 b3 b4 b5
  obtain ⟨c0, c1, c2⟩ := own_thr o6
  obtain ⟨b0, b1, b2, b3, b4, b5⟩ := own_six o5
  clear hb4 hb5 ht2 o3 o4
  go_wp2_with fail
  refine (useful_agg a0 a1 a2 a3 a4 a5 1 s 1 _ ht3).mono ?_
  rw [HU.out]
  rintro e w4 ⟨rfl, hb7⟩
  have hb8 := bl_trans hb6 hb7
  have o7 := o5.step hb7
  clear c0 c1 c2 b0 b1 b2 b3 b4 b5
  obtain ⟨b0, b1, b2, b3, b4, b5⟩ := own_six o7
  clear hb6 hb7 ht3 o5 o6
  go_wp2_with fail
  refine (ofam_agg a0 a1 a2 a3 a4 a5 _).mono ?_
  rintro e w5 ⟨rfl, og, hb9⟩
  have hb10 := bl_trans hb8 hb9
  have o8 := o7.step hb9
  clear b0 b1 b2 b3 b4 b5
  obtain ⟨b0, b1, b2, b3, b4, b5⟩ := own_six o8
  clear hb8 hb9 o7
  go_wp2_with fail
  refine (icontains_any a3 _ 1 _ og).mono ?_
  rw [HI.out]
  rintro e w6 ⟨rfl, rfl⟩
  have hq : (a3 == a3) = true := by simp
  go_wp2
  go_ret
  exact ⟨rfl, hb10⟩
set_option maxRecDepth 100000 in
set_option maxHeartbeats 1600000 in
theorem rfmakes_2_s (a0 a1 a2 a3 a4 a5 : Bool) (s : Int) (w : World) (ht : Fams w) (h0 : 0 ≤ s) (h1 : s ≤ 255) (h2 : s ≤ 2) :
    Calls Tryd.prog 8 #[.agg #[.bool a0, .bool a1, .bool a2, .bool a3, .bool a4, .bool a5], .int .i64 2, .int .i64 s] w fun e w' => e = .returned (.bool true) ∧ Below w.heap.size w w' := by
  have HU := Lib.hid (show rfUse a3 2 s 1 = a3 by
    have e1 : rfOk 2 s 1 = true := by unfold rfOk; simp; omega
    have e2 : decide (s ≤ 2) = true := by simpa using h2
    unfold rfUse
    rw [e1, e2]
    cases a3 <;> rfl)
  have e2 : decide (s ≤ 2) = true := by simpa using h2
  have HI := Lib.hid (show famIn a3 2 = a3 by cases a3 <;> rfl)
  have hb0 := bl_alloc (bl_refl w) (.cells #[.bool a0, .bool a1, .bool a2, .bool a3, .bool a4, .bool a5] 23)
  have o0 := Own.new w 23 #[.bool a0, .bool a1, .bool a2, .bool a3, .bool a4, .bool a5]
  have ht0 := ht.alloc (.cells #[.bool a0, .bool a1, .bool a2, .bool a3, .bool a4, .bool a5] 23)
  have hneq := rf_neq_same 2 s 1
  clear h2 ht
  go_enter Tryd.func8, Tryd.ntmps8
  go_wp2_with fail
  refine (rfmake_yes 2 s _ ht0 (by omega) h0 h1).mono ?_
  rintro e w1 ⟨rfl, hb1⟩
  have ht1 := (ht0.below hb1).alloc (.cells #[.int .i64 2, .int .i64 s, .int .i64 1] 52)
  have hb2 := bl_alloc (bl_trans hb0 hb1) (.cells #[.int .i64 2, .int .i64 s, .int .i64 1] 52)
  have o1 := (o0.step hb1).alloc (.cells #[.int .i64 2, .int .i64 s, .int .i64 1] 52)
  have o2 := Own.new w1 52 #[.int .i64 2, .int .i64 s, .int .i64 1]
  clear ht0 hb0 hb1 o0
  go_wp2_with fail
  refine (rrfmake_yes 2 s _ (by omega) h0 h1).mono ?_
  rintro e w2 ⟨rfl, hb3⟩
  have ht2 := (ht1.below hb3).alloc (.cells #[.int .i64 2, .int .i64 s, .int .i64 1] 55)
  have hb4 := bl_alloc (bl_trans hb2 hb3) (.cells #[.int .i64 2, .int .i64 s, .int .i64 1] 55)
  have o3 := (o1.step hb3).alloc (.cells #[.int .i64 2, .int .i64 s, .int .i64 1] 55)
  have o4 := (o2.step hb3).alloc (.cells #[.int .i64 2, .int .i64 s, .int .i64 1] 55)
  obtain ⟨c0, c1, c2⟩ := own_thr o4
  obtain ⟨b0, b1, b2, b3, b4, b5⟩ := own_six o3
  clear ht1 hb2 hb3 o1 o2
  go_wp2_with fail
  refine (rMP_two a0 a1 a2 a3 a4 a5 _).mono ?_
  rintro e wm ⟨rfl, hbm⟩
  replace ht2 := ht2.below hbm
  replace hb4 := bl_trans hb4 hbm
  replace o3 := o3.step hbm
  replace o4 := o4.step hbm
  clear c0 c1 c2 b0 b1 b2 b3 b4 b5
  obtain ⟨c0, c1, c2⟩ := own_thr o4
  obtain ⟨b0, b1, b2, b3, b4, b5⟩ := own_six o3
  clear hbm
  go_wp2_with fail
  refine (alive19_any _ ht2).mono ?_
  rintro e w3 ⟨rfl, hb5⟩
  have hb6 := bl_trans hb4 hb5
  have o5 := o3.step hb5
  have o6 := o4.step hb5
  have ht3 := ht2.below hb5
  clear c0 c1 c2 b0 b1 b2 b3 b4 b5
  obtain ⟨c0, c1, c2⟩ := own_thr o6
  obtain ⟨b0, b1, b2, b3, b4, b5⟩ := own_six o5
  clear hb4 hb5 ht2 o3 o4
  go_wp2_with fail
  refine (useful_agg a0 a1 a2 a3 a4 a5 2 s 1 _ ht3).mono ?_
  rw [HU.out]
  rintro e w4 ⟨rfl, hb7⟩
  have hb8 := bl_trans hb6 hb7
  have o7 := o5.step hb7
  clear c0 c1 c2 b0 b1 b2 b3 b4 b5
  obtain ⟨b0, b1, b2, b3, b4, b5⟩ := own_six o7
  clear hb6 hb7 ht3 o5 o6
  go_wp2_with fail
  refine (ofam_agg a0 a1 a2 a3 a4 a5 _).mono ?_
  rintro e w5 ⟨rfl, og, hb9⟩
  have hb10 := bl_trans hb8 hb9
  have o8 := o7.step hb9
  clear b0 b1 b2 b3 b4 b5
  obtain ⟨b0, b1, b2, b3, b4, b5⟩ := own_six o8
  clear hb8 hb9 o7
  go_wp2_with fail
  refine (icontains_any a3 _ 2 _ og).mono ?_
  rw [HI.out]
  rintro e w6 ⟨rfl, rfl⟩
  have hq : (a3 == a3) = true := by simp
  go_wp2
  go_ret
  exact ⟨rfl, hb10⟩
set_option maxRecDepth 100000 in
set_option maxHeartbeats 1600000 in
theorem rfmakes_2_b (a0 a1 a2 a3 a4 a5 : Bool) (s : Int) (w : World) (ht : Fams w) (h0 : 0 ≤ s) (h1 : s ≤ 255) (h2 : ¬ s ≤ 2) :
    Calls Tryd.prog 8 #[.agg #[.bool a0, .bool a1, .bool a2, .bool a3, .bool a4, .bool a5], .int .i64 2, .int .i64 s] w fun e w' => e = .returned (.bool true) ∧ Below w.heap.size w w' := by
  have HU := Lib.hid (show rfUse a3 2 s 1 = false by
    have e1 : rfOk 2 s 1 = true := by unfold rfOk; simp; omega
    have e2 : decide (s ≤ 2) = false := by simpa using h2
    unfold rfUse
    rw [e1, e2]
    rfl)
  have e2 : decide (s ≤ 2) = false := by simpa using h2
  have HI := Lib.hid (show famIn a3 2 = a3 by cases a3 <;> rfl)
  have hb0 := bl_alloc (bl_refl w) (.cells #[.bool a0, .bool a1, .bool a2, .bool a3, .bool a4, .bool a5] 23)
  have o0 := Own.new w 23 #[.bool a0, .bool a1, .bool a2, .bool a3, .bool a4, .bool a5]
  have ht0 := ht.alloc (.cells #[.bool a0, .bool a1, .bool a2, .bool a3, .bool a4, .bool a5] 23)
  have hneq := rf_neq_same 2 s 1
  clear h2 ht
  go_enter Tryd.func8, Tryd.ntmps8
  go_wp2_with fail
  refine (rfmake_yes 2 s _ ht0 (by omega) h0 h1).mono ?_
  rintro e w1 ⟨rfl, hb1⟩
  have ht1 := (ht0.below hb1).alloc (.cells #[.int .i64 2, .int .i64 s, .int .i64 1] 52)
  have hb2 := bl_alloc (bl_trans hb0 hb1) (.cells #[.int .i64 2, .int .i64 s, .int .i64 1] 52)
  have o1 := (o0.step hb1).alloc (.cells #[.int .i64 2, .int .i64 s, .int .i64 1] 52)
  have o2 := Own.new w1 52 #[.int .i64 2, .int .i64 s, .int .i64 1]
  clear ht0 hb0 hb1 o0
  go_wp2_with fail
  refine (rrfmake_yes 2 s _ (by omega) h0 h1).mono ?_
  rintro e w2 ⟨rfl, hb3⟩
  have ht2 := (ht1.below hb3).alloc (.cells #[.int .i64 2, .int .i64 s, .int .i64 1] 55)
  have hb4 := bl_alloc (bl_trans hb2 hb3) (.cells #[.int .i64 2, .int .i64 s, .int .i64 1] 55)
  have o3 := (o1.step hb3).alloc (.cells #[.int .i64 2, .int .i64 s, .int .i64 1] 55)
  have o4 := (o2.step hb3).alloc (.cells #[.int .i64 2, .int .i64 s, .int .i64 1] 55)
  obtain ⟨c0, c1, c2⟩ := own_thr o4
  obtain ⟨b0, b1, b2, b3, b4, b5⟩ := own_six o3
  clear ht1 hb2 hb3 o1 o2
  go_wp2_with fail
  refine (alive19_any _ ht2).mono ?_
  rintro e w3 ⟨rfl, hb5⟩
  have hb6 := bl_trans hb4 hb5
  have o5 := o3.step hb5
  have o6 := o4.step hb5
  have ht3 := ht2.below hb5
  clear c0 c1 c2 b0 b1 b2 b3 b4 b5
  obtain ⟨c0, c1, c2⟩ := own_thr o6
  obtain ⟨b0, b1, b2, b3, b4, b5⟩ := own_six o5
  clear hb4 hb5 ht2 o3 o4
  go_wp2_with fail
  refine (useful_agg a0 a1 a2 a3 a4 a5 2 s 1 _ ht3).mono ?_
  rw [HU.out]
  rintro e w4 ⟨rfl, hb7⟩
  have hb8 := bl_trans hb6 hb7
  have o7 := o5.step hb7
  clear c0 c1 c2 b0 b1 b2 b3 b4 b5
  obtain ⟨b0, b1, b2, b3, b4, b5⟩ := own_six o7
  clear hb6 hb7 ht3 o5 o6
  go_wp2_with fail
  refine (ofam_agg a0 a1 a2 a3 a4 a5 _).mono ?_
  rintro e w5 ⟨rfl, og, hb9⟩
  have hb10 := bl_trans hb8 hb9
  have o8 := o7.step hb9
  clear b0 b1 b2 b3 b4 b5
  obtain ⟨b0, b1, b2, b3, b4, b5⟩ := own_six o8
  clear hb8 hb9 o7
  go_wp2_with fail
  refine (icontains_any a3 _ 2 _ og).mono ?_
  rw [HI.out]
  rintro e w6 ⟨rfl, rfl⟩
  have hq : (a3 == a3) = true := by simp
  go_wp2
  go_ret
  exact ⟨rfl, hb10⟩
set_option maxRecDepth 100000 in
theorem rfmakes_all (a0 a1 a2 a3 a4 a5 : Bool) (f s : Int) (w : World) (ht : Fams w) :
    Calls Tryd.prog 8 #[.agg #[.bool a0, .bool a1, .bool a2, .bool a3, .bool a4, .bool a5], .int .i64 f, .int .i64 s] w fun e w' => e = .returned (.bool true) ∧ Below w.heap.size w w' := by
  by_cases hk : (f = 1 ∨ f = 2) ∧ 0 ≤ s ∧ s ≤ 255
  · obtain ⟨rfl | rfl, h0, h1⟩ := hk
    · by_cases h2 : s ≤ 2
      · exact rfmakes_1_s a0 a1 a2 a3 a4 a5 s w ht h0 h1 h2
      · exact rfmakes_1_b a0 a1 a2 a3 a4 a5 s w ht h0 h1 h2
    · by_cases h2 : s ≤ 2
      · exact rfmakes_2_s a0 a1 a2 a3 a4 a5 s w ht h0 h1 h2
      · exact rfmakes_2_b a0 a1 a2 a3 a4 a5 s w ht h0 h1 h2
  · exact rfmakes_no a0 a1 a2 a3 a4 a5 f s w ht hk
end Go.Proofs.YtejdpfhdjndefaaDoor

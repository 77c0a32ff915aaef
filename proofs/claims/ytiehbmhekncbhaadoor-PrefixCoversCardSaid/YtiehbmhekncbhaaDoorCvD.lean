/- PrefixCovers -/
import Derived.Test.YtiehbmhekncbhaaDoorCvC
namespace Go.Proofs.YtiehbmhekncbhaaDoor
open Go.RowKit Go.Sort

set_option maxRecDepth 100000 in
set_option maxHeartbeats 1600000 in
theorem pcv_walk (f1 l1 f2 l2 f3 l3 : Int) (a1 a2 a3 : List Int) (w : World) (ht : Tens w) (h1 : IsAddr a1) (h2 : IsAddr a2) (h3 : IsAddr a3) (X Y Z S : Bool)
    (hX : Hid (cov f1 l1 a1 f2 l2 a2 = X)) (hY : Hid (cov f2 l2 a2 f3 l3 a3 = Y)) (hZ : Hid (cov f1 l1 a1 f3 l3 a3 = Z)) (hS : Hid (pfxOk f1 l1 a1 = S)) (hT : Hid (X = true → Y = true → Z = true)) :
    Calls Tryd.prog 5 #[.agg (pfx f1 l1 a1), .agg (pfx f2 l2 a2), .agg (pfx f3 l3 a3)] w fun e w' => e = .returned (.bool true) ∧ Below w.heap.size w w' := by
  have HS1 := Lib.hid (pfx_info (f := f1) (l := l1) h1.1)
  have HS2 := Lib.hid (pfx_info (f := f2) (l := l2) h2.1)
  have HS3 := Lib.hid (pfx_info (f := f3) (l := l3) h3.1)
  have hb0 := bl_alloc (bl_alloc (bl_alloc (bl_refl w) (.cells (pfx f1 l1 a1) 28)) (.cells (pfx f2 l2 a2) 28)) (.cells (pfx f3 l3 a3) 28)
  have o1 := ((Own.new w 28 (pfx f1 l1 a1)).alloc (.cells (pfx f2 l2 a2) 28)).alloc (.cells (pfx f3 l3 a3) 28)
  have o2 := (Own.new (w.alloc (.cells (pfx f1 l1 a1) 28)) 28 (pfx f2 l2 a2)).alloc (.cells (pfx f3 l3 a3) 28)
  have o3 := Own.new ((w.alloc (.cells (pfx f1 l1 a1) 28)).alloc (.cells (pfx f2 l2 a2) 28)) 28 (pfx f3 l3 a3)
  rw [show (w.alloc (.cells (pfx f1 l1 a1) 28)).heap.size = w.heap.size + 1 by simp] at o2
  rw [show ((w.alloc (.cells (pfx f1 l1 a1) 28)).alloc (.cells (pfx f2 l2 a2) 28)).heap.size = w.heap.size + 1 + 1 by simp] at o3
  go_enter Tryd.func5, Tryd.ntmps5
  go_wp2_with fail
  generalize ((w.alloc (.cells (pfx f1 l1 a1) 28)).alloc (.cells (pfx f2 l2 a2) 28)).alloc (.cells (pfx f3 l3 a3) 28) = W at *
  generalize w.heap.size + 1 + 1 = g3 at o3 ⊢
  generalize w.heap.size + 1 = g2 at o2 ⊢
  have x12 := Lib.hid (rg_of (w := W) (v := .bool X) (fun W' _ => by have := pcovers_any f1 l1 f2 l2 a1 a2 W' h1 h2; rw [hX.out] at this; exact this))
  have x23 := Lib.hid (rg_of (w := W) (v := .bool Y) (fun W' _ => by have := pcovers_any f2 l2 f3 l3 a2 a3 W' h2 h3; rw [hY.out] at this; exact this))
  refine wp_region_quiet_below (by kernel_rfl) (by kernel_rfl) ?_
  repeat (first
    | go_big_quiet_skip
    | (refine wpQuiet_load_row (by rfl) 28 _ rfl w.heap.size rfl 28 (pfx f1 l1 a1) (.struct (Tryd.prog.fieldsOf 28)) o1.rg (by kernel_rfl) rfl HS1.out ?_; go_simp)
    | (refine wpQuiet_load_row (by rfl) 28 _ rfl g2 rfl 28 (pfx f2 l2 a2) (.struct (Tryd.prog.fieldsOf 28)) o2.rg (by kernel_rfl) rfl HS2.out ?_; go_simp)
    | (refine wpQuiet_load_row (by rfl) 28 _ rfl g3 rfl 28 (pfx f3 l3 a3) (.struct (Tryd.prog.fieldsOf 28)) o3.rg (by kernel_rfl) rfl HS3.out ?_; go_simp)
    | go_big_quiet_step (with_reducible first | exact x12.out _ _ | exact x23.out _ _))
  refine wpQuiet_nil ?_
  rintro ⟨dq, osq⟩
  have hgw := below_regrown W dq osq
  have q1 := o1.step hgw
  have q2 := o2.step hgw
  have q3 := o3.step hgw
  have hb1 := bl_trans hb0 hgw
  generalize grow (redrawn W dq) osq = V at *
  clear x12 x23 o1 o2 o3 hgw hb0
  have ht1 := ht.below hb1
  go_wp2_with fail
  have al := Lib.hid (rg_of (w := V) (fun W' hW => alive2_any W' (ht1.below hW)))
  have r12 := Lib.hid (rg_of (w := V) (v := .bool X) (fun W' _ => by have := rcovers_any f1 l1 f2 l2 a1 a2 W' h1 h2; rw [hX.out] at this; exact this))
  have r23 := Lib.hid (rg_of (w := V) (v := .bool Y) (fun W' _ => by have := rcovers_any f2 l2 f3 l3 a2 a3 W' h2 h3; rw [hY.out] at this; exact this))
  have x11 := Lib.hid (rg_of (w := V) (v := .bool S) (fun W' _ => by have := pcovers_any f1 l1 f1 l1 a1 a1 W' h1 h1; rw [cov_self, hS.out] at this; exact this))
  have rv1 := Lib.hid (rg_of (w := V) (v := .bool S) (fun W' _ => by have := rpvalid_any f1 l1 a1 W' h1; rw [hS.out] at this; exact this))
  have x13 := Lib.hid (rg_of (w := V) (v := .bool Z) (fun W' _ => by have := pcovers_any f1 l1 f3 l3 a1 a3 W' h1 h3; rw [hZ.out] at this; exact this))
  have hZt := Lib.hid hT.out
  cases X
  all_goals cases Y
  all_goals first
    | (obtain rfl : Z = true := hZt.out rfl rfl)
    | skip
  all_goals
    refine wp_region_quiet_below (by kernel_rfl) (by kernel_rfl) ?_
    repeat (first
      | go_big_quiet_skip
      | (refine wpQuiet_load_row (by rfl) 28 _ rfl w.heap.size rfl 28 (pfx f1 l1 a1) (.struct (Tryd.prog.fieldsOf 28)) q1.rg (by kernel_rfl) rfl HS1.out ?_; go_simp)
      | (refine wpQuiet_load_row (by rfl) 28 _ rfl g2 rfl 28 (pfx f2 l2 a2) (.struct (Tryd.prog.fieldsOf 28)) q2.rg (by kernel_rfl) rfl HS2.out ?_; go_simp)
      | (refine wpQuiet_load_row (by rfl) 28 _ rfl g3 rfl 28 (pfx f3 l3 a3) (.struct (Tryd.prog.fieldsOf 28)) q3.rg (by kernel_rfl) rfl HS3.out ?_; go_simp)
      | go_big_quiet_step (with_reducible first | exact al.out _ _ | exact r12.out _ _ | exact r23.out _ _ | exact x11.out _ _ | exact rv1.out _ _ | exact x13.out _ _))
    refine wpQuiet_nil ?_
    rintro ⟨dq2, osq2⟩
    have hb2 := bl_trans hb1 (below_regrown V dq2 osq2)
    generalize grow (redrawn V dq2) osq2 = U at *
    go_wp2
    go_ret
    exact ⟨rfl, hb2⟩
set_option maxRecDepth 100000 in
theorem pcv_all (f1 l1 f2 l2 f3 l3 : Int) (a1 a2 a3 : List Int) (w : World) (ht : Tens w) (h1 : IsAddr a1) (h2 : IsAddr a2) (h3 : IsAddr a3) :
    Calls Tryd.prog 5 #[.agg (pfx f1 l1 a1), .agg (pfx f2 l2 a2), .agg (pfx f3 l3 a3)] w fun e w' => e = .returned (.bool true) ∧ Below w.heap.size w w' :=
  pcv_walk f1 l1 f2 l2 f3 l3 a1 a2 a3 w ht h1 h2 h3 _ _ _ _ (Lib.hid rfl) (Lib.hid rfl) (Lib.hid rfl) (Lib.hid rfl) (Lib.hid (fun x y => cov_trans h1 h2 h3 x y))
end Go.Proofs.YtiehbmhekncbhaaDoor

/- PrefixOrders -/
import Derived.Test.YtiehbmhekncbhaaDoorOrC
import Derived.Test.YtiehbmhekncbhaaDoorAl2
import Derived.Test.YtiehbmhekncbhaaDoorPeq
namespace Go.Proofs.YtiehbmhekncbhaaDoor
open Go.RowKit Go.Sort

theorem pcmp_range {f l f' l' : Int} {a b : List Int} (ha : IsAddr a) (hb : IsAddr b) : pcmp f l a f' l' b = -1 ∨ pcmp f l a f' l' b = 0 ∨ pcmp f l a f' l' b = 1 := by
  have h1 := cmpI_range f f'
  have h2 := cb_range a b (by rw [ha.1, hb.1]) (addr_byt ha) (addr_byt hb)
  unfold cb at h2
  have h3 := cmpI_range l l'
  unfold pcmp or3
  repeat' split
  all_goals assumption
set_option maxRecDepth 100000 in
set_option maxHeartbeats 3200000 in
theorem por_walk (f1 l1 f2 l2 f3 l3 : Int) (a1 a2 a3 : List Int) (w : World) (ht : Tens w) (h1 : IsAddr a1) (h2 : IsAddr a2) (h3 : IsAddr a3) (N N' M K : Int) (E : Bool)
    (hN : Hid (pcmp f1 l1 a1 f2 l2 a2 = N)) (hN' : Hid (pcmp f2 l2 a2 f1 l1 a1 = N')) (hM : Hid (pcmp f2 l2 a2 f3 l3 a3 = M)) (hK : Hid (pcmp f1 l1 a1 f3 l3 a3 = K)) (hE : Hid (pfEq f1 l1 a1 f2 l2 a2 = E))
    (hc : Hid ((N = -1 ∧ N' = 1 ∧ E = false) ∨ (N = 0 ∧ N' = 0 ∧ E = true) ∨ (N = 1 ∧ N' = -1 ∧ E = false))) (hm : Hid (M = -1 ∨ M = 0 ∨ M = 1)) (hk : Hid (N ≤ 0 → M ≤ 0 → K ≤ 0)) :
    Calls Tryd.prog 6 #[.agg (pfx f1 l1 a1), .agg (pfx f2 l2 a2), .agg (pfx f3 l3 a3)] w fun e w' => e = .returned (.bool true) ∧ Below w.heap.size w w' := by
  have HS1 := Lib.hid (pfx_info (f := f1) (l := l1) h1.1)
  have HS2 := Lib.hid (pfx_info (f := f2) (l := l2) h2.1)
  have HS3 := Lib.hid (pfx_info (f := f3) (l := l3) h3.1)
  have heq : ∀ W, (binOp .eql 28 (.agg (pfx f1 l1 a1)) (.agg (pfx f2 l2 a2))).run Tryd.prog W = Result.ok (.bool E) W := fun W => by rw [eql_pfx h1 h2, hE.out]
  have hb0 := bl_alloc (bl_alloc (bl_alloc (bl_refl w) (.cells (pfx f1 l1 a1) 28)) (.cells (pfx f2 l2 a2) 28)) (.cells (pfx f3 l3 a3) 28)
  have o1 := ((Own.new w 28 (pfx f1 l1 a1)).alloc (.cells (pfx f2 l2 a2) 28)).alloc (.cells (pfx f3 l3 a3) 28)
  have o2 := (Own.new (w.alloc (.cells (pfx f1 l1 a1) 28)) 28 (pfx f2 l2 a2)).alloc (.cells (pfx f3 l3 a3) 28)
  have o3 := Own.new ((w.alloc (.cells (pfx f1 l1 a1) 28)).alloc (.cells (pfx f2 l2 a2) 28)) 28 (pfx f3 l3 a3)
  rw [show (w.alloc (.cells (pfx f1 l1 a1) 28)).heap.size = w.heap.size + 1 by simp] at o2
  rw [show ((w.alloc (.cells (pfx f1 l1 a1) 28)).alloc (.cells (pfx f2 l2 a2) 28)).heap.size = w.heap.size + 1 + 1 by simp] at o3
  have x12 := Lib.hid (fun W => by have := pcompare_any f1 l1 f2 l2 a1 a2 W h1 h2; rw [hN.out] at this; exact this)
  have r12 := Lib.hid (fun W => by have := rpcompare_any f1 l1 f2 l2 a1 a2 W h1 h2; rw [hN.out] at this; exact this)
  have x21 := Lib.hid (fun W => by have := pcompare_any f2 l2 f1 l1 a2 a1 W h2 h1; rw [hN'.out] at this; exact this)
  have x23 := Lib.hid (fun W => by have := pcompare_any f2 l2 f3 l3 a2 a3 W h2 h3; rw [hM.out] at this; exact this)
  have x13 := Lib.hid (fun W => by have := pcompare_any f1 l1 f3 l3 a1 a3 W h1 h3; rw [hK.out] at this; exact this)
  rcases hc.out with ⟨rfl, rfl, rfl⟩ | ⟨rfl, rfl, rfl⟩ | ⟨rfl, rfl, rfl⟩
  · clear hc
    go_enter Tryd.func6, Tryd.ntmps6
    go_wp2_with (first
      | (refine wpList_load_row rfl 28 _ rfl w.heap.size rfl 28 (pfx f1 l1 a1) (0, 0) (.struct (Tryd.prog.fieldsOf 28)) o1 (by kernel_rfl) rfl HS1.out ?_)
      | (refine wpList_load_row_on rfl 28 _ rfl w.heap.size rfl 28 (pfx f1 l1 a1) (.struct (Tryd.prog.fieldsOf 28)) o1 (by kernel_rfl) rfl HS1.out ?_)
      | (refine wpList_load_row rfl 28 _ rfl (w.heap.size + 1) rfl 28 (pfx f2 l2 a2) (0, 0) (.struct (Tryd.prog.fieldsOf 28)) o2 (by kernel_rfl) rfl HS2.out ?_)
      | (refine wpList_load_row_on rfl 28 _ rfl (w.heap.size + 1) rfl 28 (pfx f2 l2 a2) (.struct (Tryd.prog.fieldsOf 28)) o2 (by kernel_rfl) rfl HS2.out ?_)
      | (refine wpList_load_row rfl 28 _ rfl (w.heap.size + 1 + 1) rfl 28 (pfx f3 l3 a3) (0, 0) (.struct (Tryd.prog.fieldsOf 28)) o3 (by kernel_rfl) rfl HS3.out ?_)
      | (refine wpList_load_row_on rfl 28 _ rfl (w.heap.size + 1 + 1) rfl 28 (pfx f3 l3 a3) (.struct (Tryd.prog.fieldsOf 28)) o3 (by kernel_rfl) rfl HS3.out ?_))
    refine (x12.out _).mono ?_
    rintro e w1 ⟨rfl, hb1⟩
    have p1 := o1.step hb1
    have p2 := o2.step hb1
    have p3 := o3.step hb1
    have hb2 := bl_trans hb0 hb1
    clear o1 o2 o3 hb0 hb1
    generalize w.heap.size + 1 + 1 = g3 at p3 ⊢
    generalize w.heap.size + 1 = g2 at p2 ⊢
    go_wp2_with (first
      | (refine wpList_load_row rfl 28 _ rfl w.heap.size rfl 28 (pfx f1 l1 a1) (0, 0) (.struct (Tryd.prog.fieldsOf 28)) p1 (by kernel_rfl) rfl HS1.out ?_)
      | (refine wpList_load_row_on rfl 28 _ rfl w.heap.size rfl 28 (pfx f1 l1 a1) (.struct (Tryd.prog.fieldsOf 28)) p1 (by kernel_rfl) rfl HS1.out ?_)
      | (refine wpList_load_row rfl 28 _ rfl g2 rfl 28 (pfx f2 l2 a2) (0, 0) (.struct (Tryd.prog.fieldsOf 28)) p2 (by kernel_rfl) rfl HS2.out ?_)
      | (refine wpList_load_row_on rfl 28 _ rfl g2 rfl 28 (pfx f2 l2 a2) (.struct (Tryd.prog.fieldsOf 28)) p2 (by kernel_rfl) rfl HS2.out ?_)
      | (refine wpList_load_row rfl 28 _ rfl g3 rfl 28 (pfx f3 l3 a3) (0, 0) (.struct (Tryd.prog.fieldsOf 28)) p3 (by kernel_rfl) rfl HS3.out ?_)
      | (refine wpList_load_row_on rfl 28 _ rfl g3 rfl 28 (pfx f3 l3 a3) (.struct (Tryd.prog.fieldsOf 28)) p3 (by kernel_rfl) rfl HS3.out ?_))
    refine (r12.out _).mono ?_
    rintro e w2 ⟨rfl, hb3⟩
    have q1 := p1.step hb3
    have q2 := p2.step hb3
    have q3 := p3.step hb3
    have hb4 := bl_trans hb2 hb3
    clear p1 p2 p3 hb2 hb3
    go_wp2_with (first
      | (refine wpList_load_row rfl 28 _ rfl w.heap.size rfl 28 (pfx f1 l1 a1) (0, 0) (.struct (Tryd.prog.fieldsOf 28)) q1 (by kernel_rfl) rfl HS1.out ?_)
      | (refine wpList_load_row_on rfl 28 _ rfl w.heap.size rfl 28 (pfx f1 l1 a1) (.struct (Tryd.prog.fieldsOf 28)) q1 (by kernel_rfl) rfl HS1.out ?_)
      | (refine wpList_load_row rfl 28 _ rfl g2 rfl 28 (pfx f2 l2 a2) (0, 0) (.struct (Tryd.prog.fieldsOf 28)) q2 (by kernel_rfl) rfl HS2.out ?_)
      | (refine wpList_load_row_on rfl 28 _ rfl g2 rfl 28 (pfx f2 l2 a2) (.struct (Tryd.prog.fieldsOf 28)) q2 (by kernel_rfl) rfl HS2.out ?_)
      | (refine wpList_load_row rfl 28 _ rfl g3 rfl 28 (pfx f3 l3 a3) (0, 0) (.struct (Tryd.prog.fieldsOf 28)) q3 (by kernel_rfl) rfl HS3.out ?_)
      | (refine wpList_load_row_on rfl 28 _ rfl g3 rfl 28 (pfx f3 l3 a3) (.struct (Tryd.prog.fieldsOf 28)) q3 (by kernel_rfl) rfl HS3.out ?_))
    refine (x21.out _).mono ?_
    rintro e w3 ⟨rfl, hb5⟩
    have u1 := q1.step hb5
    have u2 := q2.step hb5
    have u3 := q3.step hb5
    have hb6 := bl_trans hb4 hb5
    clear q1 q2 q3 hb4 hb5
    go_wp2_with (first
      | (refine wpList_load_row rfl 28 _ rfl w.heap.size rfl 28 (pfx f1 l1 a1) (0, 0) (.struct (Tryd.prog.fieldsOf 28)) u1 (by kernel_rfl) rfl HS1.out ?_)
      | (refine wpList_load_row_on rfl 28 _ rfl w.heap.size rfl 28 (pfx f1 l1 a1) (.struct (Tryd.prog.fieldsOf 28)) u1 (by kernel_rfl) rfl HS1.out ?_)
      | (refine wpList_load_row rfl 28 _ rfl g2 rfl 28 (pfx f2 l2 a2) (0, 0) (.struct (Tryd.prog.fieldsOf 28)) u2 (by kernel_rfl) rfl HS2.out ?_)
      | (refine wpList_load_row_on rfl 28 _ rfl g2 rfl 28 (pfx f2 l2 a2) (.struct (Tryd.prog.fieldsOf 28)) u2 (by kernel_rfl) rfl HS2.out ?_)
      | (refine wpList_load_row rfl 28 _ rfl g3 rfl 28 (pfx f3 l3 a3) (0, 0) (.struct (Tryd.prog.fieldsOf 28)) u3 (by kernel_rfl) rfl HS3.out ?_)
      | (refine wpList_load_row_on rfl 28 _ rfl g3 rfl 28 (pfx f3 l3 a3) (.struct (Tryd.prog.fieldsOf 28)) u3 (by kernel_rfl) rfl HS3.out ?_))
    refine (alive2_any _ (ht.below hb6)).mono ?_
    rintro e w4 ⟨rfl, hb7⟩
    have v1 := u1.step hb7
    have v2 := u2.step hb7
    have v3 := u3.step hb7
    have hb8 := bl_trans hb6 hb7
    clear u1 u2 u3 hb6 hb7
    rcases hm.out with rfl | rfl | rfl
    · clear hm
      have hK0 : decide (K ≤ 0) = true := decide_eq_true (hk.out (by omega) (by omega))
      clear hk
      go_wp2_with (first
        | (refine wpList_load_row rfl 28 _ rfl w.heap.size rfl 28 (pfx f1 l1 a1) (0, 0) (.struct (Tryd.prog.fieldsOf 28)) v1 (by kernel_rfl) rfl HS1.out ?_)
        | (refine wpList_load_row_on rfl 28 _ rfl w.heap.size rfl 28 (pfx f1 l1 a1) (.struct (Tryd.prog.fieldsOf 28)) v1 (by kernel_rfl) rfl HS1.out ?_)
        | (refine wpList_load_row rfl 28 _ rfl g2 rfl 28 (pfx f2 l2 a2) (0, 0) (.struct (Tryd.prog.fieldsOf 28)) v2 (by kernel_rfl) rfl HS2.out ?_)
        | (refine wpList_load_row_on rfl 28 _ rfl g2 rfl 28 (pfx f2 l2 a2) (.struct (Tryd.prog.fieldsOf 28)) v2 (by kernel_rfl) rfl HS2.out ?_)
        | (refine wpList_load_row rfl 28 _ rfl g3 rfl 28 (pfx f3 l3 a3) (0, 0) (.struct (Tryd.prog.fieldsOf 28)) v3 (by kernel_rfl) rfl HS3.out ?_)
        | (refine wpList_load_row_on rfl 28 _ rfl g3 rfl 28 (pfx f3 l3 a3) (.struct (Tryd.prog.fieldsOf 28)) v3 (by kernel_rfl) rfl HS3.out ?_))
      refine (x23.out _).mono ?_
      rintro e w5 ⟨rfl, hb9⟩
      have z1 := v1.step hb9
      have z2 := v2.step hb9
      have z3 := v3.step hb9
      have hb10 := bl_trans hb8 hb9
      clear v1 v2 v3 hb8 hb9
      go_wp2_with (first
        | (refine wpList_load_row rfl 28 _ rfl w.heap.size rfl 28 (pfx f1 l1 a1) (0, 0) (.struct (Tryd.prog.fieldsOf 28)) z1 (by kernel_rfl) rfl HS1.out ?_)
        | (refine wpList_load_row_on rfl 28 _ rfl w.heap.size rfl 28 (pfx f1 l1 a1) (.struct (Tryd.prog.fieldsOf 28)) z1 (by kernel_rfl) rfl HS1.out ?_)
        | (refine wpList_load_row rfl 28 _ rfl g2 rfl 28 (pfx f2 l2 a2) (0, 0) (.struct (Tryd.prog.fieldsOf 28)) z2 (by kernel_rfl) rfl HS2.out ?_)
        | (refine wpList_load_row_on rfl 28 _ rfl g2 rfl 28 (pfx f2 l2 a2) (.struct (Tryd.prog.fieldsOf 28)) z2 (by kernel_rfl) rfl HS2.out ?_)
        | (refine wpList_load_row rfl 28 _ rfl g3 rfl 28 (pfx f3 l3 a3) (0, 0) (.struct (Tryd.prog.fieldsOf 28)) z3 (by kernel_rfl) rfl HS3.out ?_)
        | (refine wpList_load_row_on rfl 28 _ rfl g3 rfl 28 (pfx f3 l3 a3) (.struct (Tryd.prog.fieldsOf 28)) z3 (by kernel_rfl) rfl HS3.out ?_))
      refine (x13.out _).mono ?_
      rintro e w6 ⟨rfl, hb11⟩
      go_wp2
      go_ret
      exact ⟨rfl, bl_trans hb10 hb11⟩
    · clear hm
      have hK0 : decide (K ≤ 0) = true := decide_eq_true (hk.out (by omega) (by omega))
      clear hk
      go_wp2_with (first
        | (refine wpList_load_row rfl 28 _ rfl w.heap.size rfl 28 (pfx f1 l1 a1) (0, 0) (.struct (Tryd.prog.fieldsOf 28)) v1 (by kernel_rfl) rfl HS1.out ?_)
        | (refine wpList_load_row_on rfl 28 _ rfl w.heap.size rfl 28 (pfx f1 l1 a1) (.struct (Tryd.prog.fieldsOf 28)) v1 (by kernel_rfl) rfl HS1.out ?_)
        | (refine wpList_load_row rfl 28 _ rfl g2 rfl 28 (pfx f2 l2 a2) (0, 0) (.struct (Tryd.prog.fieldsOf 28)) v2 (by kernel_rfl) rfl HS2.out ?_)
        | (refine wpList_load_row_on rfl 28 _ rfl g2 rfl 28 (pfx f2 l2 a2) (.struct (Tryd.prog.fieldsOf 28)) v2 (by kernel_rfl) rfl HS2.out ?_)
        | (refine wpList_load_row rfl 28 _ rfl g3 rfl 28 (pfx f3 l3 a3) (0, 0) (.struct (Tryd.prog.fieldsOf 28)) v3 (by kernel_rfl) rfl HS3.out ?_)
        | (refine wpList_load_row_on rfl 28 _ rfl g3 rfl 28 (pfx f3 l3 a3) (.struct (Tryd.prog.fieldsOf 28)) v3 (by kernel_rfl) rfl HS3.out ?_))
      refine (x23.out _).mono ?_
      rintro e w5 ⟨rfl, hb9⟩
      have z1 := v1.step hb9
      have z2 := v2.step hb9
      have z3 := v3.step hb9
      have hb10 := bl_trans hb8 hb9
      clear v1 v2 v3 hb8 hb9
      go_wp2_with (first
        | (refine wpList_load_row rfl 28 _ rfl w.heap.size rfl 28 (pfx f1 l1 a1) (0, 0) (.struct (Tryd.prog.fieldsOf 28)) z1 (by kernel_rfl) rfl HS1.out ?_)
        | (refine wpList_load_row_on rfl 28 _ rfl w.heap.size rfl 28 (pfx f1 l1 a1) (.struct (Tryd.prog.fieldsOf 28)) z1 (by kernel_rfl) rfl HS1.out ?_)
        | (refine wpList_load_row rfl 28 _ rfl g2 rfl 28 (pfx f2 l2 a2) (0, 0) (.struct (Tryd.prog.fieldsOf 28)) z2 (by kernel_rfl) rfl HS2.out ?_)
        | (refine wpList_load_row_on rfl 28 _ rfl g2 rfl 28 (pfx f2 l2 a2) (.struct (Tryd.prog.fieldsOf 28)) z2 (by kernel_rfl) rfl HS2.out ?_)
        | (refine wpList_load_row rfl 28 _ rfl g3 rfl 28 (pfx f3 l3 a3) (0, 0) (.struct (Tryd.prog.fieldsOf 28)) z3 (by kernel_rfl) rfl HS3.out ?_)
        | (refine wpList_load_row_on rfl 28 _ rfl g3 rfl 28 (pfx f3 l3 a3) (.struct (Tryd.prog.fieldsOf 28)) z3 (by kernel_rfl) rfl HS3.out ?_))
      refine (x13.out _).mono ?_
      rintro e w6 ⟨rfl, hb11⟩
      go_wp2
      go_ret
      exact ⟨rfl, bl_trans hb10 hb11⟩
    · clear hm
      go_wp2_with (first
        | (refine wpList_load_row rfl 28 _ rfl w.heap.size rfl 28 (pfx f1 l1 a1) (0, 0) (.struct (Tryd.prog.fieldsOf 28)) v1 (by kernel_rfl) rfl HS1.out ?_)
        | (refine wpList_load_row_on rfl 28 _ rfl w.heap.size rfl 28 (pfx f1 l1 a1) (.struct (Tryd.prog.fieldsOf 28)) v1 (by kernel_rfl) rfl HS1.out ?_)
        | (refine wpList_load_row rfl 28 _ rfl g2 rfl 28 (pfx f2 l2 a2) (0, 0) (.struct (Tryd.prog.fieldsOf 28)) v2 (by kernel_rfl) rfl HS2.out ?_)
        | (refine wpList_load_row_on rfl 28 _ rfl g2 rfl 28 (pfx f2 l2 a2) (.struct (Tryd.prog.fieldsOf 28)) v2 (by kernel_rfl) rfl HS2.out ?_)
        | (refine wpList_load_row rfl 28 _ rfl g3 rfl 28 (pfx f3 l3 a3) (0, 0) (.struct (Tryd.prog.fieldsOf 28)) v3 (by kernel_rfl) rfl HS3.out ?_)
        | (refine wpList_load_row_on rfl 28 _ rfl g3 rfl 28 (pfx f3 l3 a3) (.struct (Tryd.prog.fieldsOf 28)) v3 (by kernel_rfl) rfl HS3.out ?_))
      refine (x23.out _).mono ?_
      rintro e w5 ⟨rfl, hb9⟩
      have hb10 := bl_trans hb8 hb9
      go_wp2
      go_ret
      exact ⟨rfl, hb10⟩
  · clear hc
    go_enter Tryd.func6, Tryd.ntmps6
    go_wp2_with (first
      | (refine wpList_load_row rfl 28 _ rfl w.heap.size rfl 28 (pfx f1 l1 a1) (0, 0) (.struct (Tryd.prog.fieldsOf 28)) o1 (by kernel_rfl) rfl HS1.out ?_)
      | (refine wpList_load_row_on rfl 28 _ rfl w.heap.size rfl 28 (pfx f1 l1 a1) (.struct (Tryd.prog.fieldsOf 28)) o1 (by kernel_rfl) rfl HS1.out ?_)
      | (refine wpList_load_row rfl 28 _ rfl (w.heap.size + 1) rfl 28 (pfx f2 l2 a2) (0, 0) (.struct (Tryd.prog.fieldsOf 28)) o2 (by kernel_rfl) rfl HS2.out ?_)
      | (refine wpList_load_row_on rfl 28 _ rfl (w.heap.size + 1) rfl 28 (pfx f2 l2 a2) (.struct (Tryd.prog.fieldsOf 28)) o2 (by kernel_rfl) rfl HS2.out ?_)
      | (refine wpList_load_row rfl 28 _ rfl (w.heap.size + 1 + 1) rfl 28 (pfx f3 l3 a3) (0, 0) (.struct (Tryd.prog.fieldsOf 28)) o3 (by kernel_rfl) rfl HS3.out ?_)
      | (refine wpList_load_row_on rfl 28 _ rfl (w.heap.size + 1 + 1) rfl 28 (pfx f3 l3 a3) (.struct (Tryd.prog.fieldsOf 28)) o3 (by kernel_rfl) rfl HS3.out ?_))
    refine (x12.out _).mono ?_
    rintro e w1 ⟨rfl, hb1⟩
    have p1 := o1.step hb1
    have p2 := o2.step hb1
    have p3 := o3.step hb1
    have hb2 := bl_trans hb0 hb1
    clear o1 o2 o3 hb0 hb1
    generalize w.heap.size + 1 + 1 = g3 at p3 ⊢
    generalize w.heap.size + 1 = g2 at p2 ⊢
    go_wp2_with (first
      | (refine wpList_load_row rfl 28 _ rfl w.heap.size rfl 28 (pfx f1 l1 a1) (0, 0) (.struct (Tryd.prog.fieldsOf 28)) p1 (by kernel_rfl) rfl HS1.out ?_)
      | (refine wpList_load_row_on rfl 28 _ rfl w.heap.size rfl 28 (pfx f1 l1 a1) (.struct (Tryd.prog.fieldsOf 28)) p1 (by kernel_rfl) rfl HS1.out ?_)
      | (refine wpList_load_row rfl 28 _ rfl g2 rfl 28 (pfx f2 l2 a2) (0, 0) (.struct (Tryd.prog.fieldsOf 28)) p2 (by kernel_rfl) rfl HS2.out ?_)
      | (refine wpList_load_row_on rfl 28 _ rfl g2 rfl 28 (pfx f2 l2 a2) (.struct (Tryd.prog.fieldsOf 28)) p2 (by kernel_rfl) rfl HS2.out ?_)
      | (refine wpList_load_row rfl 28 _ rfl g3 rfl 28 (pfx f3 l3 a3) (0, 0) (.struct (Tryd.prog.fieldsOf 28)) p3 (by kernel_rfl) rfl HS3.out ?_)
      | (refine wpList_load_row_on rfl 28 _ rfl g3 rfl 28 (pfx f3 l3 a3) (.struct (Tryd.prog.fieldsOf 28)) p3 (by kernel_rfl) rfl HS3.out ?_))
    refine (r12.out _).mono ?_
    rintro e w2 ⟨rfl, hb3⟩
    have q1 := p1.step hb3
    have q2 := p2.step hb3
    have q3 := p3.step hb3
    have hb4 := bl_trans hb2 hb3
    clear p1 p2 p3 hb2 hb3
    go_wp2_with (first
      | (refine wpList_load_row rfl 28 _ rfl w.heap.size rfl 28 (pfx f1 l1 a1) (0, 0) (.struct (Tryd.prog.fieldsOf 28)) q1 (by kernel_rfl) rfl HS1.out ?_)
      | (refine wpList_load_row_on rfl 28 _ rfl w.heap.size rfl 28 (pfx f1 l1 a1) (.struct (Tryd.prog.fieldsOf 28)) q1 (by kernel_rfl) rfl HS1.out ?_)
      | (refine wpList_load_row rfl 28 _ rfl g2 rfl 28 (pfx f2 l2 a2) (0, 0) (.struct (Tryd.prog.fieldsOf 28)) q2 (by kernel_rfl) rfl HS2.out ?_)
      | (refine wpList_load_row_on rfl 28 _ rfl g2 rfl 28 (pfx f2 l2 a2) (.struct (Tryd.prog.fieldsOf 28)) q2 (by kernel_rfl) rfl HS2.out ?_)
      | (refine wpList_load_row rfl 28 _ rfl g3 rfl 28 (pfx f3 l3 a3) (0, 0) (.struct (Tryd.prog.fieldsOf 28)) q3 (by kernel_rfl) rfl HS3.out ?_)
      | (refine wpList_load_row_on rfl 28 _ rfl g3 rfl 28 (pfx f3 l3 a3) (.struct (Tryd.prog.fieldsOf 28)) q3 (by kernel_rfl) rfl HS3.out ?_))
    refine (x21.out _).mono ?_
    rintro e w3 ⟨rfl, hb5⟩
    have u1 := q1.step hb5
    have u2 := q2.step hb5
    have u3 := q3.step hb5
    have hb6 := bl_trans hb4 hb5
    clear q1 q2 q3 hb4 hb5
    go_wp2_with (first
      | (refine wpList_load_row rfl 28 _ rfl w.heap.size rfl 28 (pfx f1 l1 a1) (0, 0) (.struct (Tryd.prog.fieldsOf 28)) u1 (by kernel_rfl) rfl HS1.out ?_)
      | (refine wpList_load_row_on rfl 28 _ rfl w.heap.size rfl 28 (pfx f1 l1 a1) (.struct (Tryd.prog.fieldsOf 28)) u1 (by kernel_rfl) rfl HS1.out ?_)
      | (refine wpList_load_row rfl 28 _ rfl g2 rfl 28 (pfx f2 l2 a2) (0, 0) (.struct (Tryd.prog.fieldsOf 28)) u2 (by kernel_rfl) rfl HS2.out ?_)
      | (refine wpList_load_row_on rfl 28 _ rfl g2 rfl 28 (pfx f2 l2 a2) (.struct (Tryd.prog.fieldsOf 28)) u2 (by kernel_rfl) rfl HS2.out ?_)
      | (refine wpList_load_row rfl 28 _ rfl g3 rfl 28 (pfx f3 l3 a3) (0, 0) (.struct (Tryd.prog.fieldsOf 28)) u3 (by kernel_rfl) rfl HS3.out ?_)
      | (refine wpList_load_row_on rfl 28 _ rfl g3 rfl 28 (pfx f3 l3 a3) (.struct (Tryd.prog.fieldsOf 28)) u3 (by kernel_rfl) rfl HS3.out ?_))
    refine (alive2_any _ (ht.below hb6)).mono ?_
    rintro e w4 ⟨rfl, hb7⟩
    have v1 := u1.step hb7
    have v2 := u2.step hb7
    have v3 := u3.step hb7
    have hb8 := bl_trans hb6 hb7
    clear u1 u2 u3 hb6 hb7
    rcases hm.out with rfl | rfl | rfl
    · clear hm
      have hK0 : decide (K ≤ 0) = true := decide_eq_true (hk.out (by omega) (by omega))
      clear hk
      go_wp2_with (first
        | (refine wpList_load_row rfl 28 _ rfl w.heap.size rfl 28 (pfx f1 l1 a1) (0, 0) (.struct (Tryd.prog.fieldsOf 28)) v1 (by kernel_rfl) rfl HS1.out ?_)
        | (refine wpList_load_row_on rfl 28 _ rfl w.heap.size rfl 28 (pfx f1 l1 a1) (.struct (Tryd.prog.fieldsOf 28)) v1 (by kernel_rfl) rfl HS1.out ?_)
        | (refine wpList_load_row rfl 28 _ rfl g2 rfl 28 (pfx f2 l2 a2) (0, 0) (.struct (Tryd.prog.fieldsOf 28)) v2 (by kernel_rfl) rfl HS2.out ?_)
        | (refine wpList_load_row_on rfl 28 _ rfl g2 rfl 28 (pfx f2 l2 a2) (.struct (Tryd.prog.fieldsOf 28)) v2 (by kernel_rfl) rfl HS2.out ?_)
        | (refine wpList_load_row rfl 28 _ rfl g3 rfl 28 (pfx f3 l3 a3) (0, 0) (.struct (Tryd.prog.fieldsOf 28)) v3 (by kernel_rfl) rfl HS3.out ?_)
        | (refine wpList_load_row_on rfl 28 _ rfl g3 rfl 28 (pfx f3 l3 a3) (.struct (Tryd.prog.fieldsOf 28)) v3 (by kernel_rfl) rfl HS3.out ?_))
      refine (x23.out _).mono ?_
      rintro e w5 ⟨rfl, hb9⟩
      have z1 := v1.step hb9
      have z2 := v2.step hb9
      have z3 := v3.step hb9
      have hb10 := bl_trans hb8 hb9
      clear v1 v2 v3 hb8 hb9
      go_wp2_with (first
        | (refine wpList_load_row rfl 28 _ rfl w.heap.size rfl 28 (pfx f1 l1 a1) (0, 0) (.struct (Tryd.prog.fieldsOf 28)) z1 (by kernel_rfl) rfl HS1.out ?_)
        | (refine wpList_load_row_on rfl 28 _ rfl w.heap.size rfl 28 (pfx f1 l1 a1) (.struct (Tryd.prog.fieldsOf 28)) z1 (by kernel_rfl) rfl HS1.out ?_)
        | (refine wpList_load_row rfl 28 _ rfl g2 rfl 28 (pfx f2 l2 a2) (0, 0) (.struct (Tryd.prog.fieldsOf 28)) z2 (by kernel_rfl) rfl HS2.out ?_)
        | (refine wpList_load_row_on rfl 28 _ rfl g2 rfl 28 (pfx f2 l2 a2) (.struct (Tryd.prog.fieldsOf 28)) z2 (by kernel_rfl) rfl HS2.out ?_)
        | (refine wpList_load_row rfl 28 _ rfl g3 rfl 28 (pfx f3 l3 a3) (0, 0) (.struct (Tryd.prog.fieldsOf 28)) z3 (by kernel_rfl) rfl HS3.out ?_)
        | (refine wpList_load_row_on rfl 28 _ rfl g3 rfl 28 (pfx f3 l3 a3) (.struct (Tryd.prog.fieldsOf 28)) z3 (by kernel_rfl) rfl HS3.out ?_))
      refine (x13.out _).mono ?_
      rintro e w6 ⟨rfl, hb11⟩
      go_wp2
      go_ret
      exact ⟨rfl, bl_trans hb10 hb11⟩
    · clear hm
      have hK0 : decide (K ≤ 0) = true := decide_eq_true (hk.out (by omega) (by omega))
      clear hk
      go_wp2_with (first
        | (refine wpList_load_row rfl 28 _ rfl w.heap.size rfl 28 (pfx f1 l1 a1) (0, 0) (.struct (Tryd.prog.fieldsOf 28)) v1 (by kernel_rfl) rfl HS1.out ?_)
        | (refine wpList_load_row_on rfl 28 _ rfl w.heap.size rfl 28 (pfx f1 l1 a1) (.struct (Tryd.prog.fieldsOf 28)) v1 (by kernel_rfl) rfl HS1.out ?_)
        | (refine wpList_load_row rfl 28 _ rfl g2 rfl 28 (pfx f2 l2 a2) (0, 0) (.struct (Tryd.prog.fieldsOf 28)) v2 (by kernel_rfl) rfl HS2.out ?_)
        | (refine wpList_load_row_on rfl 28 _ rfl g2 rfl 28 (pfx f2 l2 a2) (.struct (Tryd.prog.fieldsOf 28)) v2 (by kernel_rfl) rfl HS2.out ?_)
        | (refine wpList_load_row rfl 28 _ rfl g3 rfl 28 (pfx f3 l3 a3) (0, 0) (.struct (Tryd.prog.fieldsOf 28)) v3 (by kernel_rfl) rfl HS3.out ?_)
        | (refine wpList_load_row_on rfl 28 _ rfl g3 rfl 28 (pfx f3 l3 a3) (.struct (Tryd.prog.fieldsOf 28)) v3 (by kernel_rfl) rfl HS3.out ?_))
      refine (x23.out _).mono ?_
      rintro e w5 ⟨rfl, hb9⟩
      have z1 := v1.step hb9
      have z2 := v2.step hb9
      have z3 := v3.step hb9
      have hb10 := bl_trans hb8 hb9
      clear v1 v2 v3 hb8 hb9
      go_wp2_with (first
        | (refine wpList_load_row rfl 28 _ rfl w.heap.size rfl 28 (pfx f1 l1 a1) (0, 0) (.struct (Tryd.prog.fieldsOf 28)) z1 (by kernel_rfl) rfl HS1.out ?_)
        | (refine wpList_load_row_on rfl 28 _ rfl w.heap.size rfl 28 (pfx f1 l1 a1) (.struct (Tryd.prog.fieldsOf 28)) z1 (by kernel_rfl) rfl HS1.out ?_)
        | (refine wpList_load_row rfl 28 _ rfl g2 rfl 28 (pfx f2 l2 a2) (0, 0) (.struct (Tryd.prog.fieldsOf 28)) z2 (by kernel_rfl) rfl HS2.out ?_)
        | (refine wpList_load_row_on rfl 28 _ rfl g2 rfl 28 (pfx f2 l2 a2) (.struct (Tryd.prog.fieldsOf 28)) z2 (by kernel_rfl) rfl HS2.out ?_)
        | (refine wpList_load_row rfl 28 _ rfl g3 rfl 28 (pfx f3 l3 a3) (0, 0) (.struct (Tryd.prog.fieldsOf 28)) z3 (by kernel_rfl) rfl HS3.out ?_)
        | (refine wpList_load_row_on rfl 28 _ rfl g3 rfl 28 (pfx f3 l3 a3) (.struct (Tryd.prog.fieldsOf 28)) z3 (by kernel_rfl) rfl HS3.out ?_))
      refine (x13.out _).mono ?_
      rintro e w6 ⟨rfl, hb11⟩
      go_wp2
      go_ret
      exact ⟨rfl, bl_trans hb10 hb11⟩
    · clear hm
      go_wp2_with (first
        | (refine wpList_load_row rfl 28 _ rfl w.heap.size rfl 28 (pfx f1 l1 a1) (0, 0) (.struct (Tryd.prog.fieldsOf 28)) v1 (by kernel_rfl) rfl HS1.out ?_)
        | (refine wpList_load_row_on rfl 28 _ rfl w.heap.size rfl 28 (pfx f1 l1 a1) (.struct (Tryd.prog.fieldsOf 28)) v1 (by kernel_rfl) rfl HS1.out ?_)
        | (refine wpList_load_row rfl 28 _ rfl g2 rfl 28 (pfx f2 l2 a2) (0, 0) (.struct (Tryd.prog.fieldsOf 28)) v2 (by kernel_rfl) rfl HS2.out ?_)
        | (refine wpList_load_row_on rfl 28 _ rfl g2 rfl 28 (pfx f2 l2 a2) (.struct (Tryd.prog.fieldsOf 28)) v2 (by kernel_rfl) rfl HS2.out ?_)
        | (refine wpList_load_row rfl 28 _ rfl g3 rfl 28 (pfx f3 l3 a3) (0, 0) (.struct (Tryd.prog.fieldsOf 28)) v3 (by kernel_rfl) rfl HS3.out ?_)
        | (refine wpList_load_row_on rfl 28 _ rfl g3 rfl 28 (pfx f3 l3 a3) (.struct (Tryd.prog.fieldsOf 28)) v3 (by kernel_rfl) rfl HS3.out ?_))
      refine (x23.out _).mono ?_
      rintro e w5 ⟨rfl, hb9⟩
      have hb10 := bl_trans hb8 hb9
      go_wp2
      go_ret
      exact ⟨rfl, hb10⟩
  · clear hc
    go_enter Tryd.func6, Tryd.ntmps6
    go_wp2_with (first
      | (refine wpList_load_row rfl 28 _ rfl w.heap.size rfl 28 (pfx f1 l1 a1) (0, 0) (.struct (Tryd.prog.fieldsOf 28)) o1 (by kernel_rfl) rfl HS1.out ?_)
      | (refine wpList_load_row_on rfl 28 _ rfl w.heap.size rfl 28 (pfx f1 l1 a1) (.struct (Tryd.prog.fieldsOf 28)) o1 (by kernel_rfl) rfl HS1.out ?_)
      | (refine wpList_load_row rfl 28 _ rfl (w.heap.size + 1) rfl 28 (pfx f2 l2 a2) (0, 0) (.struct (Tryd.prog.fieldsOf 28)) o2 (by kernel_rfl) rfl HS2.out ?_)
      | (refine wpList_load_row_on rfl 28 _ rfl (w.heap.size + 1) rfl 28 (pfx f2 l2 a2) (.struct (Tryd.prog.fieldsOf 28)) o2 (by kernel_rfl) rfl HS2.out ?_)
      | (refine wpList_load_row rfl 28 _ rfl (w.heap.size + 1 + 1) rfl 28 (pfx f3 l3 a3) (0, 0) (.struct (Tryd.prog.fieldsOf 28)) o3 (by kernel_rfl) rfl HS3.out ?_)
      | (refine wpList_load_row_on rfl 28 _ rfl (w.heap.size + 1 + 1) rfl 28 (pfx f3 l3 a3) (.struct (Tryd.prog.fieldsOf 28)) o3 (by kernel_rfl) rfl HS3.out ?_))
    refine (x12.out _).mono ?_
    rintro e w1 ⟨rfl, hb1⟩
    have p1 := o1.step hb1
    have p2 := o2.step hb1
    have p3 := o3.step hb1
    have hb2 := bl_trans hb0 hb1
    clear o1 o2 o3 hb0 hb1
    generalize w.heap.size + 1 + 1 = g3 at p3 ⊢
    generalize w.heap.size + 1 = g2 at p2 ⊢
    go_wp2_with (first
      | (refine wpList_load_row rfl 28 _ rfl w.heap.size rfl 28 (pfx f1 l1 a1) (0, 0) (.struct (Tryd.prog.fieldsOf 28)) p1 (by kernel_rfl) rfl HS1.out ?_)
      | (refine wpList_load_row_on rfl 28 _ rfl w.heap.size rfl 28 (pfx f1 l1 a1) (.struct (Tryd.prog.fieldsOf 28)) p1 (by kernel_rfl) rfl HS1.out ?_)
      | (refine wpList_load_row rfl 28 _ rfl g2 rfl 28 (pfx f2 l2 a2) (0, 0) (.struct (Tryd.prog.fieldsOf 28)) p2 (by kernel_rfl) rfl HS2.out ?_)
      | (refine wpList_load_row_on rfl 28 _ rfl g2 rfl 28 (pfx f2 l2 a2) (.struct (Tryd.prog.fieldsOf 28)) p2 (by kernel_rfl) rfl HS2.out ?_)
      | (refine wpList_load_row rfl 28 _ rfl g3 rfl 28 (pfx f3 l3 a3) (0, 0) (.struct (Tryd.prog.fieldsOf 28)) p3 (by kernel_rfl) rfl HS3.out ?_)
      | (refine wpList_load_row_on rfl 28 _ rfl g3 rfl 28 (pfx f3 l3 a3) (.struct (Tryd.prog.fieldsOf 28)) p3 (by kernel_rfl) rfl HS3.out ?_))
    refine (r12.out _).mono ?_
    rintro e w2 ⟨rfl, hb3⟩
    have q1 := p1.step hb3
    have q2 := p2.step hb3
    have q3 := p3.step hb3
    have hb4 := bl_trans hb2 hb3
    clear p1 p2 p3 hb2 hb3
    go_wp2_with (first
      | (refine wpList_load_row rfl 28 _ rfl w.heap.size rfl 28 (pfx f1 l1 a1) (0, 0) (.struct (Tryd.prog.fieldsOf 28)) q1 (by kernel_rfl) rfl HS1.out ?_)
      | (refine wpList_load_row_on rfl 28 _ rfl w.heap.size rfl 28 (pfx f1 l1 a1) (.struct (Tryd.prog.fieldsOf 28)) q1 (by kernel_rfl) rfl HS1.out ?_)
      | (refine wpList_load_row rfl 28 _ rfl g2 rfl 28 (pfx f2 l2 a2) (0, 0) (.struct (Tryd.prog.fieldsOf 28)) q2 (by kernel_rfl) rfl HS2.out ?_)
      | (refine wpList_load_row_on rfl 28 _ rfl g2 rfl 28 (pfx f2 l2 a2) (.struct (Tryd.prog.fieldsOf 28)) q2 (by kernel_rfl) rfl HS2.out ?_)
      | (refine wpList_load_row rfl 28 _ rfl g3 rfl 28 (pfx f3 l3 a3) (0, 0) (.struct (Tryd.prog.fieldsOf 28)) q3 (by kernel_rfl) rfl HS3.out ?_)
      | (refine wpList_load_row_on rfl 28 _ rfl g3 rfl 28 (pfx f3 l3 a3) (.struct (Tryd.prog.fieldsOf 28)) q3 (by kernel_rfl) rfl HS3.out ?_))
    refine (x21.out _).mono ?_
    rintro e w3 ⟨rfl, hb5⟩
    have u1 := q1.step hb5
    have u2 := q2.step hb5
    have u3 := q3.step hb5
    have hb6 := bl_trans hb4 hb5
    clear q1 q2 q3 hb4 hb5
    go_wp2_with (first
      | (refine wpList_load_row rfl 28 _ rfl w.heap.size rfl 28 (pfx f1 l1 a1) (0, 0) (.struct (Tryd.prog.fieldsOf 28)) u1 (by kernel_rfl) rfl HS1.out ?_)
      | (refine wpList_load_row_on rfl 28 _ rfl w.heap.size rfl 28 (pfx f1 l1 a1) (.struct (Tryd.prog.fieldsOf 28)) u1 (by kernel_rfl) rfl HS1.out ?_)
      | (refine wpList_load_row rfl 28 _ rfl g2 rfl 28 (pfx f2 l2 a2) (0, 0) (.struct (Tryd.prog.fieldsOf 28)) u2 (by kernel_rfl) rfl HS2.out ?_)
      | (refine wpList_load_row_on rfl 28 _ rfl g2 rfl 28 (pfx f2 l2 a2) (.struct (Tryd.prog.fieldsOf 28)) u2 (by kernel_rfl) rfl HS2.out ?_)
      | (refine wpList_load_row rfl 28 _ rfl g3 rfl 28 (pfx f3 l3 a3) (0, 0) (.struct (Tryd.prog.fieldsOf 28)) u3 (by kernel_rfl) rfl HS3.out ?_)
      | (refine wpList_load_row_on rfl 28 _ rfl g3 rfl 28 (pfx f3 l3 a3) (.struct (Tryd.prog.fieldsOf 28)) u3 (by kernel_rfl) rfl HS3.out ?_))
    refine (alive2_any _ (ht.below hb6)).mono ?_
    rintro e w4 ⟨rfl, hb7⟩
    have v1 := u1.step hb7
    have v2 := u2.step hb7
    have v3 := u3.step hb7
    have hb8 := bl_trans hb6 hb7
    clear u1 u2 u3 hb6 hb7
    go_wp2
    go_ret
    exact ⟨rfl, hb8⟩
set_option maxRecDepth 100000 in
theorem por_all (f1 l1 f2 l2 f3 l3 : Int) (a1 a2 a3 : List Int) (w : World) (ht : Tens w) (h1 : IsAddr a1) (h2 : IsAddr a2) (h3 : IsAddr a3) :
    Calls Tryd.prog 6 #[.agg (pfx f1 l1 a1), .agg (pfx f2 l2 a2), .agg (pfx f3 l3 a3)] w fun e w' => e = .returned (.bool true) ∧ Below w.heap.size w w' := by
  refine por_walk f1 l1 f2 l2 f3 l3 a1 a2 a3 w ht h1 h2 h3 _ _ _ _ _ (Lib.hid rfl) (Lib.hid rfl) (Lib.hid rfl) (Lib.hid rfl) (Lib.hid rfl) (Lib.hid ?_) (Lib.hid (pcmp_range h2 h3)) (Lib.hid (fun x y => pcmp_trans h1 h2 h3 x y))
  have hr := pcmp_range (f := f1) (l := l1) (f' := f2) (l' := l2) h1 h2
  have hn := pcmp_neg (f := f1) (l := l1) (f' := f2) (l' := l2) h1 h2
  have hz := pcmp_zero (f := f1) (l := l1) (f' := f2) (l' := l2) h1 h2
  have he : pfEq f1 l1 a1 f2 l2 a2 = true ↔ (f1 = f2 ∧ l1 = l2 ∧ a1 = a2) := by simp [pfEq]
  rw [hn]
  rcases hr with h | h | h
  · refine .inl ⟨h, by omega, ?_⟩
    cases hx : pfEq f1 l1 a1 f2 l2 a2
    · rfl
    · have := hz.2 (he.1 hx); omega
  · exact .inr (.inl ⟨h, by omega, he.2 (hz.1 h)⟩)
  · refine .inr (.inr ⟨h, by omega, ?_⟩)
    cases hx : pfEq f1 l1 a1 f2 l2 a2
    · rfl
    · have := hz.2 (he.1 hx); omega
end Go.Proofs.YtiehbmhekncbhaaDoor

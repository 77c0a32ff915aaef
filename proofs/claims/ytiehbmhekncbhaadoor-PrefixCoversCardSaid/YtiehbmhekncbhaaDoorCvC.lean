/- peerageref02.Covers, all ways; PrefixCovers -/
import Derived.Test.YtiehbmhekncbhaaDoorCvB
import Derived.Test.YtiehbmhekncbhaaDoorAl2
namespace Go.Proofs.YtiehbmhekncbhaaDoor
open Go.RowKit Go.Sort

set_option maxRecDepth 100000 in
set_option maxHeartbeats 1600000 in
theorem rcovers_no (f l f' l' : Int) (a b : List Int) (w : World) (ha : IsAddr a) (hb : IsAddr b) (hk : ¬ (pfxOk f l a = true ∧ pfxOk f' l' b = true ∧ f = f' ∧ l ≤ l')) :
    Calls Tryd.prog 24 #[.agg (pfx f l a), .agg (pfx f' l' b)] w fun e w' => e = .returned (.bool (cov f l a f' l' b)) ∧ Below w.heap.size w w' := by
  have hC : Hid (cov f l a f' l' b = false) := Lib.hid (by
    cases h : cov f l a f' l' b
    · rfl
    · simp only [cov, Bool.and_eq_true, decide_eq_true_eq] at h
      exact absurd ⟨h.1, h.2.1, h.2.2.1, h.2.2.2.1⟩ hk)
  have HS := Lib.hid (pfx_info (f := f) (l := l) ha.1)
  have HS' := Lib.hid (pfx_info (f := f') (l := l') hb.1)
  have hb0 := bl_alloc (bl_alloc (bl_refl w) (.cells (pfx f l a) 28)) (.cells (pfx f' l' b) 28)
  have o1 := (Own.new w 28 (pfx f l a)).alloc (.cells (pfx f' l' b) 28)
  have o2 := Own.new (w.alloc (.cells (pfx f l a) 28)) 28 (pfx f' l' b)
  rw [show (w.alloc (.cells (pfx f l a) 28)).heap.size = w.heap.size + 1 by simp] at o2
  by_cases k1 : pfxOk f l a = true
  · have K1 := Lib.hid k1
    by_cases k2 : pfxOk f' l' b = true
    · have K2 := Lib.hid k2
      have h2 : ¬ f = f' ∨ (f = f' ∧ l' < l) := by
        by_cases h : f = f'
        · exact .inr ⟨h, by by_cases h4 : l ≤ l'; exact absurd ⟨k1, k2, h, h4⟩ hk; omega⟩
        · exact .inl h
      clear hk k1 k2
      rcases h2 with h3 | ⟨h3, h4⟩
      · have hf3 : (f != f') = true := by simpa using h3
        clear h3
        go_enter Tryd.func24, Tryd.ntmps24
        go_wp2_with (refine wpList_load_row rfl 28 _ rfl w.heap.size rfl 28 (pfx f l a) (0, 0) (.struct (Tryd.prog.fieldsOf 28)) o1 (by kernel_rfl) rfl HS.out ?_)
        refine (rpvalid_any f l a _ ha).mono ?_
        rw [K1.out]
        rintro e w1 ⟨rfl, hb1⟩
        have q1 := o1.step hb1
        have q2 := o2.step hb1
        have hb2 := bl_trans hb0 hb1
        clear o1 o2 hb0 hb1
        go_wp2_with (refine wpList_load_row_on rfl 28 _ rfl (w.heap.size + 1) rfl 28 (pfx f' l' b) (.struct (Tryd.prog.fieldsOf 28)) q2 (by kernel_rfl) rfl HS'.out ?_)
        refine (rpvalid_any f' l' b _ hb).mono ?_
        rw [K2.out]
        rintro e w2 ⟨rfl, hb3⟩
        have u1 := q1.step hb3
        have u2 := q2.step hb3
        have hb4 := bl_trans hb2 hb3
        clear q1 q2 hb2 hb3
        have c0 := u1.cell (pfx_0 f l a)
        have c1 := u1.cell (pfx_1 f l a)
        have d0 := u2.cell (pfx_0 f' l' b)
        have d1 := u2.cell (pfx_1 f' l' b)
        go_wp2
        go_ret
        refine ⟨ret_boolC ?_, hb4⟩
        rw [hC.out]
      · have hf3 : (f != f') = false := by simpa using h3
        have hl4 : decide (l' < l) = true := by simp; omega
        clear h3 h4
        go_enter Tryd.func24, Tryd.ntmps24
        go_wp2_with (refine wpList_load_row rfl 28 _ rfl w.heap.size rfl 28 (pfx f l a) (0, 0) (.struct (Tryd.prog.fieldsOf 28)) o1 (by kernel_rfl) rfl HS.out ?_)
        refine (rpvalid_any f l a _ ha).mono ?_
        rw [K1.out]
        rintro e w1 ⟨rfl, hb1⟩
        have q1 := o1.step hb1
        have q2 := o2.step hb1
        have hb2 := bl_trans hb0 hb1
        clear o1 o2 hb0 hb1
        go_wp2_with (refine wpList_load_row_on rfl 28 _ rfl (w.heap.size + 1) rfl 28 (pfx f' l' b) (.struct (Tryd.prog.fieldsOf 28)) q2 (by kernel_rfl) rfl HS'.out ?_)
        refine (rpvalid_any f' l' b _ hb).mono ?_
        rw [K2.out]
        rintro e w2 ⟨rfl, hb3⟩
        have u1 := q1.step hb3
        have u2 := q2.step hb3
        have hb4 := bl_trans hb2 hb3
        clear q1 q2 hb2 hb3
        have c0 := u1.cell (pfx_0 f l a)
        have c1 := u1.cell (pfx_1 f l a)
        have d0 := u2.cell (pfx_0 f' l' b)
        have d1 := u2.cell (pfx_1 f' l' b)
        go_wp2
        go_ret
        refine ⟨ret_boolC ?_, hb4⟩
        rw [hC.out]
    · have k2' : pfxOk f' l' b = false := by simpa using k2
      have K2 := Lib.hid k2'
      clear hk k1 k2 k2'
      go_enter Tryd.func24, Tryd.ntmps24
      go_wp2_with (refine wpList_load_row rfl 28 _ rfl w.heap.size rfl 28 (pfx f l a) (0, 0) (.struct (Tryd.prog.fieldsOf 28)) o1 (by kernel_rfl) rfl HS.out ?_)
      refine (rpvalid_any f l a _ ha).mono ?_
      rw [K1.out]
      rintro e w1 ⟨rfl, hb1⟩
      have q2 := o2.step hb1
      have hb2 := bl_trans hb0 hb1
      clear o1 o2 hb0 hb1
      go_wp2_with (refine wpList_load_row_on rfl 28 _ rfl (w.heap.size + 1) rfl 28 (pfx f' l' b) (.struct (Tryd.prog.fieldsOf 28)) q2 (by kernel_rfl) rfl HS'.out ?_)
      refine (rpvalid_any f' l' b _ hb).mono ?_
      rw [K2.out]
      rintro e w2 ⟨rfl, hb3⟩
      have hb4 := bl_trans hb2 hb3
      go_wp2
      go_ret
      refine ⟨ret_boolC ?_, hb4⟩
      rw [hC.out]
  · have k1' : pfxOk f l a = false := by simpa using k1
    have K1 := Lib.hid k1'
    clear hk k1 k1'
    go_enter Tryd.func24, Tryd.ntmps24
    go_wp2_with (refine wpList_load_row rfl 28 _ rfl w.heap.size rfl 28 (pfx f l a) (0, 0) (.struct (Tryd.prog.fieldsOf 28)) o1 (by kernel_rfl) rfl HS.out ?_)
    refine (rpvalid_any f l a _ ha).mono ?_
    rw [K1.out]
    rintro e w1 ⟨rfl, hb1⟩
    have hb4 := bl_trans hb0 hb1
    go_wp2
    go_ret
    refine ⟨ret_boolC ?_, hb4⟩
    rw [hC.out]
set_option maxRecDepth 100000 in
theorem rcovers_any (f l f' l' : Int) (a b : List Int) (w : World) (ha : IsAddr a) (hb : IsAddr b) :
    Calls Tryd.prog 24 #[.agg (pfx f l a), .agg (pfx f' l' b)] w fun e w' => e = .returned (.bool (cov f l a f' l' b)) ∧ Below w.heap.size w w' := by
  by_cases hk : pfxOk f l a = true ∧ pfxOk f' l' b = true ∧ f = f' ∧ l ≤ l'
  · exact rcovers_loop f l f' l' a b w ha hb hk.1 hk.2.1 hk.2.2.1 hk.2.2.2
  · exact rcovers_no f l f' l' a b w ha hb hk
end Go.Proofs.YtiehbmhekncbhaaDoor

/- peerageref02.Covers -/
import Derived.Test.YtiehbmhekncbhaaDoorCvA
namespace Go.Proofs.YtiehbmhekncbhaaDoor
open Go.RowKit Go.Sort

set_option maxRecDepth 100000 in
set_option maxHeartbeats 1600000 in
theorem rcovers_loop (f l f' l' : Int) (a b : List Int) (w : World) (ha : IsAddr a) (hb : IsAddr b) (k1 : pfxOk f l a = true) (k2 : pfxOk f' l' b = true) (k3 : f = f') (k4 : l ≤ l') :
    Calls Tryd.prog 24 #[.agg (pfx f l a), .agg (pfx f' l' b)] w fun e w' => e = .returned (.bool (cov f l a f' l' b)) ∧ Below w.heap.size w w' := by
  have hR := pfxOk_range k1
  have hR0 := hR.1
  have hR1 := hR.2
  have HS := Lib.hid (pfx_info (f := f) (l := l) ha.1)
  have HS' := Lib.hid (pfx_info (f := f') (l := l') hb.1)
  have HA := Lib.hid (arr_infol ha.1)
  have HB := Lib.hid (arr_infol hb.1)
  have HM := Lib.hid (mask_eq_iff (l := l) ha hb (pfxOk_mask k1))
  have hC : Hid (cov f l a f' l' b = decide (maskL l b = a)) := Lib.hid (by rw [cov, k1, k2]; simp [k3, k4])
  have hb0 := bl_alloc (bl_alloc (bl_refl w) (.cells (pfx f l a) 28)) (.cells (pfx f' l' b) 28)
  have o1 := (Own.new w 28 (pfx f l a)).alloc (.cells (pfx f' l' b) 28)
  have o2 := Own.new (w.alloc (.cells (pfx f l a) 28)) 28 (pfx f' l' b)
  rw [show (w.alloc (.cells (pfx f l a) 28)).heap.size = w.heap.size + 1 by simp] at o2
  have hf3 : (f != f') = false := by simpa using k3
  have hl4 : decide (l' < l) = false := by simp; omega
  have K1 := Lib.hid k1
  have K2 := Lib.hid k2
  clear k1 k2 k3 k4 hR
  go_enter Tryd.func24, Tryd.ntmps24
  go_wp2_with (refine wpList_load_row rfl 28 _ rfl w.heap.size rfl 28 (pfx f l a) (0, 0) (.struct (Tryd.prog.fieldsOf 28)) o1 (by kernel_rfl) rfl HS.out ?_)
  refine (rpvalid_any f l a _ ha).mono ?_
  rw [K1.out]
  rintro e w1 ⟨rfl, hb1⟩
  have q1 := o1.step hb1
  have q2 := o2.step hb1
  have hb2 := bl_trans hb0 hb1
  clear o1 o2 hb0 hb1
  go_wp2_with (refine wpList_load_row_on rfl 28 _ rfl (w.heap.size + 1) rfl 28 (pfx f' l' b) (.struct (Tryd.prog.fieldsOf 28)) q2 (by kernel_rfl) rfl HS'.out ?_)
  refine (rpvalid_any f' l' b _ hb).mono ?_
  rw [K2.out]
  rintro e w2 ⟨rfl, hb3⟩
  have u1 := q1.step hb3
  have u2 := q2.step hb3
  have hb4 := bl_trans hb2 hb3
  clear q1 q2 hb2 hb3
  have c0 := u1.cell (pfx_0 f l a)
  have c1 := u1.cell (pfx_1 f l a)
  have d0 := u2.cell (pfx_0 f' l' b)
  have d1 := u2.cell (pfx_1 f' l' b)
  go_wp2
  go_loopw [5] (fun i wr => (∃ k : Nat, (k : Int) ≤ l ∧ i = .int .i64 k ∧ Hid (∀ j : Nat, j < k → bitAt a j = bitAt b j)) ∧ Own wr w.heap.size 28 (pfx f l a) ∧ Own wr (w.heap.size + 1) 28 (pfx f' l' b) ∧ Below w.heap.size w wr) (fun i _ => 128 - (intOf i).toNat)
  case atStart => exact ⟨⟨0, by omega, rfl, Lib.hid (fun j hj => by omega)⟩, u1, u2, hb4⟩
  case round =>
    obtain ⟨⟨k, hk, rfl, hbits⟩, v1, v2, hbr⟩ := hrel
    clear u1 u2 hb4 c0 c1 d0 d1
    have c1 := v1.cell (pfx_1 f l a)
    by_cases hlt : (k : Int) < l
    · have b1 := Lib.hid (rg_of (w := wr) (fun W _ => bit_any a k W ha (by omega) (by omega)))
      have b2 := Lib.hid (rg_of (w := wr) (fun W _ => bit_any b k W hb (by omega) (by omega)))
      unfold arr at b1 b2
      simp only [Int.toNat_natCast] at b1 b2
      have hk16 : k < 128 := by omega
      go_wp2_with fail
      generalize hg2 : w.heap.size + 1 = g2 at v2 ⊢
      have HG := Lib.hid hg2
      clear hg2
      by_cases hbe : bitAt a k = bitAt b k
      · have hn : (bitAt a k != bitAt b k) = false := by simpa using hbe
        have hnext := Lib.hid (show ∀ j : Nat, j < k + 1 → bitAt a j = bitAt b j by intro j hj; by_cases h : j < k; exact hbits.out j h; rw [show j = k by omega]; exact hbe)
        clear hbe
        refine wp_region_quiet_below (by kernel_rfl) (by kernel_rfl) ?_
        repeat (first
          | go_big_quiet_skip
          | (refine wpQuiet_load_mid (by rfl) 26 _ rfl w.heap.size 2 rfl (a.map (Value.int .u8)) (.array 16 5) (pfx_range_rg v1) Tryd.underlying26 rfl HA.out ?_; go_simp)
          | (refine wpQuiet_load_mid (by rfl) 26 _ rfl g2 2 rfl (b.map (Value.int .u8)) (.array 16 5) (pfx_range_rg v2) Tryd.underlying26 rfl HB.out ?_; go_simp)
          | go_big_quiet_step (with_reducible first | exact b1.out _ _ | exact b2.out _ _))
        refine wpQuiet_nil ?_
        rintro ⟨dq, osq⟩
        have hgw := below_regrown wr dq osq
        have x1 := v1.step hgw
        have x2 := v2.step hgw
        have hb5 := bl_trans hbr hgw
        generalize grow (redrawn wr dq) osq = w5 at *
        obtain rfl := HG.out
        clear b1 b2 v1 v2 hgw c1 HG
        go_wp2
        go_roundw
        case rel =>
          first
            | exact ⟨⟨k + 1, by omega, by go_num, hnext⟩, x1, x2, hb5⟩
            | ((repeat apply Exists.intro); exact ⟨⟨⟨k + 1, by omega, by go_num, hnext⟩, x1, x2, hb5⟩, rfl⟩)
        case measure => simp [intOf]; omega
      · have hn : (bitAt a k != bitAt b k) = true := by simpa using hbe
        have hno := Lib.hid (show cov f l a f' l' b = false by rw [hC.out, decide_eq_false_iff_not, HM.out]; exact fun h => hbe (h k hlt hk16))
        clear hbe
        refine wp_region_quiet_below (by kernel_rfl) (by kernel_rfl) ?_
        repeat (first
          | go_big_quiet_skip
          | (refine wpQuiet_load_mid (by rfl) 26 _ rfl w.heap.size 2 rfl (a.map (Value.int .u8)) (.array 16 5) (pfx_range_rg v1) Tryd.underlying26 rfl HA.out ?_; go_simp)
          | (refine wpQuiet_load_mid (by rfl) 26 _ rfl g2 2 rfl (b.map (Value.int .u8)) (.array 16 5) (pfx_range_rg v2) Tryd.underlying26 rfl HB.out ?_; go_simp)
          | go_big_quiet_step (with_reducible first | exact b1.out _ _ | exact b2.out _ _))
        refine wpQuiet_nil ?_
        rintro ⟨dq, osq⟩
        have hb5 := bl_trans hbr (below_regrown wr dq osq)
        generalize grow (redrawn wr dq) osq = w5 at *
        go_wp2
        go_ret
        refine ⟨ret_boolC ?_, hb5⟩
        rw [hno.out]
    · have hyes := Lib.hid (show cov f l a f' l' b = true by rw [hC.out, decide_eq_true_eq, HM.out]; exact fun j hj _ => hbits.out j (by omega))
      go_wp2
      go_ret
      refine ⟨ret_boolC ?_, hbr⟩
      rw [hyes.out]
end Go.Proofs.YtiehbmhekncbhaaDoor

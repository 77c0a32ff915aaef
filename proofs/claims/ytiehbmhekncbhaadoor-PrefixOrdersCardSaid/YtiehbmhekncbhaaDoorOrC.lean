/- peerageref02.Compare -/
import Derived.Test.YtiehbmhekncbhaaDoorOrM
namespace Go.Proofs.YtiehbmhekncbhaaDoor
open Go.RowKit Go.Sort

set_option maxRecDepth 100000 in
theorem ord_rg {w : World} (x y : Int) (d : Nat) (os : Array Obj) : Calls Tryd.prog 80 #[.int .i64 x, .int .i64 y] (grow (redrawn w d) os) fun e w'' => e = .returned (.int .i64 (cmpI x y)) ∧ ∃ p : Regrown, w'' = grow (redrawn w p.d) p.os :=
  rg_of (w := w) (fun W _ => (rorder_any x y W).mono (fun e w' h => ⟨h.1, by rw [h.2]; exact bl_refl W⟩)) d os
theorem cell2 {W : World} {g : Nat} {T : TypeId} {f l : Int} {a : List Int} (ha : IsAddr a) (h : Own W g T (pfx f l a)) {k : Nat} (hk : k < 16) : W.cell? ⟨g, 2 + k, none⟩ = some (.int .u8 (nth a k)) := h.cell ((pfx_at f l a k).trans (ha.at_ hk).1)
set_option maxRecDepth 100000 in
set_option maxHeartbeats 1600000 in
theorem rpcompare_any (f l f' l' : Int) (a b : List Int) (w : World) (ha : IsAddr a) (hb : IsAddr b) :
    Calls Tryd.prog 27 #[.agg (pfx f l a), .agg (pfx f' l' b)] w fun e w' => e = .returned (.int .i64 (pcmp f l a f' l' b)) ∧ Below w.heap.size w w' := by
  have hb0 := bl_alloc (bl_alloc (bl_refl w) (.cells (pfx f l a) 28)) (.cells (pfx f' l' b) 28)
  have o1 := (Own.new w 28 (pfx f l a)).alloc (.cells (pfx f' l' b) 28)
  have o2 := Own.new (w.alloc (.cells (pfx f l a) 28)) 28 (pfx f' l' b)
  rw [show (w.alloc (.cells (pfx f l a) 28)).heap.size = w.heap.size + 1 by simp] at o2
  have c0 := (o1.cell (pfx_0 f l a))
  have d0 := (o2.cell (pfx_0 f' l' b))
  by_cases hf : f = f'
  · have hq : (f != f') = false := by simpa using hf
    have HF := Lib.hid ((cmpI_zero f f').2 hf)
    clear hf
    go_enter Tryd.func27, Tryd.ntmps27
    go_wp2
    go_loopw [5] (fun i wr => (∃ k : Nat, k ≤ 16 ∧ i = .int .i64 k ∧ Hid (∀ j : Nat, j < k → nth a j = nth b j)) ∧ Own wr w.heap.size 28 (pfx f l a) ∧ Own wr (w.heap.size + 1) 28 (pfx f' l' b) ∧ Below w.heap.size w wr) (fun i _ => 16 - (intOf i).toNat)
    case atStart => exact ⟨⟨0, by omega, rfl, Lib.hid (fun j hj => by omega)⟩, o1, o2, hb0⟩
    case round =>
      obtain ⟨⟨k, hk, rfl, hbits⟩, v1, v2, hbr⟩ := hrel
      clear o1 o2 hb0 c0 d0
      by_cases hlt : k < 16
      · have q1 := cell_regrown (cell2 ha v1 hlt)
        have q2 := cell_regrown (cell2 hb v2 hlt)
        have hra := (ha.at_ hlt).2
        have hrb := (hb.at_ hlt).2
        by_cases hbe : nth a k = nth b k
        · have hn : (nth a k != nth b k) = false := by simpa using hbe
          have hnext := Lib.hid (show ∀ j : Nat, j < k + 1 → nth a j = nth b j by intro j hj; by_cases h : j < k; exact hbits.out j h; rw [show j = k by omega]; exact hbe)
          clear hbe
          go_wp2_with fail
          refine wp_region_quiet_below (by kernel_rfl) (by kernel_rfl) ?_
          repeat (go_big_quiet_step (fail))
          refine wpQuiet_nil ?_
          rintro _ ⟨⟨dq, osq⟩, rfl⟩
          have hgw := below_regrown wr dq osq
          have x1 := v1.step hgw
          have x2 := v2.step hgw
          have hb5 := bl_trans hbr hgw
          generalize grow (redrawn wr dq) osq = w5 at *
          clear v1 v2 hgw q1 q2
          go_wp2
          go_roundw
          case rel =>
            first
              | exact ⟨⟨k + 1, by omega, by go_num, hnext⟩, x1, x2, hb5⟩
              | ((repeat apply Exists.intro); exact ⟨⟨⟨k + 1, by omega, by go_num, hnext⟩, x1, x2, hb5⟩, rfl⟩)
          case measure => simp [intOf]; omega
        · have hn : (nth a k != nth b k) = true := by simpa using hbe
          have hcb : Hid (pcmp f l a f' l' b = cmpI (nth a k) (nth b k)) := Lib.hid (by
            have h1 := cb_first k a b (by rw [ha.1, hb.1]) (addr_byt ha) (addr_byt hb) (by rw [ha.1]; exact hlt) hbits.out hbe
            unfold cb at h1
            have h2 : cmpI (nth a k) (nth b k) ≠ 0 := fun h => hbe ((cmpI_zero _ _).1 h)
            unfold pcmp or3
            rw [HF.out, h1, if_neg (by simp), if_pos h2])
          have w1 : IntKind.i64.wrap (nth a k) = nth a k := by rw [IntKind.wrap_i64]; omega
          have w2 : IntKind.i64.wrap (nth b k) = nth b k := by rw [IntKind.wrap_i64]; omega
          clear hbe
          go_wp2_with fail
          refine wp_region_quiet_below (by kernel_rfl) (by kernel_rfl) ?_
          repeat (go_big_quiet_step (fail))
          refine wpQuiet_nil ?_
          rintro _ ⟨⟨dq, osq⟩, rfl⟩
          have hgw := below_regrown wr dq osq
          have x1 := v1.step hgw
          have x2 := v2.step hgw
          have hb5 := bl_trans hbr hgw
          generalize grow (redrawn wr dq) osq = w5 at *
          clear v1 v2 hgw q1 q2
          have q1 := cell_regrown (cell2 ha x1 hlt)
          have q2 := cell_regrown (cell2 hb x2 hlt)
          have oc := Lib.hid (ord_rg (w := w5) (nth a k) (nth b k))
          go_wp2_with fail
          refine wp_region_quiet_below (by kernel_rfl) (by kernel_rfl) ?_
          repeat (go_big_quiet_step (exact oc.out _ _))
          refine wpQuiet_nil ?_
          rintro _ ⟨⟨dq2, osq2⟩, rfl⟩
          have hb6 := bl_trans hb5 (below_regrown w5 dq2 osq2)
          generalize grow (redrawn w5 dq2) osq2 = w6 at *
          go_wp2
          go_ret
          refine ⟨?_, hb6⟩
          rw [hcb.out]
          rfl
      · obtain rfl : k = 16 := by omega
        have hcb : Hid (pcmp f l a f' l' b = cmpI l l') := Lib.hid (by
          have he : a = b := by
            apply List.ext_getElem (by rw [ha.1, hb.1])
            intro i hi hi2
            have := hbits.out i (by rw [ha.1] at hi; exact hi)
            simpa [nth, hi, hi2] using this
          have h1 := (cb_zero a b (by rw [ha.1, hb.1]) (addr_byt ha) (addr_byt hb)).2 he
          unfold cb at h1
          unfold pcmp or3
          rw [HF.out, h1, if_neg (by simp), if_neg (by simp)])
        have c1 := v1.cell (pfx_1 f l a)
        have d1 := v2.cell (pfx_1 f' l' b)
        go_wp2_with fail
        refine (rorder_any l l' _).mono ?_
        rintro e w' ⟨rfl, rfl⟩
        go_wp2
        go_ret
        refine ⟨?_, hbr⟩
        rw [hcb.out]
        rfl
  · have hq : (f != f') = true := by simpa using hf
    have hcb : Hid (pcmp f l a f' l' b = cmpI f f') := Lib.hid (by
      have h2 : cmpI f f' ≠ 0 := fun h => hf ((cmpI_zero _ _).1 h)
      unfold pcmp or3
      rw [if_pos h2])
    clear hf
    go_enter Tryd.func27, Tryd.ntmps27
    go_wp2_with fail
    refine (rorder_any f f' _).mono ?_
    rintro e w' ⟨rfl, rfl⟩
    go_wp2
    go_ret
    refine ⟨?_, hb0⟩
    rw [hcb.out]
    rfl
end Go.Proofs.YtiehbmhekncbhaaDoor

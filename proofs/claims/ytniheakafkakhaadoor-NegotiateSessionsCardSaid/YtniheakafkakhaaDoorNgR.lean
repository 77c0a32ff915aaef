/- NegotiateSessions: the walk -/
import Derived.Test.YtniheakafkakhaaDoorNgGv
import Derived.Test.YtniheakafkakhaaDoorNgQ
namespace Go.Proofs.YtniheakafkakhaaDoor
open Go.RowKit Go.Sort
/-- What the region leaves that makes both sessions. -/
def GivS (w2 : World) (a b : Array Value) (v7 v8 : Value) (wx : World) : Prop := ∃ g7 g8, v7 = .pointer (some ⟨g7, 0, none⟩) ∧ v8 = .pointer (some ⟨g8, 0, none⟩) ∧ Own wx g7 75 a ∧ Own wx g8 75 b ∧ Below w2.heap.size w2 wx
/-- What the region leaves that makes the session that is asked. -/
def GivW (w2 : World) (a : Array Value) (v9 : Value) (wx : World) : Prop := ∃ g9, v9 = .pointer (some ⟨g9, 0, none⟩) ∧ Own wx g9 75 a ∧ Below w2.heap.size w2 wx
set_option maxRecDepth 100000 in
set_option maxHeartbeats 12800000 in
theorem ngses_all (p q r : Int) (A : Option Addr) (n c : Nat) (p' q' r' : Int) (A' : Option Addr) (n' c' : Nat) (ss ts : List Cp) (w : World) (hf : Fams w) (h : Caps w w.heap.size A n ss) (h' : Caps w w.heap.size A' n' ts) (hm : n ≤ maxLen) (hm' : n' ≤ maxLen) :
    Calls Tryd.prog 8 #[.agg #[.int .u32 p, .int .i64 q, .int .u32 r, .slice A n c], .agg #[.int .u32 p', .int .i64 q', .int .u32 r', .slice A' n' c']] w fun e w' => e = .returned (.bool true) ∧ Below w.heap.size w w' := by
  have HCa := Lib.hid h
  have HCb := Lib.hid h'
  have HF := Lib.hid hf
  have HNa := Lib.hid h.1
  have HNb := Lib.hid h'.1
  have HMa := Lib.hid hm
  have HMb := Lib.hid hm'
  obtain ⟨X, hX, oA, oB, hbX, hXs⟩ := two_boxesN w #[.int .u32 p, .int .i64 q, .int .u32 r, .slice A n c] #[.int .u32 p', .int .i64 q', .int .u32 r', .slice A' n' c'] 41 41
  clear h h' hm hm' hf
  have oR := Own.new X 41 #[.int .u32 p, .int .i64 q, .int .u32 r, .slice A n c, .int .u32 p', .int .i64 q', .int .u32 r', .slice A' n' c']
  have hbR := bl_alloc hbX (.cells #[.int .u32 p, .int .i64 q, .int .u32 r, .slice A n c, .int .u32 p', .int .i64 q', .int .u32 r', .slice A' n' c'] 41)
  have hbX1 := bl_alloc (bl_refl X) (.cells #[.int .u32 p, .int .i64 q, .int .u32 r, .slice A n c, .int .u32 p', .int .i64 q', .int .u32 r', .slice A' n' c'] 41)
  have hR := Lib.hid (right22_any p q r A n c p' q' r' A' n' c' ss ts X.heap.size _ (HCa.out.step hbR) (HCb.out.step hbR) HMa.out HMb.out oR)
  obtain ⟨a0, a1, a2, a3⟩ := own_end oA
  obtain ⟨b0, b1, b2, b3⟩ := own_end oB
  go_enter Tryd.func8, Tryd.ntmps8
  go_upto_region 1 with fail
  rw [← hX]
  clear hX hXs
  go_wp2_with fail
  refine hR.out.mono ?_
  rintro e w2 ⟨D, rfl, hD, hb2⟩
  have hb3 := bl_trans hbR hb2
  have oA2 := (oA.step hbX1).step hb2
  have oB2 := (oB.step hbX1).step hb2
  clear hR oR hbX1 a0 a1 a2 a3 b0 b1 b2 b3 oA oB hbX hbR hb2
  cases D
  · go_wp2_with fail
    refine (alive22_any _ (HF.out.below hb3)).mono ?_
    rintro e w3 ⟨rfl, hb4⟩
    have hb5 := bl_trans hb3 hb4
    go_wp2
    go_ret
    exact ⟨rfl, hb5⟩
  · obtain ⟨hRa, hRb⟩ := hD rfl
    have hna : n ≤ 40 := by rw [HNa.out]; exact (fewCp_of hRa.1).1
    have hnb : n' ≤ 40 := by rw [HNb.out]; exact (fewCp_of hRb.1).1
    have HSa := Lib.hid (fewCp_of hRa.1).2
    have HSb := Lib.hid (fewCp_of hRb.1).2
    have hq := Lib.hid (holdB_ok hRa.2)
    have hq' := Lib.hid (holdB_ok hRb.2)
    have HCa2 := Lib.hid (HCa.out.step hb3)
    have HCb2 := Lib.hid (HCb.out.step hb3)
    have HF2 := Lib.hid (HF.out.below hb3)
    have hsz := hb3.size
    clear hRa hRb hD HCa HCb HF HNa HNb HMa HMb
    go_upto_region 3 with fail
    go_cut [5, 6] (fun v5 v6 wx => GivX w2 p q r n p' q' r' n' ss ts v5 v6 wx)
    case first =>
      refine wp_region_held_drew (S := (fun X => Own X (w.heap.size) 41 #[.int .u32 p, .int .i64 q, .int .u32 r, .slice A n c] ∧ Own X (w.heap.size + 1) 41 #[.int .u32 p', .int .i64 q', .int .u32 r', .slice A' n' c'])) (by kernel_rfl) ⟨oA2.drew, oB2.drew⟩ (fun hHeld => ?_)
      have oA0 := oA2.drew
      have oB0 := oB2.drew
      have bb0 : Below w2.heap.size w2 w2.drew := bl_drewN (bl_refl w2) 1
      generalize w2.drew = Y0 at *
      refine wpAnyH_take (i := 0) (v := ?_) rfl (by kernel_rfl) (by kernel_rfl) (by kernel_rfl) (fun _ _ _ h => h) (Or.inl ⟨by rfl, ?_⟩) (by assumption) ?_
      rotate_left
      · (intro W hSw; have s0 : Own W (w.heap.size) 41 #[.int .u32 p, .int .i64 q, .int .u32 r, .slice A n c] := hSw.1; have s1 : Own W (w.heap.size + 1) 41 #[.int .u32 p', .int .i64 q', .int .u32 r', .slice A' n' c'] := hSw.2; obtain ⟨e0, e1, e2, e3⟩ := own_end s0; obtain ⟨d0, d1, d2, d3⟩ := own_end s1; go_simp; try with_reducible rfl)
      simp only [Act.put, List.getElem_toArray, List.getElem_cons_zero, List.setIfInBounds_toArray, List.set_cons_zero, List.set_cons_succ]
      refine wpAnyH_take (i := 2) (v := ?_) rfl (by kernel_rfl) (by kernel_rfl) (by kernel_rfl) (fun _ _ _ h => h) (Or.inl ⟨by rfl, ?_⟩) (by assumption) ?_
      rotate_left
      · (intro W hSw; have s0 : Own W (w.heap.size) 41 #[.int .u32 p, .int .i64 q, .int .u32 r, .slice A n c] := hSw.1; have s1 : Own W (w.heap.size + 1) 41 #[.int .u32 p', .int .i64 q', .int .u32 r', .slice A' n' c'] := hSw.2; obtain ⟨e0, e1, e2, e3⟩ := own_end s0; obtain ⟨d0, d1, d2, d3⟩ := own_end s1; go_simp; try with_reducible rfl)
      simp only [Act.put, List.getElem_toArray, List.getElem_cons_zero, List.getElem_cons_succ, List.setIfInBounds_toArray, List.set_cons_zero, List.set_cons_succ]
      refine wpAnyH_ready (rs := [1, 4, 5]) (by kernel_rfl) (by simp) ?_
      refine (AllReadyH.cons rfl (fun K hK => ?_) (AllReadyH.cons rfl (fun K hK => ?_) (AllReadyH.cons rfl (fun K hK => ?_) AllReadyH.nil)))
      · go_simp
        go_at_call 25
        refine (given17_any p q r A n c ss Y0 (HCa2.out.step bb0) (by omega)).mono ?_
        rintro e W1 ⟨A1, c1, rfl, hC1_1, hx1⟩
        have oA1 := oA0.step hx1
        have oB1 := oB0.step hx1
        have bb1 := bl_trans bb0 hx1
        refine hK.out _ _ ⟨oA1, oB1⟩ (fun hHeld2 => ?_)
        clear hK K hHeld
        have hHeld := hHeld2
        clear hHeld2
        try simp only [Act.put, List.getElem_toArray, List.getElem_cons_zero, List.getElem_cons_succ, List.setIfInBounds_toArray, List.set_cons_zero, List.set_cons_succ]
        refine wpAnyH_ready (rs := [3, 4, 5]) (by kernel_rfl) (by simp) ?_
        refine (AllReadyH.cons rfl (fun K hK => ?_) (AllReadyH.cons rfl (fun K hK => ?_) (AllReadyH.cons rfl (fun K hK => ?_) AllReadyH.nil)))
        · go_simp
          go_at_call 25
          refine (given17_any p' q' r' A' n' c' ts W1 (HCb2.out.step bb1) (by omega)).mono ?_
          rintro e W2 ⟨A3, c3, rfl, hC3_2, hx2⟩
          have oA2 := oA1.step hx2
          have oB2 := oB1.step hx2
          have hC1_2 := hC1_1.step hx2
          have bb2 := bl_trans bb1 hx2
          refine hK.out _ _ ⟨oA2, oB2⟩ (fun hHeld2 => ?_)
          clear hK K hHeld
          have hHeld := hHeld2
          clear hHeld2
          try simp only [Act.put, List.getElem_toArray, List.getElem_cons_zero, List.getElem_cons_succ, List.setIfInBounds_toArray, List.set_cons_zero, List.set_cons_succ]
          refine wpAnyH_ready (rs := [4, 5]) (by kernel_rfl) (by simp) ?_
          refine (AllReadyH.cons rfl (fun K hK => ?_) (AllReadyH.cons rfl (fun K hK => ?_) AllReadyH.nil))
          · go_simp
            have hx3 := bl_alloc (bl_refl W2) (.cells #[.int .u32 0, .int .i64 0, .int .u32 0, .slice none 0 0] 47)
            have o4_3 := Own.new W2 47 #[.int .u32 0, .int .i64 0, .int .u32 0, .slice none 0 0]
            have hlo3 := bb2.size
            have hlA3 := oA2.lt
            have hlB3 := oB2.lt
            have oA3 := oA2.step hx3
            have oB3 := oB2.step hx3
            have hC1_3 := hC1_2.step hx3
            have hC3_3 := hC3_2.step hx3
            have bb3 := bl_trans bb2 hx3
            generalize hgx3 : (W2.alloc (.cells #[.int .u32 0, .int .i64 0, .int .u32 0, .slice none 0 0] 47)) = W3 at *
            clear hgx3
            refine hK.out _ _ ⟨oA3, oB3⟩ (fun hHeld2 => ?_)
            clear hK K hHeld
            have hHeld := hHeld2
            clear hHeld2
            try simp only [Act.put, List.getElem_toArray, List.getElem_cons_zero, List.getElem_cons_succ, List.setIfInBounds_toArray, List.set_cons_zero, List.set_cons_succ]
            refine wpAnyH_ready (rs := [5]) (by kernel_rfl) (by simp) ?_
            refine (AllReadyH.cons rfl (fun K hK => ?_) AllReadyH.nil)
            go_simp
            have hx4 := bl_alloc (bl_refl W3) (.cells #[.int .u32 0, .int .i64 0, .int .u32 0, .slice none 0 0] 47)
            have o5_4 := Own.new W3 47 #[.int .u32 0, .int .i64 0, .int .u32 0, .slice none 0 0]
            have hne4 : W2.heap.size ≠ W3.heap.size := by have := o4_3.lt; omega
            have hlo4 := bb3.size
            have hlA4 := oA3.lt
            have hlB4 := oB3.lt
            have oA4 := oA3.step hx4
            have oB4 := oB3.step hx4
            have hC1_4 := hC1_3.step hx4
            have hC3_4 := hC3_3.step hx4
            have o4_4 := o4_3.step hx4
            have bb4 := bl_trans bb3 hx4
            generalize hgx4 : (W3.alloc (.cells #[.int .u32 0, .int .i64 0, .int .u32 0, .slice none 0 0] 47)) = W4 at *
            clear hgx4
            refine hK.out _ _ ⟨oA4, oB4⟩ (fun hHeld2 => ?_)
            clear hK K hHeld
            have hHeld := hHeld2
            clear hHeld2
            try simp only [Act.put, List.getElem_toArray, List.getElem_cons_zero, List.getElem_cons_succ, List.setIfInBounds_toArray, List.set_cons_zero, List.set_cons_succ]
            refine wpAnyH_ready (rs := [6]) (by kernel_rfl) (by simp) ?_
            refine (AllReadyH.cons rfl (fun K hK => ?_) AllReadyH.nil)
            have z0 := o4_4.frozen 0
            have z1 := o4_4.frozen 1
            have z2 := o4_4.frozen 2
            have z3 := o4_4.frozen 3
            obtain ⟨y0, y1, y2, y3⟩ := own_end o4_4
            go_simp
            rw [show ((((W4.setCell ⟨W2.heap.size, 0, none⟩ (.int .u32 p)).setCell ⟨W2.heap.size, 1, none⟩ (.int .i64 q)).setCell ⟨W2.heap.size, 2, none⟩ (.int .u32 r)).setCell ⟨W2.heap.size, 3, none⟩ (.slice A1 n c1)) = sets4 W4 (W2.heap.size) (.int .u32 p) (.int .i64 q) (.int .u32 r) (.slice A1 n c1) from rfl]
            have qs1_4 := sets4_own (a := .int .u32 p) (b := .int .i64 q) (c := .int .u32 r) (d := .slice A1 n c1) o4_4
            have rs1_4 := sets4_far (g := W2.heap.size) (a := .int .u32 p) (b := .int .i64 q) (c := .int .u32 r) (d := .slice A1 n c1) o5_4 (by omega)
            have oAs1_4 := sets4_far (g := W2.heap.size) (a := .int .u32 p) (b := .int .i64 q) (c := .int .u32 r) (d := .slice A1 n c1) oA4 (by omega)
            have oBs1_4 := sets4_far (g := W2.heap.size) (a := .int .u32 p) (b := .int .i64 q) (c := .int .u32 r) (d := .slice A1 n c1) oB4 (by omega)
            have bbs1_4 := sets4_below (g := W2.heap.size) (a := .int .u32 p) (b := .int .i64 q) (c := .int .u32 r) (d := .slice A1 n c1) bb4 (by omega)
            have hC1_s1_4 := sets4_caps (w := W4) (p := p) (q := q) (r := r) (v := .slice A1 n c1) hC1_4 o4_4
            have hC3_s1_4 := sets4_caps (w := W4) (p := p) (q := q) (r := r) (v := .slice A1 n c1) hC3_4 o4_4
            clear z0 z1 z2 z3 y0 y1 y2 y3 o4_4
            generalize hges1_4 : sets4 W4 (W2.heap.size) (.int .u32 p) (.int .i64 q) (.int .u32 r) (.slice A1 n c1) = V4 at *
            clear hges1_4
            refine hK.out _ _ ⟨oAs1_4, oBs1_4⟩ (fun hHeld2 => ?_)
            clear hK K hHeld
            have hHeld := hHeld2
            clear hHeld2
            try simp only [Act.put, List.getElem_toArray, List.getElem_cons_zero, List.getElem_cons_succ, List.setIfInBounds_toArray, List.set_cons_zero, List.set_cons_succ]
            have o5z4 := rs1_4
            refine wpAnyH_ready (rs := [7]) (by kernel_rfl) (by simp) ?_
            refine (AllReadyH.cons rfl (fun K hK => ?_) AllReadyH.nil)
            have z0 := o5z4.frozen 0
            have z1 := o5z4.frozen 1
            have z2 := o5z4.frozen 2
            have z3 := o5z4.frozen 3
            obtain ⟨y0, y1, y2, y3⟩ := own_end o5z4
            go_simp
            rw [show ((((V4.setCell ⟨W3.heap.size, 0, none⟩ (.int .u32 p')).setCell ⟨W3.heap.size, 1, none⟩ (.int .i64 q')).setCell ⟨W3.heap.size, 2, none⟩ (.int .u32 r')).setCell ⟨W3.heap.size, 3, none⟩ (.slice A3 n' c3)) = sets4 V4 (W3.heap.size) (.int .u32 p') (.int .i64 q') (.int .u32 r') (.slice A3 n' c3) from rfl]
            have qs2_4 := sets4_own (a := .int .u32 p') (b := .int .i64 q') (c := .int .u32 r') (d := .slice A3 n' c3) o5z4
            have rs2_4 := sets4_far (g := W3.heap.size) (a := .int .u32 p') (b := .int .i64 q') (c := .int .u32 r') (d := .slice A3 n' c3) qs1_4 (by omega)
            have oAs2_4 := sets4_far (g := W3.heap.size) (a := .int .u32 p') (b := .int .i64 q') (c := .int .u32 r') (d := .slice A3 n' c3) oAs1_4 (by omega)
            have oBs2_4 := sets4_far (g := W3.heap.size) (a := .int .u32 p') (b := .int .i64 q') (c := .int .u32 r') (d := .slice A3 n' c3) oBs1_4 (by omega)
            have bbs2_4 := sets4_below (g := W3.heap.size) (a := .int .u32 p') (b := .int .i64 q') (c := .int .u32 r') (d := .slice A3 n' c3) bbs1_4 (by omega)
            have hC1_s2_4 := sets4_caps (w := V4) (p := p') (q := q') (r := r') (v := .slice A3 n' c3) hC1_s1_4 o5z4
            have hC3_s2_4 := sets4_caps (w := V4) (p := p') (q := q') (r := r') (v := .slice A3 n' c3) hC3_s1_4 o5z4
            clear z0 z1 z2 z3 y0 y1 y2 y3 o5z4
            generalize hges2_4 : sets4 V4 (W3.heap.size) (.int .u32 p') (.int .i64 q') (.int .u32 r') (.slice A3 n' c3) = U4 at *
            clear hges2_4
            refine hK.out _ _ ⟨oAs2_4, oBs2_4⟩ (fun hHeld2 => ?_)
            clear hK K hHeld
            have hHeld := hHeld2
            clear hHeld2
            try simp only [Act.put, List.getElem_toArray, List.getElem_cons_zero, List.getElem_cons_succ, List.setIfInBounds_toArray, List.set_cons_zero, List.set_cons_succ]
            refine wpAnyH_done (by kernel_rfl) ?_ _
            try refine NoPanic.normal ?_
            go_wp2_with fail
            go_meet
            exact ⟨W2.heap.size, W3.heap.size, A1, c1, A3, c3, rfl, rfl, rs2_4, qs2_4, hC1_s2_4, hC3_s2_4, bbs2_4⟩
          · go_simp
            have hx5 := bl_alloc (bl_refl W2) (.cells #[.int .u32 0, .int .i64 0, .int .u32 0, .slice none 0 0] 47)
            have o5_5 := Own.new W2 47 #[.int .u32 0, .int .i64 0, .int .u32 0, .slice none 0 0]
            have hlo5 := bb2.size
            have hlA5 := oA2.lt
            have hlB5 := oB2.lt
            have oA5 := oA2.step hx5
            have oB5 := oB2.step hx5
            have hC1_5 := hC1_2.step hx5
            have hC3_5 := hC3_2.step hx5
            have bb5 := bl_trans bb2 hx5
            generalize hgx5 : (W2.alloc (.cells #[.int .u32 0, .int .i64 0, .int .u32 0, .slice none 0 0] 47)) = W5 at *
            clear hgx5
            refine hK.out _ _ ⟨oA5, oB5⟩ (fun hHeld2 => ?_)
            clear hK K hHeld
            have hHeld := hHeld2
            clear hHeld2
            try simp only [Act.put, List.getElem_toArray, List.getElem_cons_zero, List.getElem_cons_succ, List.setIfInBounds_toArray, List.set_cons_zero, List.set_cons_succ]
            refine wpAnyH_ready (rs := [4]) (by kernel_rfl) (by simp) ?_
            refine (AllReadyH.cons rfl (fun K hK => ?_) AllReadyH.nil)
            go_simp
            have hx6 := bl_alloc (bl_refl W5) (.cells #[.int .u32 0, .int .i64 0, .int .u32 0, .slice none 0 0] 47)
            have o4_6 := Own.new W5 47 #[.int .u32 0, .int .i64 0, .int .u32 0, .slice none 0 0]
            have hne6 : W2.heap.size ≠ W5.heap.size := by have := o5_5.lt; omega
            have hlo6 := bb5.size
            have hlA6 := oA5.lt
            have hlB6 := oB5.lt
            have oA6 := oA5.step hx6
            have oB6 := oB5.step hx6
            have hC1_6 := hC1_5.step hx6
            have hC3_6 := hC3_5.step hx6
            have o5_6 := o5_5.step hx6
            have bb6 := bl_trans bb5 hx6
            generalize hgx6 : (W5.alloc (.cells #[.int .u32 0, .int .i64 0, .int .u32 0, .slice none 0 0] 47)) = W6 at *
            clear hgx6
            refine hK.out _ _ ⟨oA6, oB6⟩ (fun hHeld2 => ?_)
            clear hK K hHeld
            have hHeld := hHeld2
            clear hHeld2
            try simp only [Act.put, List.getElem_toArray, List.getElem_cons_zero, List.getElem_cons_succ, List.setIfInBounds_toArray, List.set_cons_zero, List.set_cons_succ]
            refine wpAnyH_ready (rs := [6]) (by kernel_rfl) (by simp) ?_
            refine (AllReadyH.cons rfl (fun K hK => ?_) AllReadyH.nil)
            have z0 := o4_6.frozen 0
            have z1 := o4_6.frozen 1
            have z2 := o4_6.frozen 2
            have z3 := o4_6.frozen 3
            obtain ⟨y0, y1, y2, y3⟩ := own_end o4_6
            go_simp
            rw [show ((((W6.setCell ⟨W5.heap.size, 0, none⟩ (.int .u32 p)).setCell ⟨W5.heap.size, 1, none⟩ (.int .i64 q)).setCell ⟨W5.heap.size, 2, none⟩ (.int .u32 r)).setCell ⟨W5.heap.size, 3, none⟩ (.slice A1 n c1)) = sets4 W6 (W5.heap.size) (.int .u32 p) (.int .i64 q) (.int .u32 r) (.slice A1 n c1) from rfl]
            have qs1_6 := sets4_own (a := .int .u32 p) (b := .int .i64 q) (c := .int .u32 r) (d := .slice A1 n c1) o4_6
            have rs1_6 := sets4_far (g := W5.heap.size) (a := .int .u32 p) (b := .int .i64 q) (c := .int .u32 r) (d := .slice A1 n c1) o5_6 (by omega)
            have oAs1_6 := sets4_far (g := W5.heap.size) (a := .int .u32 p) (b := .int .i64 q) (c := .int .u32 r) (d := .slice A1 n c1) oA6 (by omega)
            have oBs1_6 := sets4_far (g := W5.heap.size) (a := .int .u32 p) (b := .int .i64 q) (c := .int .u32 r) (d := .slice A1 n c1) oB6 (by omega)
            have bbs1_6 := sets4_below (g := W5.heap.size) (a := .int .u32 p) (b := .int .i64 q) (c := .int .u32 r) (d := .slice A1 n c1) bb6 (by omega)
            have hC1_s1_6 := sets4_caps (w := W6) (p := p) (q := q) (r := r) (v := .slice A1 n c1) hC1_6 o4_6
            have hC3_s1_6 := sets4_caps (w := W6) (p := p) (q := q) (r := r) (v := .slice A1 n c1) hC3_6 o4_6
            clear z0 z1 z2 z3 y0 y1 y2 y3 o4_6
            generalize hges1_6 : sets4 W6 (W5.heap.size) (.int .u32 p) (.int .i64 q) (.int .u32 r) (.slice A1 n c1) = V6 at *
            clear hges1_6
            refine hK.out _ _ ⟨oAs1_6, oBs1_6⟩ (fun hHeld2 => ?_)
            clear hK K hHeld
            have hHeld := hHeld2
            clear hHeld2
            try simp only [Act.put, List.getElem_toArray, List.getElem_cons_zero, List.getElem_cons_succ, List.setIfInBounds_toArray, List.set_cons_zero, List.set_cons_succ]
            have o5z6 := rs1_6
            refine wpAnyH_ready (rs := [7]) (by kernel_rfl) (by simp) ?_
            refine (AllReadyH.cons rfl (fun K hK => ?_) AllReadyH.nil)
            have z0 := o5z6.frozen 0
            have z1 := o5z6.frozen 1
            have z2 := o5z6.frozen 2
            have z3 := o5z6.frozen 3
            obtain ⟨y0, y1, y2, y3⟩ := own_end o5z6
            go_simp
            rw [show ((((V6.setCell ⟨W2.heap.size, 0, none⟩ (.int .u32 p')).setCell ⟨W2.heap.size, 1, none⟩ (.int .i64 q')).setCell ⟨W2.heap.size, 2, none⟩ (.int .u32 r')).setCell ⟨W2.heap.size, 3, none⟩ (.slice A3 n' c3)) = sets4 V6 (W2.heap.size) (.int .u32 p') (.int .i64 q') (.int .u32 r') (.slice A3 n' c3) from rfl]
            have qs2_6 := sets4_own (a := .int .u32 p') (b := .int .i64 q') (c := .int .u32 r') (d := .slice A3 n' c3) o5z6
            have rs2_6 := sets4_far (g := W2.heap.size) (a := .int .u32 p') (b := .int .i64 q') (c := .int .u32 r') (d := .slice A3 n' c3) qs1_6 (by omega)
            have oAs2_6 := sets4_far (g := W2.heap.size) (a := .int .u32 p') (b := .int .i64 q') (c := .int .u32 r') (d := .slice A3 n' c3) oAs1_6 (by omega)
            have oBs2_6 := sets4_far (g := W2.heap.size) (a := .int .u32 p') (b := .int .i64 q') (c := .int .u32 r') (d := .slice A3 n' c3) oBs1_6 (by omega)
            have bbs2_6 := sets4_below (g := W2.heap.size) (a := .int .u32 p') (b := .int .i64 q') (c := .int .u32 r') (d := .slice A3 n' c3) bbs1_6 (by omega)
            have hC1_s2_6 := sets4_caps (w := V6) (p := p') (q := q') (r := r') (v := .slice A3 n' c3) hC1_s1_6 o5z6
            have hC3_s2_6 := sets4_caps (w := V6) (p := p') (q := q') (r := r') (v := .slice A3 n' c3) hC3_s1_6 o5z6
            clear z0 z1 z2 z3 y0 y1 y2 y3 o5z6
            generalize hges2_6 : sets4 V6 (W2.heap.size) (.int .u32 p') (.int .i64 q') (.int .u32 r') (.slice A3 n' c3) = U6 at *
            clear hges2_6
            refine hK.out _ _ ⟨oAs2_6, oBs2_6⟩ (fun hHeld2 => ?_)
            clear hK K hHeld
            have hHeld := hHeld2
            clear hHeld2
            try simp only [Act.put, List.getElem_toArray, List.getElem_cons_zero, List.getElem_cons_succ, List.setIfInBounds_toArray, List.set_cons_zero, List.set_cons_succ]
            refine wpAnyH_done (by kernel_rfl) ?_ _
            try refine NoPanic.normal ?_
            go_wp2_with fail
            go_meet
            exact ⟨W5.heap.size, W2.heap.size, A1, c1, A3, c3, rfl, rfl, rs2_6, qs2_6, hC1_s2_6, hC3_s2_6, bbs2_6⟩
        · go_simp
          have hx7 := bl_alloc (bl_refl W1) (.cells #[.int .u32 0, .int .i64 0, .int .u32 0, .slice none 0 0] 47)
          have o4_7 := Own.new W1 47 #[.int .u32 0, .int .i64 0, .int .u32 0, .slice none 0 0]
          have hlo7 := bb1.size
          have hlA7 := oA1.lt
          have hlB7 := oB1.lt
          have oA7 := oA1.step hx7
          have oB7 := oB1.step hx7
          have hC1_7 := hC1_1.step hx7
          have bb7 := bl_trans bb1 hx7
          generalize hgx7 : (W1.alloc (.cells #[.int .u32 0, .int .i64 0, .int .u32 0, .slice none 0 0] 47)) = W7 at *
          clear hgx7
          refine hK.out _ _ ⟨oA7, oB7⟩ (fun hHeld2 => ?_)
          clear hK K hHeld
          have hHeld := hHeld2
          clear hHeld2
          try simp only [Act.put, List.getElem_toArray, List.getElem_cons_zero, List.getElem_cons_succ, List.setIfInBounds_toArray, List.set_cons_zero, List.set_cons_succ]
          refine wpAnyH_ready (rs := [3, 5]) (by kernel_rfl) (by simp) ?_
          refine (AllReadyH.cons rfl (fun K hK => ?_) (AllReadyH.cons rfl (fun K hK => ?_) AllReadyH.nil))
          · go_simp
            go_at_call 25
            refine (given17_any p' q' r' A' n' c' ts W7 (HCb2.out.step bb7) (by omega)).mono ?_
            rintro e W8 ⟨A3, c3, rfl, hC3_8, hx8⟩
            have oA8 := oA7.step hx8
            have oB8 := oB7.step hx8
            have hC1_8 := hC1_7.step hx8
            have o4_8 := o4_7.step hx8
            have bb8 := bl_trans bb7 hx8
            refine hK.out _ _ ⟨oA8, oB8⟩ (fun hHeld2 => ?_)
            clear hK K hHeld
            have hHeld := hHeld2
            clear hHeld2
            try simp only [Act.put, List.getElem_toArray, List.getElem_cons_zero, List.getElem_cons_succ, List.setIfInBounds_toArray, List.set_cons_zero, List.set_cons_succ]
            refine wpAnyH_ready (rs := [5]) (by kernel_rfl) (by simp) ?_
            refine (AllReadyH.cons rfl (fun K hK => ?_) AllReadyH.nil)
            go_simp
            have hx9 := bl_alloc (bl_refl W8) (.cells #[.int .u32 0, .int .i64 0, .int .u32 0, .slice none 0 0] 47)
            have o5_9 := Own.new W8 47 #[.int .u32 0, .int .i64 0, .int .u32 0, .slice none 0 0]
            have hne9 : W1.heap.size ≠ W8.heap.size := by have := o4_8.lt; omega
            have hlo9 := bb8.size
            have hlA9 := oA8.lt
            have hlB9 := oB8.lt
            have oA9 := oA8.step hx9
            have oB9 := oB8.step hx9
            have hC1_9 := hC1_8.step hx9
            have hC3_9 := hC3_8.step hx9
            have o4_9 := o4_8.step hx9
            have bb9 := bl_trans bb8 hx9
            generalize hgx9 : (W8.alloc (.cells #[.int .u32 0, .int .i64 0, .int .u32 0, .slice none 0 0] 47)) = W9 at *
            clear hgx9
            refine hK.out _ _ ⟨oA9, oB9⟩ (fun hHeld2 => ?_)
            clear hK K hHeld
            have hHeld := hHeld2
            clear hHeld2
            try simp only [Act.put, List.getElem_toArray, List.getElem_cons_zero, List.getElem_cons_succ, List.setIfInBounds_toArray, List.set_cons_zero, List.set_cons_succ]
            refine wpAnyH_ready (rs := [6]) (by kernel_rfl) (by simp) ?_
            refine (AllReadyH.cons rfl (fun K hK => ?_) AllReadyH.nil)
            have z0 := o4_9.frozen 0
            have z1 := o4_9.frozen 1
            have z2 := o4_9.frozen 2
            have z3 := o4_9.frozen 3
            obtain ⟨y0, y1, y2, y3⟩ := own_end o4_9
            go_simp
            rw [show ((((W9.setCell ⟨W1.heap.size, 0, none⟩ (.int .u32 p)).setCell ⟨W1.heap.size, 1, none⟩ (.int .i64 q)).setCell ⟨W1.heap.size, 2, none⟩ (.int .u32 r)).setCell ⟨W1.heap.size, 3, none⟩ (.slice A1 n c1)) = sets4 W9 (W1.heap.size) (.int .u32 p) (.int .i64 q) (.int .u32 r) (.slice A1 n c1) from rfl]
            have qs1_9 := sets4_own (a := .int .u32 p) (b := .int .i64 q) (c := .int .u32 r) (d := .slice A1 n c1) o4_9
            have rs1_9 := sets4_far (g := W1.heap.size) (a := .int .u32 p) (b := .int .i64 q) (c := .int .u32 r) (d := .slice A1 n c1) o5_9 (by omega)
            have oAs1_9 := sets4_far (g := W1.heap.size) (a := .int .u32 p) (b := .int .i64 q) (c := .int .u32 r) (d := .slice A1 n c1) oA9 (by omega)
            have oBs1_9 := sets4_far (g := W1.heap.size) (a := .int .u32 p) (b := .int .i64 q) (c := .int .u32 r) (d := .slice A1 n c1) oB9 (by omega)
            have bbs1_9 := sets4_below (g := W1.heap.size) (a := .int .u32 p) (b := .int .i64 q) (c := .int .u32 r) (d := .slice A1 n c1) bb9 (by omega)
            have hC1_s1_9 := sets4_caps (w := W9) (p := p) (q := q) (r := r) (v := .slice A1 n c1) hC1_9 o4_9
            have hC3_s1_9 := sets4_caps (w := W9) (p := p) (q := q) (r := r) (v := .slice A1 n c1) hC3_9 o4_9
            clear z0 z1 z2 z3 y0 y1 y2 y3 o4_9
            generalize hges1_9 : sets4 W9 (W1.heap.size) (.int .u32 p) (.int .i64 q) (.int .u32 r) (.slice A1 n c1) = V9 at *
            clear hges1_9
            refine hK.out _ _ ⟨oAs1_9, oBs1_9⟩ (fun hHeld2 => ?_)
            clear hK K hHeld
            have hHeld := hHeld2
            clear hHeld2
            try simp only [Act.put, List.getElem_toArray, List.getElem_cons_zero, List.getElem_cons_succ, List.setIfInBounds_toArray, List.set_cons_zero, List.set_cons_succ]
            have o5z9 := rs1_9
            refine wpAnyH_ready (rs := [7]) (by kernel_rfl) (by simp) ?_
            refine (AllReadyH.cons rfl (fun K hK => ?_) AllReadyH.nil)
            have z0 := o5z9.frozen 0
            have z1 := o5z9.frozen 1
            have z2 := o5z9.frozen 2
            have z3 := o5z9.frozen 3
            obtain ⟨y0, y1, y2, y3⟩ := own_end o5z9
            go_simp
            rw [show ((((V9.setCell ⟨W8.heap.size, 0, none⟩ (.int .u32 p')).setCell ⟨W8.heap.size, 1, none⟩ (.int .i64 q')).setCell ⟨W8.heap.size, 2, none⟩ (.int .u32 r')).setCell ⟨W8.heap.size, 3, none⟩ (.slice A3 n' c3)) = sets4 V9 (W8.heap.size) (.int .u32 p') (.int .i64 q') (.int .u32 r') (.slice A3 n' c3) from rfl]
            have qs2_9 := sets4_own (a := .int .u32 p') (b := .int .i64 q') (c := .int .u32 r') (d := .slice A3 n' c3) o5z9
            have rs2_9 := sets4_far (g := W8.heap.size) (a := .int .u32 p') (b := .int .i64 q') (c := .int .u32 r') (d := .slice A3 n' c3) qs1_9 (by omega)
            have oAs2_9 := sets4_far (g := W8.heap.size) (a := .int .u32 p') (b := .int .i64 q') (c := .int .u32 r') (d := .slice A3 n' c3) oAs1_9 (by omega)
            have oBs2_9 := sets4_far (g := W8.heap.size) (a := .int .u32 p') (b := .int .i64 q') (c := .int .u32 r') (d := .slice A3 n' c3) oBs1_9 (by omega)
            have bbs2_9 := sets4_below (g := W8.heap.size) (a := .int .u32 p') (b := .int .i64 q') (c := .int .u32 r') (d := .slice A3 n' c3) bbs1_9 (by omega)
            have hC1_s2_9 := sets4_caps (w := V9) (p := p') (q := q') (r := r') (v := .slice A3 n' c3) hC1_s1_9 o5z9
            have hC3_s2_9 := sets4_caps (w := V9) (p := p') (q := q') (r := r') (v := .slice A3 n' c3) hC3_s1_9 o5z9
            clear z0 z1 z2 z3 y0 y1 y2 y3 o5z9
            generalize hges2_9 : sets4 V9 (W8.heap.size) (.int .u32 p') (.int .i64 q') (.int .u32 r') (.slice A3 n' c3) = U9 at *
            clear hges2_9
            refine hK.out _ _ ⟨oAs2_9, oBs2_9⟩ (fun hHeld2 => ?_)
            clear hK K hHeld
            have hHeld := hHeld2
            clear hHeld2
            try simp only [Act.put, List.getElem_toArray, List.getElem_cons_zero, List.getElem_cons_succ, List.setIfInBounds_toArray, List.set_cons_zero, List.set_cons_succ]
            refine wpAnyH_done (by kernel_rfl) ?_ _
            try refine NoPanic.normal ?_
            go_wp2_with fail
            go_meet
            exact ⟨W1.heap.size, W8.heap.size, A1, c1, A3, c3, rfl, rfl, rs2_9, qs2_9, hC1_s2_9, hC3_s2_9, bbs2_9⟩
          · go_simp
            have hx10 := bl_alloc (bl_refl W7) (.cells #[.int .u32 0, .int .i64 0, .int .u32 0, .slice none 0 0] 47)
            have o5_10 := Own.new W7 47 #[.int .u32 0, .int .i64 0, .int .u32 0, .slice none 0 0]
            have hne10 : W1.heap.size ≠ W7.heap.size := by have := o4_7.lt; omega
            have hlo10 := bb7.size
            have hlA10 := oA7.lt
            have hlB10 := oB7.lt
            have oA10 := oA7.step hx10
            have oB10 := oB7.step hx10
            have hC1_10 := hC1_7.step hx10
            have o4_10 := o4_7.step hx10
            have bb10 := bl_trans bb7 hx10
            generalize hgx10 : (W7.alloc (.cells #[.int .u32 0, .int .i64 0, .int .u32 0, .slice none 0 0] 47)) = W10 at *
            clear hgx10
            refine hK.out _ _ ⟨oA10, oB10⟩ (fun hHeld2 => ?_)
            clear hK K hHeld
            have hHeld := hHeld2
            clear hHeld2
            try simp only [Act.put, List.getElem_toArray, List.getElem_cons_zero, List.getElem_cons_succ, List.setIfInBounds_toArray, List.set_cons_zero, List.set_cons_succ]
            refine wpAnyH_ready (rs := [3]) (by kernel_rfl) (by simp) ?_
            refine (AllReadyH.cons rfl (fun K hK => ?_) AllReadyH.nil)
            go_simp
            go_at_call 25
            refine (given17_any p' q' r' A' n' c' ts W10 (HCb2.out.step bb10) (by omega)).mono ?_
            rintro e W11 ⟨A3, c3, rfl, hC3_11, hx11⟩
            have oA11 := oA10.step hx11
            have oB11 := oB10.step hx11
            have hC1_11 := hC1_10.step hx11
            have o4_11 := o4_10.step hx11
            have o5_11 := o5_10.step hx11
            have bb11 := bl_trans bb10 hx11
            refine hK.out _ _ ⟨oA11, oB11⟩ (fun hHeld2 => ?_)
            clear hK K hHeld
            have hHeld := hHeld2
            clear hHeld2
            try simp only [Act.put, List.getElem_toArray, List.getElem_cons_zero, List.getElem_cons_succ, List.setIfInBounds_toArray, List.set_cons_zero, List.set_cons_succ]
            refine wpAnyH_ready (rs := [6]) (by kernel_rfl) (by simp) ?_
            refine (AllReadyH.cons rfl (fun K hK => ?_) AllReadyH.nil)
            have z0 := o4_11.frozen 0
            have z1 := o4_11.frozen 1
            have z2 := o4_11.frozen 2
            have z3 := o4_11.frozen 3
            obtain ⟨y0, y1, y2, y3⟩ := own_end o4_11
            go_simp
            rw [show ((((W11.setCell ⟨W1.heap.size, 0, none⟩ (.int .u32 p)).setCell ⟨W1.heap.size, 1, none⟩ (.int .i64 q)).setCell ⟨W1.heap.size, 2, none⟩ (.int .u32 r)).setCell ⟨W1.heap.size, 3, none⟩ (.slice A1 n c1)) = sets4 W11 (W1.heap.size) (.int .u32 p) (.int .i64 q) (.int .u32 r) (.slice A1 n c1) from rfl]
            have qs1_11 := sets4_own (a := .int .u32 p) (b := .int .i64 q) (c := .int .u32 r) (d := .slice A1 n c1) o4_11
            have rs1_11 := sets4_far (g := W1.heap.size) (a := .int .u32 p) (b := .int .i64 q) (c := .int .u32 r) (d := .slice A1 n c1) o5_11 (by omega)
            have oAs1_11 := sets4_far (g := W1.heap.size) (a := .int .u32 p) (b := .int .i64 q) (c := .int .u32 r) (d := .slice A1 n c1) oA11 (by omega)
            have oBs1_11 := sets4_far (g := W1.heap.size) (a := .int .u32 p) (b := .int .i64 q) (c := .int .u32 r) (d := .slice A1 n c1) oB11 (by omega)
            have bbs1_11 := sets4_below (g := W1.heap.size) (a := .int .u32 p) (b := .int .i64 q) (c := .int .u32 r) (d := .slice A1 n c1) bb11 (by omega)
            have hC1_s1_11 := sets4_caps (w := W11) (p := p) (q := q) (r := r) (v := .slice A1 n c1) hC1_11 o4_11
            have hC3_s1_11 := sets4_caps (w := W11) (p := p) (q := q) (r := r) (v := .slice A1 n c1) hC3_11 o4_11
            clear z0 z1 z2 z3 y0 y1 y2 y3 o4_11
            generalize hges1_11 : sets4 W11 (W1.heap.size) (.int .u32 p) (.int .i64 q) (.int .u32 r) (.slice A1 n c1) = V11 at *
            clear hges1_11
            refine hK.out _ _ ⟨oAs1_11, oBs1_11⟩ (fun hHeld2 => ?_)
            clear hK K hHeld
            have hHeld := hHeld2
            clear hHeld2
            try simp only [Act.put, List.getElem_toArray, List.getElem_cons_zero, List.getElem_cons_succ, List.setIfInBounds_toArray, List.set_cons_zero, List.set_cons_succ]
            have o5z11 := rs1_11
            refine wpAnyH_ready (rs := [7]) (by kernel_rfl) (by simp) ?_
            refine (AllReadyH.cons rfl (fun K hK => ?_) AllReadyH.nil)
            have z0 := o5z11.frozen 0
            have z1 := o5z11.frozen 1
            have z2 := o5z11.frozen 2
            have z3 := o5z11.frozen 3
            obtain ⟨y0, y1, y2, y3⟩ := own_end o5z11
            go_simp
            rw [show ((((V11.setCell ⟨W7.heap.size, 0, none⟩ (.int .u32 p')).setCell ⟨W7.heap.size, 1, none⟩ (.int .i64 q')).setCell ⟨W7.heap.size, 2, none⟩ (.int .u32 r')).setCell ⟨W7.heap.size, 3, none⟩ (.slice A3 n' c3)) = sets4 V11 (W7.heap.size) (.int .u32 p') (.int .i64 q') (.int .u32 r') (.slice A3 n' c3) from rfl]
            have qs2_11 := sets4_own (a := .int .u32 p') (b := .int .i64 q') (c := .int .u32 r') (d := .slice A3 n' c3) o5z11
            have rs2_11 := sets4_far (g := W7.heap.size) (a := .int .u32 p') (b := .int .i64 q') (c := .int .u32 r') (d := .slice A3 n' c3) qs1_11 (by omega)
            have oAs2_11 := sets4_far (g := W7.heap.size) (a := .int .u32 p') (b := .int .i64 q') (c := .int .u32 r') (d := .slice A3 n' c3) oAs1_11 (by omega)
            have oBs2_11 := sets4_far (g := W7.heap.size) (a := .int .u32 p') (b := .int .i64 q') (c := .int .u32 r') (d := .slice A3 n' c3) oBs1_11 (by omega)
            have bbs2_11 := sets4_below (g := W7.heap.size) (a := .int .u32 p') (b := .int .i64 q') (c := .int .u32 r') (d := .slice A3 n' c3) bbs1_11 (by omega)
            have hC1_s2_11 := sets4_caps (w := V11) (p := p') (q := q') (r := r') (v := .slice A3 n' c3) hC1_s1_11 o5z11
            have hC3_s2_11 := sets4_caps (w := V11) (p := p') (q := q') (r := r') (v := .slice A3 n' c3) hC3_s1_11 o5z11
            clear z0 z1 z2 z3 y0 y1 y2 y3 o5z11
            generalize hges2_11 : sets4 V11 (W7.heap.size) (.int .u32 p') (.int .i64 q') (.int .u32 r') (.slice A3 n' c3) = U11 at *
            clear hges2_11
            refine hK.out _ _ ⟨oAs2_11, oBs2_11⟩ (fun hHeld2 => ?_)
            clear hK K hHeld
            have hHeld := hHeld2
            clear hHeld2
            try simp only [Act.put, List.getElem_toArray, List.getElem_cons_zero, List.getElem_cons_succ, List.setIfInBounds_toArray, List.set_cons_zero, List.set_cons_succ]
            refine wpAnyH_done (by kernel_rfl) ?_ _
            try refine NoPanic.normal ?_
            go_wp2_with fail
            go_meet
            exact ⟨W1.heap.size, W7.heap.size, A1, c1, A3, c3, rfl, rfl, rs2_11, qs2_11, hC1_s2_11, hC3_s2_11, bbs2_11⟩
        · go_simp
          have hx12 := bl_alloc (bl_refl W1) (.cells #[.int .u32 0, .int .i64 0, .int .u32 0, .slice none 0 0] 47)
          have o5_12 := Own.new W1 47 #[.int .u32 0, .int .i64 0, .int .u32 0, .slice none 0 0]
          have hlo12 := bb1.size
          have hlA12 := oA1.lt
          have hlB12 := oB1.lt
          have oA12 := oA1.step hx12
          have oB12 := oB1.step hx12
          have hC1_12 := hC1_1.step hx12
          have bb12 := bl_trans bb1 hx12
          generalize hgx12 : (W1.alloc (.cells #[.int .u32 0, .int .i64 0, .int .u32 0, .slice none 0 0] 47)) = W12 at *
          clear hgx12
          refine hK.out _ _ ⟨oA12, oB12⟩ (fun hHeld2 => ?_)
          clear hK K hHeld
          have hHeld := hHeld2
          clear hHeld2
          try simp only [Act.put, List.getElem_toArray, List.getElem_cons_zero, List.getElem_cons_succ, List.setIfInBounds_toArray, List.set_cons_zero, List.set_cons_succ]
          refine wpAnyH_ready (rs := [3, 4]) (by kernel_rfl) (by simp) ?_
          refine (AllReadyH.cons rfl (fun K hK => ?_) (AllReadyH.cons rfl (fun K hK => ?_) AllReadyH.nil))
          · go_simp
            go_at_call 25
            refine (given17_any p' q' r' A' n' c' ts W12 (HCb2.out.step bb12) (by omega)).mono ?_
            rintro e W13 ⟨A3, c3, rfl, hC3_13, hx13⟩
            have oA13 := oA12.step hx13
            have oB13 := oB12.step hx13
            have hC1_13 := hC1_12.step hx13
            have o5_13 := o5_12.step hx13
            have bb13 := bl_trans bb12 hx13
            refine hK.out _ _ ⟨oA13, oB13⟩ (fun hHeld2 => ?_)
            clear hK K hHeld
            have hHeld := hHeld2
            clear hHeld2
            try simp only [Act.put, List.getElem_toArray, List.getElem_cons_zero, List.getElem_cons_succ, List.setIfInBounds_toArray, List.set_cons_zero, List.set_cons_succ]
            refine wpAnyH_ready (rs := [4]) (by kernel_rfl) (by simp) ?_
            refine (AllReadyH.cons rfl (fun K hK => ?_) AllReadyH.nil)
            go_simp
            have hx14 := bl_alloc (bl_refl W13) (.cells #[.int .u32 0, .int .i64 0, .int .u32 0, .slice none 0 0] 47)
            have o4_14 := Own.new W13 47 #[.int .u32 0, .int .i64 0, .int .u32 0, .slice none 0 0]
            have hne14 : W1.heap.size ≠ W13.heap.size := by have := o5_13.lt; omega
            have hlo14 := bb13.size
            have hlA14 := oA13.lt
            have hlB14 := oB13.lt
            have oA14 := oA13.step hx14
            have oB14 := oB13.step hx14
            have hC1_14 := hC1_13.step hx14
            have hC3_14 := hC3_13.step hx14
            have o5_14 := o5_13.step hx14
            have bb14 := bl_trans bb13 hx14
            generalize hgx14 : (W13.alloc (.cells #[.int .u32 0, .int .i64 0, .int .u32 0, .slice none 0 0] 47)) = W14 at *
            clear hgx14
            refine hK.out _ _ ⟨oA14, oB14⟩ (fun hHeld2 => ?_)
            clear hK K hHeld
            have hHeld := hHeld2
            clear hHeld2
            try simp only [Act.put, List.getElem_toArray, List.getElem_cons_zero, List.getElem_cons_succ, List.setIfInBounds_toArray, List.set_cons_zero, List.set_cons_succ]
            refine wpAnyH_ready (rs := [6]) (by kernel_rfl) (by simp) ?_
            refine (AllReadyH.cons rfl (fun K hK => ?_) AllReadyH.nil)
            have z0 := o4_14.frozen 0
            have z1 := o4_14.frozen 1
            have z2 := o4_14.frozen 2
            have z3 := o4_14.frozen 3
            obtain ⟨y0, y1, y2, y3⟩ := own_end o4_14
            go_simp
            rw [show ((((W14.setCell ⟨W13.heap.size, 0, none⟩ (.int .u32 p)).setCell ⟨W13.heap.size, 1, none⟩ (.int .i64 q)).setCell ⟨W13.heap.size, 2, none⟩ (.int .u32 r)).setCell ⟨W13.heap.size, 3, none⟩ (.slice A1 n c1)) = sets4 W14 (W13.heap.size) (.int .u32 p) (.int .i64 q) (.int .u32 r) (.slice A1 n c1) from rfl]
            have qs1_14 := sets4_own (a := .int .u32 p) (b := .int .i64 q) (c := .int .u32 r) (d := .slice A1 n c1) o4_14
            have rs1_14 := sets4_far (g := W13.heap.size) (a := .int .u32 p) (b := .int .i64 q) (c := .int .u32 r) (d := .slice A1 n c1) o5_14 (by omega)
            have oAs1_14 := sets4_far (g := W13.heap.size) (a := .int .u32 p) (b := .int .i64 q) (c := .int .u32 r) (d := .slice A1 n c1) oA14 (by omega)
            have oBs1_14 := sets4_far (g := W13.heap.size) (a := .int .u32 p) (b := .int .i64 q) (c := .int .u32 r) (d := .slice A1 n c1) oB14 (by omega)
            have bbs1_14 := sets4_below (g := W13.heap.size) (a := .int .u32 p) (b := .int .i64 q) (c := .int .u32 r) (d := .slice A1 n c1) bb14 (by omega)
            have hC1_s1_14 := sets4_caps (w := W14) (p := p) (q := q) (r := r) (v := .slice A1 n c1) hC1_14 o4_14
            have hC3_s1_14 := sets4_caps (w := W14) (p := p) (q := q) (r := r) (v := .slice A1 n c1) hC3_14 o4_14
            clear z0 z1 z2 z3 y0 y1 y2 y3 o4_14
            generalize hges1_14 : sets4 W14 (W13.heap.size) (.int .u32 p) (.int .i64 q) (.int .u32 r) (.slice A1 n c1) = V14 at *
            clear hges1_14
            refine hK.out _ _ ⟨oAs1_14, oBs1_14⟩ (fun hHeld2 => ?_)
            clear hK K hHeld
            have hHeld := hHeld2
            clear hHeld2
            try simp only [Act.put, List.getElem_toArray, List.getElem_cons_zero, List.getElem_cons_succ, List.setIfInBounds_toArray, List.set_cons_zero, List.set_cons_succ]
            have o5z14 := rs1_14
            refine wpAnyH_ready (rs := [7]) (by kernel_rfl) (by simp) ?_
            refine (AllReadyH.cons rfl (fun K hK => ?_) AllReadyH.nil)
            have z0 := o5z14.frozen 0
            have z1 := o5z14.frozen 1
            have z2 := o5z14.frozen 2
            have z3 := o5z14.frozen 3
            obtain ⟨y0, y1, y2, y3⟩ := own_end o5z14
            go_simp
            rw [show ((((V14.setCell ⟨W1.heap.size, 0, none⟩ (.int .u32 p')).setCell ⟨W1.heap.size, 1, none⟩ (.int .i64 q')).setCell ⟨W1.heap.size, 2, none⟩ (.int .u32 r')).setCell ⟨W1.heap.size, 3, none⟩ (.slice A3 n' c3)) = sets4 V14 (W1.heap.size) (.int .u32 p') (.int .i64 q') (.int .u32 r') (.slice A3 n' c3) from rfl]
            have qs2_14 := sets4_own (a := .int .u32 p') (b := .int .i64 q') (c := .int .u32 r') (d := .slice A3 n' c3) o5z14
            have rs2_14 := sets4_far (g := W1.heap.size) (a := .int .u32 p') (b := .int .i64 q') (c := .int .u32 r') (d := .slice A3 n' c3) qs1_14 (by omega)
            have oAs2_14 := sets4_far (g := W1.heap.size) (a := .int .u32 p') (b := .int .i64 q') (c := .int .u32 r') (d := .slice A3 n' c3) oAs1_14 (by omega)
            have oBs2_14 := sets4_far (g := W1.heap.size) (a := .int .u32 p') (b := .int .i64 q') (c := .int .u32 r') (d := .slice A3 n' c3) oBs1_14 (by omega)
            have bbs2_14 := sets4_below (g := W1.heap.size) (a := .int .u32 p') (b := .int .i64 q') (c := .int .u32 r') (d := .slice A3 n' c3) bbs1_14 (by omega)
            have hC1_s2_14 := sets4_caps (w := V14) (p := p') (q := q') (r := r') (v := .slice A3 n' c3) hC1_s1_14 o5z14
            have hC3_s2_14 := sets4_caps (w := V14) (p := p') (q := q') (r := r') (v := .slice A3 n' c3) hC3_s1_14 o5z14
            clear z0 z1 z2 z3 y0 y1 y2 y3 o5z14
            generalize hges2_14 : sets4 V14 (W1.heap.size) (.int .u32 p') (.int .i64 q') (.int .u32 r') (.slice A3 n' c3) = U14 at *
            clear hges2_14
            refine hK.out _ _ ⟨oAs2_14, oBs2_14⟩ (fun hHeld2 => ?_)
            clear hK K hHeld
            have hHeld := hHeld2
            clear hHeld2
            try simp only [Act.put, List.getElem_toArray, List.getElem_cons_zero, List.getElem_cons_succ, List.setIfInBounds_toArray, List.set_cons_zero, List.set_cons_succ]
            refine wpAnyH_done (by kernel_rfl) ?_ _
            try refine NoPanic.normal ?_
            go_wp2_with fail
            go_meet
            exact ⟨W13.heap.size, W1.heap.size, A1, c1, A3, c3, rfl, rfl, rs2_14, qs2_14, hC1_s2_14, hC3_s2_14, bbs2_14⟩
          · go_simp
            have hx15 := bl_alloc (bl_refl W12) (.cells #[.int .u32 0, .int .i64 0, .int .u32 0, .slice none 0 0] 47)
            have o4_15 := Own.new W12 47 #[.int .u32 0, .int .i64 0, .int .u32 0, .slice none 0 0]
            have hne15 : W1.heap.size ≠ W12.heap.size := by have := o5_12.lt; omega
            have hlo15 := bb12.size
            have hlA15 := oA12.lt
            have hlB15 := oB12.lt
            have oA15 := oA12.step hx15
            have oB15 := oB12.step hx15
            have hC1_15 := hC1_12.step hx15
            have o5_15 := o5_12.step hx15
            have bb15 := bl_trans bb12 hx15
            generalize hgx15 : (W12.alloc (.cells #[.int .u32 0, .int .i64 0, .int .u32 0, .slice none 0 0] 47)) = W15 at *
            clear hgx15
            refine hK.out _ _ ⟨oA15, oB15⟩ (fun hHeld2 => ?_)
            clear hK K hHeld
            have hHeld := hHeld2
            clear hHeld2
            try simp only [Act.put, List.getElem_toArray, List.getElem_cons_zero, List.getElem_cons_succ, List.setIfInBounds_toArray, List.set_cons_zero, List.set_cons_succ]
            refine wpAnyH_ready (rs := [3]) (by kernel_rfl) (by simp) ?_
            refine (AllReadyH.cons rfl (fun K hK => ?_) AllReadyH.nil)
            go_simp
            go_at_call 25
            refine (given17_any p' q' r' A' n' c' ts W15 (HCb2.out.step bb15) (by omega)).mono ?_
            rintro e W16 ⟨A3, c3, rfl, hC3_16, hx16⟩
            have oA16 := oA15.step hx16
            have oB16 := oB15.step hx16
            have hC1_16 := hC1_15.step hx16
            have o4_16 := o4_15.step hx16
            have o5_16 := o5_15.step hx16
            have bb16 := bl_trans bb15 hx16
            refine hK.out _ _ ⟨oA16, oB16⟩ (fun hHeld2 => ?_)
            clear hK K hHeld
            have hHeld := hHeld2
            clear hHeld2
            try simp only [Act.put, List.getElem_toArray, List.getElem_cons_zero, List.getElem_cons_succ, List.setIfInBounds_toArray, List.set_cons_zero, List.set_cons_succ]
            refine wpAnyH_ready (rs := [6]) (by kernel_rfl) (by simp) ?_
            refine (AllReadyH.cons rfl (fun K hK => ?_) AllReadyH.nil)
            have z0 := o4_16.frozen 0
            have z1 := o4_16.frozen 1
            have z2 := o4_16.frozen 2
            have z3 := o4_16.frozen 3
            obtain ⟨y0, y1, y2, y3⟩ := own_end o4_16
            go_simp
            rw [show ((((W16.setCell ⟨W12.heap.size, 0, none⟩ (.int .u32 p)).setCell ⟨W12.heap.size, 1, none⟩ (.int .i64 q)).setCell ⟨W12.heap.size, 2, none⟩ (.int .u32 r)).setCell ⟨W12.heap.size, 3, none⟩ (.slice A1 n c1)) = sets4 W16 (W12.heap.size) (.int .u32 p) (.int .i64 q) (.int .u32 r) (.slice A1 n c1) from rfl]
            have qs1_16 := sets4_own (a := .int .u32 p) (b := .int .i64 q) (c := .int .u32 r) (d := .slice A1 n c1) o4_16
            have rs1_16 := sets4_far (g := W12.heap.size) (a := .int .u32 p) (b := .int .i64 q) (c := .int .u32 r) (d := .slice A1 n c1) o5_16 (by omega)
            have oAs1_16 := sets4_far (g := W12.heap.size) (a := .int .u32 p) (b := .int .i64 q) (c := .int .u32 r) (d := .slice A1 n c1) oA16 (by omega)
            have oBs1_16 := sets4_far (g := W12.heap.size) (a := .int .u32 p) (b := .int .i64 q) (c := .int .u32 r) (d := .slice A1 n c1) oB16 (by omega)
            have bbs1_16 := sets4_below (g := W12.heap.size) (a := .int .u32 p) (b := .int .i64 q) (c := .int .u32 r) (d := .slice A1 n c1) bb16 (by omega)
            have hC1_s1_16 := sets4_caps (w := W16) (p := p) (q := q) (r := r) (v := .slice A1 n c1) hC1_16 o4_16
            have hC3_s1_16 := sets4_caps (w := W16) (p := p) (q := q) (r := r) (v := .slice A1 n c1) hC3_16 o4_16
            clear z0 z1 z2 z3 y0 y1 y2 y3 o4_16
            generalize hges1_16 : sets4 W16 (W12.heap.size) (.int .u32 p) (.int .i64 q) (.int .u32 r) (.slice A1 n c1) = V16 at *
            clear hges1_16
            refine hK.out _ _ ⟨oAs1_16, oBs1_16⟩ (fun hHeld2 => ?_)
            clear hK K hHeld
            have hHeld := hHeld2
            clear hHeld2
            try simp only [Act.put, List.getElem_toArray, List.getElem_cons_zero, List.getElem_cons_succ, List.setIfInBounds_toArray, List.set_cons_zero, List.set_cons_succ]
            have o5z16 := rs1_16
            refine wpAnyH_ready (rs := [7]) (by kernel_rfl) (by simp) ?_
            refine (AllReadyH.cons rfl (fun K hK => ?_) AllReadyH.nil)
            have z0 := o5z16.frozen 0
            have z1 := o5z16.frozen 1
            have z2 := o5z16.frozen 2
            have z3 := o5z16.frozen 3
            obtain ⟨y0, y1, y2, y3⟩ := own_end o5z16
            go_simp
            rw [show ((((V16.setCell ⟨W1.heap.size, 0, none⟩ (.int .u32 p')).setCell ⟨W1.heap.size, 1, none⟩ (.int .i64 q')).setCell ⟨W1.heap.size, 2, none⟩ (.int .u32 r')).setCell ⟨W1.heap.size, 3, none⟩ (.slice A3 n' c3)) = sets4 V16 (W1.heap.size) (.int .u32 p') (.int .i64 q') (.int .u32 r') (.slice A3 n' c3) from rfl]
            have qs2_16 := sets4_own (a := .int .u32 p') (b := .int .i64 q') (c := .int .u32 r') (d := .slice A3 n' c3) o5z16
            have rs2_16 := sets4_far (g := W1.heap.size) (a := .int .u32 p') (b := .int .i64 q') (c := .int .u32 r') (d := .slice A3 n' c3) qs1_16 (by omega)
            have oAs2_16 := sets4_far (g := W1.heap.size) (a := .int .u32 p') (b := .int .i64 q') (c := .int .u32 r') (d := .slice A3 n' c3) oAs1_16 (by omega)
            have oBs2_16 := sets4_far (g := W1.heap.size) (a := .int .u32 p') (b := .int .i64 q') (c := .int .u32 r') (d := .slice A3 n' c3) oBs1_16 (by omega)
            have bbs2_16 := sets4_below (g := W1.heap.size) (a := .int .u32 p') (b := .int .i64 q') (c := .int .u32 r') (d := .slice A3 n' c3) bbs1_16 (by omega)
            have hC1_s2_16 := sets4_caps (w := V16) (p := p') (q := q') (r := r') (v := .slice A3 n' c3) hC1_s1_16 o5z16
            have hC3_s2_16 := sets4_caps (w := V16) (p := p') (q := q') (r := r') (v := .slice A3 n' c3) hC3_s1_16 o5z16
            clear z0 z1 z2 z3 y0 y1 y2 y3 o5z16
            generalize hges2_16 : sets4 V16 (W1.heap.size) (.int .u32 p') (.int .i64 q') (.int .u32 r') (.slice A3 n' c3) = U16 at *
            clear hges2_16
            refine hK.out _ _ ⟨oAs2_16, oBs2_16⟩ (fun hHeld2 => ?_)
            clear hK K hHeld
            have hHeld := hHeld2
            clear hHeld2
            try simp only [Act.put, List.getElem_toArray, List.getElem_cons_zero, List.getElem_cons_succ, List.setIfInBounds_toArray, List.set_cons_zero, List.set_cons_succ]
            refine wpAnyH_done (by kernel_rfl) ?_ _
            try refine NoPanic.normal ?_
            go_wp2_with fail
            go_meet
            exact ⟨W12.heap.size, W1.heap.size, A1, c1, A3, c3, rfl, rfl, rs2_16, qs2_16, hC1_s2_16, hC3_s2_16, bbs2_16⟩
      · go_simp
        have hx17 := bl_alloc (bl_refl Y0) (.cells #[.int .u32 0, .int .i64 0, .int .u32 0, .slice none 0 0] 47)
        have o4_17 := Own.new Y0 47 #[.int .u32 0, .int .i64 0, .int .u32 0, .slice none 0 0]
        have hlo17 := bb0.size
        have hlA17 := oA0.lt
        have hlB17 := oB0.lt
        have oA17 := oA0.step hx17
        have oB17 := oB0.step hx17
        have bb17 := bl_trans bb0 hx17
        generalize hgx17 : (Y0.alloc (.cells #[.int .u32 0, .int .i64 0, .int .u32 0, .slice none 0 0] 47)) = W17 at *
        clear hgx17
        refine hK.out _ _ ⟨oA17, oB17⟩ (fun hHeld2 => ?_)
        clear hK K hHeld
        have hHeld := hHeld2
        clear hHeld2
        try simp only [Act.put, List.getElem_toArray, List.getElem_cons_zero, List.getElem_cons_succ, List.setIfInBounds_toArray, List.set_cons_zero, List.set_cons_succ]
        refine wpAnyH_ready (rs := [1, 5]) (by kernel_rfl) (by simp) ?_
        refine (AllReadyH.cons rfl (fun K hK => ?_) (AllReadyH.cons rfl (fun K hK => ?_) AllReadyH.nil))
        · go_simp
          go_at_call 25
          refine (given17_any p q r A n c ss W17 (HCa2.out.step bb17) (by omega)).mono ?_
          rintro e W18 ⟨A1, c1, rfl, hC1_18, hx18⟩
          have oA18 := oA17.step hx18
          have oB18 := oB17.step hx18
          have o4_18 := o4_17.step hx18
          have bb18 := bl_trans bb17 hx18
          refine hK.out _ _ ⟨oA18, oB18⟩ (fun hHeld2 => ?_)
          clear hK K hHeld
          have hHeld := hHeld2
          clear hHeld2
          try simp only [Act.put, List.getElem_toArray, List.getElem_cons_zero, List.getElem_cons_succ, List.setIfInBounds_toArray, List.set_cons_zero, List.set_cons_succ]
          refine wpAnyH_ready (rs := [3, 5]) (by kernel_rfl) (by simp) ?_
          refine (AllReadyH.cons rfl (fun K hK => ?_) (AllReadyH.cons rfl (fun K hK => ?_) AllReadyH.nil))
          · go_simp
            go_at_call 25
            refine (given17_any p' q' r' A' n' c' ts W18 (HCb2.out.step bb18) (by omega)).mono ?_
            rintro e W19 ⟨A3, c3, rfl, hC3_19, hx19⟩
            have oA19 := oA18.step hx19
            have oB19 := oB18.step hx19
            have hC1_19 := hC1_18.step hx19
            have o4_19 := o4_18.step hx19
            have bb19 := bl_trans bb18 hx19
            refine hK.out _ _ ⟨oA19, oB19⟩ (fun hHeld2 => ?_)
            clear hK K hHeld
            have hHeld := hHeld2
            clear hHeld2
            try simp only [Act.put, List.getElem_toArray, List.getElem_cons_zero, List.getElem_cons_succ, List.setIfInBounds_toArray, List.set_cons_zero, List.set_cons_succ]
            refine wpAnyH_ready (rs := [5]) (by kernel_rfl) (by simp) ?_
            refine (AllReadyH.cons rfl (fun K hK => ?_) AllReadyH.nil)
            go_simp
            have hx20 := bl_alloc (bl_refl W19) (.cells #[.int .u32 0, .int .i64 0, .int .u32 0, .slice none 0 0] 47)
            have o5_20 := Own.new W19 47 #[.int .u32 0, .int .i64 0, .int .u32 0, .slice none 0 0]
            have hne20 : Y0.heap.size ≠ W19.heap.size := by have := o4_19.lt; omega
            have hlo20 := bb19.size
            have hlA20 := oA19.lt
            have hlB20 := oB19.lt
            have oA20 := oA19.step hx20
            have oB20 := oB19.step hx20
            have hC1_20 := hC1_19.step hx20
            have hC3_20 := hC3_19.step hx20
            have o4_20 := o4_19.step hx20
            have bb20 := bl_trans bb19 hx20
            generalize hgx20 : (W19.alloc (.cells #[.int .u32 0, .int .i64 0, .int .u32 0, .slice none 0 0] 47)) = W20 at *
            clear hgx20
            refine hK.out _ _ ⟨oA20, oB20⟩ (fun hHeld2 => ?_)
            clear hK K hHeld
            have hHeld := hHeld2
            clear hHeld2
            try simp only [Act.put, List.getElem_toArray, List.getElem_cons_zero, List.getElem_cons_succ, List.setIfInBounds_toArray, List.set_cons_zero, List.set_cons_succ]
            refine wpAnyH_ready (rs := [6]) (by kernel_rfl) (by simp) ?_
            refine (AllReadyH.cons rfl (fun K hK => ?_) AllReadyH.nil)
            have z0 := o4_20.frozen 0
            have z1 := o4_20.frozen 1
            have z2 := o4_20.frozen 2
            have z3 := o4_20.frozen 3
            obtain ⟨y0, y1, y2, y3⟩ := own_end o4_20
            go_simp
            rw [show ((((W20.setCell ⟨Y0.heap.size, 0, none⟩ (.int .u32 p)).setCell ⟨Y0.heap.size, 1, none⟩ (.int .i64 q)).setCell ⟨Y0.heap.size, 2, none⟩ (.int .u32 r)).setCell ⟨Y0.heap.size, 3, none⟩ (.slice A1 n c1)) = sets4 W20 (Y0.heap.size) (.int .u32 p) (.int .i64 q) (.int .u32 r) (.slice A1 n c1) from rfl]
            have qs1_20 := sets4_own (a := .int .u32 p) (b := .int .i64 q) (c := .int .u32 r) (d := .slice A1 n c1) o4_20
            have rs1_20 := sets4_far (g := Y0.heap.size) (a := .int .u32 p) (b := .int .i64 q) (c := .int .u32 r) (d := .slice A1 n c1) o5_20 (by omega)
            have oAs1_20 := sets4_far (g := Y0.heap.size) (a := .int .u32 p) (b := .int .i64 q) (c := .int .u32 r) (d := .slice A1 n c1) oA20 (by omega)
            have oBs1_20 := sets4_far (g := Y0.heap.size) (a := .int .u32 p) (b := .int .i64 q) (c := .int .u32 r) (d := .slice A1 n c1) oB20 (by omega)
            have bbs1_20 := sets4_below (g := Y0.heap.size) (a := .int .u32 p) (b := .int .i64 q) (c := .int .u32 r) (d := .slice A1 n c1) bb20 (by omega)
            have hC1_s1_20 := sets4_caps (w := W20) (p := p) (q := q) (r := r) (v := .slice A1 n c1) hC1_20 o4_20
            have hC3_s1_20 := sets4_caps (w := W20) (p := p) (q := q) (r := r) (v := .slice A1 n c1) hC3_20 o4_20
            clear z0 z1 z2 z3 y0 y1 y2 y3 o4_20
            generalize hges1_20 : sets4 W20 (Y0.heap.size) (.int .u32 p) (.int .i64 q) (.int .u32 r) (.slice A1 n c1) = V20 at *
            clear hges1_20
            refine hK.out _ _ ⟨oAs1_20, oBs1_20⟩ (fun hHeld2 => ?_)
            clear hK K hHeld
            have hHeld := hHeld2
            clear hHeld2
            try simp only [Act.put, List.getElem_toArray, List.getElem_cons_zero, List.getElem_cons_succ, List.setIfInBounds_toArray, List.set_cons_zero, List.set_cons_succ]
            have o5z20 := rs1_20
            refine wpAnyH_ready (rs := [7]) (by kernel_rfl) (by simp) ?_
            refine (AllReadyH.cons rfl (fun K hK => ?_) AllReadyH.nil)
            have z0 := o5z20.frozen 0
            have z1 := o5z20.frozen 1
            have z2 := o5z20.frozen 2
            have z3 := o5z20.frozen 3
            obtain ⟨y0, y1, y2, y3⟩ := own_end o5z20
            go_simp
            rw [show ((((V20.setCell ⟨W19.heap.size, 0, none⟩ (.int .u32 p')).setCell ⟨W19.heap.size, 1, none⟩ (.int .i64 q')).setCell ⟨W19.heap.size, 2, none⟩ (.int .u32 r')).setCell ⟨W19.heap.size, 3, none⟩ (.slice A3 n' c3)) = sets4 V20 (W19.heap.size) (.int .u32 p') (.int .i64 q') (.int .u32 r') (.slice A3 n' c3) from rfl]
            have qs2_20 := sets4_own (a := .int .u32 p') (b := .int .i64 q') (c := .int .u32 r') (d := .slice A3 n' c3) o5z20
            have rs2_20 := sets4_far (g := W19.heap.size) (a := .int .u32 p') (b := .int .i64 q') (c := .int .u32 r') (d := .slice A3 n' c3) qs1_20 (by omega)
            have oAs2_20 := sets4_far (g := W19.heap.size) (a := .int .u32 p') (b := .int .i64 q') (c := .int .u32 r') (d := .slice A3 n' c3) oAs1_20 (by omega)
            have oBs2_20 := sets4_far (g := W19.heap.size) (a := .int .u32 p') (b := .int .i64 q') (c := .int .u32 r') (d := .slice A3 n' c3) oBs1_20 (by omega)
            have bbs2_20 := sets4_below (g := W19.heap.size) (a := .int .u32 p') (b := .int .i64 q') (c := .int .u32 r') (d := .slice A3 n' c3) bbs1_20 (by omega)
            have hC1_s2_20 := sets4_caps (w := V20) (p := p') (q := q') (r := r') (v := .slice A3 n' c3) hC1_s1_20 o5z20
            have hC3_s2_20 := sets4_caps (w := V20) (p := p') (q := q') (r := r') (v := .slice A3 n' c3) hC3_s1_20 o5z20
            clear z0 z1 z2 z3 y0 y1 y2 y3 o5z20
            generalize hges2_20 : sets4 V20 (W19.heap.size) (.int .u32 p') (.int .i64 q') (.int .u32 r') (.slice A3 n' c3) = U20 at *
            clear hges2_20
            refine hK.out _ _ ⟨oAs2_20, oBs2_20⟩ (fun hHeld2 => ?_)
            clear hK K hHeld
            have hHeld := hHeld2
            clear hHeld2
            try simp only [Act.put, List.getElem_toArray, List.getElem_cons_zero, List.getElem_cons_succ, List.setIfInBounds_toArray, List.set_cons_zero, List.set_cons_succ]
            refine wpAnyH_done (by kernel_rfl) ?_ _
            try refine NoPanic.normal ?_
            go_wp2_with fail
            go_meet
            exact ⟨Y0.heap.size, W19.heap.size, A1, c1, A3, c3, rfl, rfl, rs2_20, qs2_20, hC1_s2_20, hC3_s2_20, bbs2_20⟩
          · go_simp
            have hx21 := bl_alloc (bl_refl W18) (.cells #[.int .u32 0, .int .i64 0, .int .u32 0, .slice none 0 0] 47)
            have o5_21 := Own.new W18 47 #[.int .u32 0, .int .i64 0, .int .u32 0, .slice none 0 0]
            have hne21 : Y0.heap.size ≠ W18.heap.size := by have := o4_18.lt; omega
            have hlo21 := bb18.size
            have hlA21 := oA18.lt
            have hlB21 := oB18.lt
            have oA21 := oA18.step hx21
            have oB21 := oB18.step hx21
            have hC1_21 := hC1_18.step hx21
            have o4_21 := o4_18.step hx21
            have bb21 := bl_trans bb18 hx21
            generalize hgx21 : (W18.alloc (.cells #[.int .u32 0, .int .i64 0, .int .u32 0, .slice none 0 0] 47)) = W21 at *
            clear hgx21
            refine hK.out _ _ ⟨oA21, oB21⟩ (fun hHeld2 => ?_)
            clear hK K hHeld
            have hHeld := hHeld2
            clear hHeld2
            try simp only [Act.put, List.getElem_toArray, List.getElem_cons_zero, List.getElem_cons_succ, List.setIfInBounds_toArray, List.set_cons_zero, List.set_cons_succ]
            refine wpAnyH_ready (rs := [3]) (by kernel_rfl) (by simp) ?_
            refine (AllReadyH.cons rfl (fun K hK => ?_) AllReadyH.nil)
            go_simp
            go_at_call 25
            refine (given17_any p' q' r' A' n' c' ts W21 (HCb2.out.step bb21) (by omega)).mono ?_
            rintro e W22 ⟨A3, c3, rfl, hC3_22, hx22⟩
            have oA22 := oA21.step hx22
            have oB22 := oB21.step hx22
            have hC1_22 := hC1_21.step hx22
            have o4_22 := o4_21.step hx22
            have o5_22 := o5_21.step hx22
            have bb22 := bl_trans bb21 hx22
            refine hK.out _ _ ⟨oA22, oB22⟩ (fun hHeld2 => ?_)
            clear hK K hHeld
            have hHeld := hHeld2
            clear hHeld2
            try simp only [Act.put, List.getElem_toArray, List.getElem_cons_zero, List.getElem_cons_succ, List.setIfInBounds_toArray, List.set_cons_zero, List.set_cons_succ]
            refine wpAnyH_ready (rs := [6]) (by kernel_rfl) (by simp) ?_
            refine (AllReadyH.cons rfl (fun K hK => ?_) AllReadyH.nil)
            have z0 := o4_22.frozen 0
            have z1 := o4_22.frozen 1
            have z2 := o4_22.frozen 2
            have z3 := o4_22.frozen 3
            obtain ⟨y0, y1, y2, y3⟩ := own_end o4_22
            go_simp
            rw [show ((((W22.setCell ⟨Y0.heap.size, 0, none⟩ (.int .u32 p)).setCell ⟨Y0.heap.size, 1, none⟩ (.int .i64 q)).setCell ⟨Y0.heap.size, 2, none⟩ (.int .u32 r)).setCell ⟨Y0.heap.size, 3, none⟩ (.slice A1 n c1)) = sets4 W22 (Y0.heap.size) (.int .u32 p) (.int .i64 q) (.int .u32 r) (.slice A1 n c1) from rfl]
            have qs1_22 := sets4_own (a := .int .u32 p) (b := .int .i64 q) (c := .int .u32 r) (d := .slice A1 n c1) o4_22
            have rs1_22 := sets4_far (g := Y0.heap.size) (a := .int .u32 p) (b := .int .i64 q) (c := .int .u32 r) (d := .slice A1 n c1) o5_22 (by omega)
            have oAs1_22 := sets4_far (g := Y0.heap.size) (a := .int .u32 p) (b := .int .i64 q) (c := .int .u32 r) (d := .slice A1 n c1) oA22 (by omega)
            have oBs1_22 := sets4_far (g := Y0.heap.size) (a := .int .u32 p) (b := .int .i64 q) (c := .int .u32 r) (d := .slice A1 n c1) oB22 (by omega)
            have bbs1_22 := sets4_below (g := Y0.heap.size) (a := .int .u32 p) (b := .int .i64 q) (c := .int .u32 r) (d := .slice A1 n c1) bb22 (by omega)
            have hC1_s1_22 := sets4_caps (w := W22) (p := p) (q := q) (r := r) (v := .slice A1 n c1) hC1_22 o4_22
            have hC3_s1_22 := sets4_caps (w := W22) (p := p) (q := q) (r := r) (v := .slice A1 n c1) hC3_22 o4_22
            clear z0 z1 z2 z3 y0 y1 y2 y3 o4_22
            generalize hges1_22 : sets4 W22 (Y0.heap.size) (.int .u32 p) (.int .i64 q) (.int .u32 r) (.slice A1 n c1) = V22 at *
            clear hges1_22
            refine hK.out _ _ ⟨oAs1_22, oBs1_22⟩ (fun hHeld2 => ?_)
            clear hK K hHeld
            have hHeld := hHeld2
            clear hHeld2
            try simp only [Act.put, List.getElem_toArray, List.getElem_cons_zero, List.getElem_cons_succ, List.setIfInBounds_toArray, List.set_cons_zero, List.set_cons_succ]
            have o5z22 := rs1_22
            refine wpAnyH_ready (rs := [7]) (by kernel_rfl) (by simp) ?_
            refine (AllReadyH.cons rfl (fun K hK => ?_) AllReadyH.nil)
            have z0 := o5z22.frozen 0
            have z1 := o5z22.frozen 1
            have z2 := o5z22.frozen 2
            have z3 := o5z22.frozen 3
            obtain ⟨y0, y1, y2, y3⟩ := own_end o5z22
            go_simp
            rw [show ((((V22.setCell ⟨W18.heap.size, 0, none⟩ (.int .u32 p')).setCell ⟨W18.heap.size, 1, none⟩ (.int .i64 q')).setCell ⟨W18.heap.size, 2, none⟩ (.int .u32 r')).setCell ⟨W18.heap.size, 3, none⟩ (.slice A3 n' c3)) = sets4 V22 (W18.heap.size) (.int .u32 p') (.int .i64 q') (.int .u32 r') (.slice A3 n' c3) from rfl]
            have qs2_22 := sets4_own (a := .int .u32 p') (b := .int .i64 q') (c := .int .u32 r') (d := .slice A3 n' c3) o5z22
            have rs2_22 := sets4_far (g := W18.heap.size) (a := .int .u32 p') (b := .int .i64 q') (c := .int .u32 r') (d := .slice A3 n' c3) qs1_22 (by omega)
            have oAs2_22 := sets4_far (g := W18.heap.size) (a := .int .u32 p') (b := .int .i64 q') (c := .int .u32 r') (d := .slice A3 n' c3) oAs1_22 (by omega)
            have oBs2_22 := sets4_far (g := W18.heap.size) (a := .int .u32 p') (b := .int .i64 q') (c := .int .u32 r') (d := .slice A3 n' c3) oBs1_22 (by omega)
            have bbs2_22 := sets4_below (g := W18.heap.size) (a := .int .u32 p') (b := .int .i64 q') (c := .int .u32 r') (d := .slice A3 n' c3) bbs1_22 (by omega)
            have hC1_s2_22 := sets4_caps (w := V22) (p := p') (q := q') (r := r') (v := .slice A3 n' c3) hC1_s1_22 o5z22
            have hC3_s2_22 := sets4_caps (w := V22) (p := p') (q := q') (r := r') (v := .slice A3 n' c3) hC3_s1_22 o5z22
            clear z0 z1 z2 z3 y0 y1 y2 y3 o5z22
            generalize hges2_22 : sets4 V22 (W18.heap.size) (.int .u32 p') (.int .i64 q') (.int .u32 r') (.slice A3 n' c3) = U22 at *
            clear hges2_22
            refine hK.out _ _ ⟨oAs2_22, oBs2_22⟩ (fun hHeld2 => ?_)
            clear hK K hHeld
            have hHeld := hHeld2
            clear hHeld2
            try simp only [Act.put, List.getElem_toArray, List.getElem_cons_zero, List.getElem_cons_succ, List.setIfInBounds_toArray, List.set_cons_zero, List.set_cons_succ]
            refine wpAnyH_done (by kernel_rfl) ?_ _
            try refine NoPanic.normal ?_
            go_wp2_with fail
            go_meet
            exact ⟨Y0.heap.size, W18.heap.size, A1, c1, A3, c3, rfl, rfl, rs2_22, qs2_22, hC1_s2_22, hC3_s2_22, bbs2_22⟩
        · go_simp
          have hx23 := bl_alloc (bl_refl W17) (.cells #[.int .u32 0, .int .i64 0, .int .u32 0, .slice none 0 0] 47)
          have o5_23 := Own.new W17 47 #[.int .u32 0, .int .i64 0, .int .u32 0, .slice none 0 0]
          have hne23 : Y0.heap.size ≠ W17.heap.size := by have := o4_17.lt; omega
          have hlo23 := bb17.size
          have hlA23 := oA17.lt
          have hlB23 := oB17.lt
          have oA23 := oA17.step hx23
          have oB23 := oB17.step hx23
          have o4_23 := o4_17.step hx23
          have bb23 := bl_trans bb17 hx23
          generalize hgx23 : (W17.alloc (.cells #[.int .u32 0, .int .i64 0, .int .u32 0, .slice none 0 0] 47)) = W23 at *
          clear hgx23
          refine hK.out _ _ ⟨oA23, oB23⟩ (fun hHeld2 => ?_)
          clear hK K hHeld
          have hHeld := hHeld2
          clear hHeld2
          try simp only [Act.put, List.getElem_toArray, List.getElem_cons_zero, List.getElem_cons_succ, List.setIfInBounds_toArray, List.set_cons_zero, List.set_cons_succ]
          refine wpAnyH_ready (rs := [1]) (by kernel_rfl) (by simp) ?_
          refine (AllReadyH.cons rfl (fun K hK => ?_) AllReadyH.nil)
          go_simp
          go_at_call 25
          refine (given17_any p q r A n c ss W23 (HCa2.out.step bb23) (by omega)).mono ?_
          rintro e W24 ⟨A1, c1, rfl, hC1_24, hx24⟩
          have oA24 := oA23.step hx24
          have oB24 := oB23.step hx24
          have o4_24 := o4_23.step hx24
          have o5_24 := o5_23.step hx24
          have bb24 := bl_trans bb23 hx24
          refine hK.out _ _ ⟨oA24, oB24⟩ (fun hHeld2 => ?_)
          clear hK K hHeld
          have hHeld := hHeld2
          clear hHeld2
          try simp only [Act.put, List.getElem_toArray, List.getElem_cons_zero, List.getElem_cons_succ, List.setIfInBounds_toArray, List.set_cons_zero, List.set_cons_succ]
          refine wpAnyH_ready (rs := [3]) (by kernel_rfl) (by simp) ?_
          refine (AllReadyH.cons rfl (fun K hK => ?_) AllReadyH.nil)
          go_simp
          go_at_call 25
          refine (given17_any p' q' r' A' n' c' ts W24 (HCb2.out.step bb24) (by omega)).mono ?_
          rintro e W25 ⟨A3, c3, rfl, hC3_25, hx25⟩
          have oA25 := oA24.step hx25
          have oB25 := oB24.step hx25
          have hC1_25 := hC1_24.step hx25
          have o4_25 := o4_24.step hx25
          have o5_25 := o5_24.step hx25
          have bb25 := bl_trans bb24 hx25
          refine hK.out _ _ ⟨oA25, oB25⟩ (fun hHeld2 => ?_)
          clear hK K hHeld
          have hHeld := hHeld2
          clear hHeld2
          try simp only [Act.put, List.getElem_toArray, List.getElem_cons_zero, List.getElem_cons_succ, List.setIfInBounds_toArray, List.set_cons_zero, List.set_cons_succ]
          refine wpAnyH_ready (rs := [6]) (by kernel_rfl) (by simp) ?_
          refine (AllReadyH.cons rfl (fun K hK => ?_) AllReadyH.nil)
          have z0 := o4_25.frozen 0
          have z1 := o4_25.frozen 1
          have z2 := o4_25.frozen 2
          have z3 := o4_25.frozen 3
          obtain ⟨y0, y1, y2, y3⟩ := own_end o4_25
          go_simp
          rw [show ((((W25.setCell ⟨Y0.heap.size, 0, none⟩ (.int .u32 p)).setCell ⟨Y0.heap.size, 1, none⟩ (.int .i64 q)).setCell ⟨Y0.heap.size, 2, none⟩ (.int .u32 r)).setCell ⟨Y0.heap.size, 3, none⟩ (.slice A1 n c1)) = sets4 W25 (Y0.heap.size) (.int .u32 p) (.int .i64 q) (.int .u32 r) (.slice A1 n c1) from rfl]
          have qs1_25 := sets4_own (a := .int .u32 p) (b := .int .i64 q) (c := .int .u32 r) (d := .slice A1 n c1) o4_25
          have rs1_25 := sets4_far (g := Y0.heap.size) (a := .int .u32 p) (b := .int .i64 q) (c := .int .u32 r) (d := .slice A1 n c1) o5_25 (by omega)
          have oAs1_25 := sets4_far (g := Y0.heap.size) (a := .int .u32 p) (b := .int .i64 q) (c := .int .u32 r) (d := .slice A1 n c1) oA25 (by omega)
          have oBs1_25 := sets4_far (g := Y0.heap.size) (a := .int .u32 p) (b := .int .i64 q) (c := .int .u32 r) (d := .slice A1 n c1) oB25 (by omega)
          have bbs1_25 := sets4_below (g := Y0.heap.size) (a := .int .u32 p) (b := .int .i64 q) (c := .int .u32 r) (d := .slice A1 n c1) bb25 (by omega)
          have hC1_s1_25 := sets4_caps (w := W25) (p := p) (q := q) (r := r) (v := .slice A1 n c1) hC1_25 o4_25
          have hC3_s1_25 := sets4_caps (w := W25) (p := p) (q := q) (r := r) (v := .slice A1 n c1) hC3_25 o4_25
          clear z0 z1 z2 z3 y0 y1 y2 y3 o4_25
          generalize hges1_25 : sets4 W25 (Y0.heap.size) (.int .u32 p) (.int .i64 q) (.int .u32 r) (.slice A1 n c1) = V25 at *
          clear hges1_25
          refine hK.out _ _ ⟨oAs1_25, oBs1_25⟩ (fun hHeld2 => ?_)
          clear hK K hHeld
          have hHeld := hHeld2
          clear hHeld2
          try simp only [Act.put, List.getElem_toArray, List.getElem_cons_zero, List.getElem_cons_succ, List.setIfInBounds_toArray, List.set_cons_zero, List.set_cons_succ]
          have o5z25 := rs1_25
          refine wpAnyH_ready (rs := [7]) (by kernel_rfl) (by simp) ?_
          refine (AllReadyH.cons rfl (fun K hK => ?_) AllReadyH.nil)
          have z0 := o5z25.frozen 0
          have z1 := o5z25.frozen 1
          have z2 := o5z25.frozen 2
          have z3 := o5z25.frozen 3
          obtain ⟨y0, y1, y2, y3⟩ := own_end o5z25
          go_simp
          rw [show ((((V25.setCell ⟨W17.heap.size, 0, none⟩ (.int .u32 p')).setCell ⟨W17.heap.size, 1, none⟩ (.int .i64 q')).setCell ⟨W17.heap.size, 2, none⟩ (.int .u32 r')).setCell ⟨W17.heap.size, 3, none⟩ (.slice A3 n' c3)) = sets4 V25 (W17.heap.size) (.int .u32 p') (.int .i64 q') (.int .u32 r') (.slice A3 n' c3) from rfl]
          have qs2_25 := sets4_own (a := .int .u32 p') (b := .int .i64 q') (c := .int .u32 r') (d := .slice A3 n' c3) o5z25
          have rs2_25 := sets4_far (g := W17.heap.size) (a := .int .u32 p') (b := .int .i64 q') (c := .int .u32 r') (d := .slice A3 n' c3) qs1_25 (by omega)
          have oAs2_25 := sets4_far (g := W17.heap.size) (a := .int .u32 p') (b := .int .i64 q') (c := .int .u32 r') (d := .slice A3 n' c3) oAs1_25 (by omega)
          have oBs2_25 := sets4_far (g := W17.heap.size) (a := .int .u32 p') (b := .int .i64 q') (c := .int .u32 r') (d := .slice A3 n' c3) oBs1_25 (by omega)
          have bbs2_25 := sets4_below (g := W17.heap.size) (a := .int .u32 p') (b := .int .i64 q') (c := .int .u32 r') (d := .slice A3 n' c3) bbs1_25 (by omega)
          have hC1_s2_25 := sets4_caps (w := V25) (p := p') (q := q') (r := r') (v := .slice A3 n' c3) hC1_s1_25 o5z25
          have hC3_s2_25 := sets4_caps (w := V25) (p := p') (q := q') (r := r') (v := .slice A3 n' c3) hC3_s1_25 o5z25
          clear z0 z1 z2 z3 y0 y1 y2 y3 o5z25
          generalize hges2_25 : sets4 V25 (W17.heap.size) (.int .u32 p') (.int .i64 q') (.int .u32 r') (.slice A3 n' c3) = U25 at *
          clear hges2_25
          refine hK.out _ _ ⟨oAs2_25, oBs2_25⟩ (fun hHeld2 => ?_)
          clear hK K hHeld
          have hHeld := hHeld2
          clear hHeld2
          try simp only [Act.put, List.getElem_toArray, List.getElem_cons_zero, List.getElem_cons_succ, List.setIfInBounds_toArray, List.set_cons_zero, List.set_cons_succ]
          refine wpAnyH_done (by kernel_rfl) ?_ _
          try refine NoPanic.normal ?_
          go_wp2_with fail
          go_meet
          exact ⟨Y0.heap.size, W17.heap.size, A1, c1, A3, c3, rfl, rfl, rs2_25, qs2_25, hC1_s2_25, hC3_s2_25, bbs2_25⟩
      · go_simp
        have hx26 := bl_alloc (bl_refl Y0) (.cells #[.int .u32 0, .int .i64 0, .int .u32 0, .slice none 0 0] 47)
        have o5_26 := Own.new Y0 47 #[.int .u32 0, .int .i64 0, .int .u32 0, .slice none 0 0]
        have hlo26 := bb0.size
        have hlA26 := oA0.lt
        have hlB26 := oB0.lt
        have oA26 := oA0.step hx26
        have oB26 := oB0.step hx26
        have bb26 := bl_trans bb0 hx26
        generalize hgx26 : (Y0.alloc (.cells #[.int .u32 0, .int .i64 0, .int .u32 0, .slice none 0 0] 47)) = W26 at *
        clear hgx26
        refine hK.out _ _ ⟨oA26, oB26⟩ (fun hHeld2 => ?_)
        clear hK K hHeld
        have hHeld := hHeld2
        clear hHeld2
        try simp only [Act.put, List.getElem_toArray, List.getElem_cons_zero, List.getElem_cons_succ, List.setIfInBounds_toArray, List.set_cons_zero, List.set_cons_succ]
        refine wpAnyH_ready (rs := [1, 4]) (by kernel_rfl) (by simp) ?_
        refine (AllReadyH.cons rfl (fun K hK => ?_) (AllReadyH.cons rfl (fun K hK => ?_) AllReadyH.nil))
        · go_simp
          go_at_call 25
          refine (given17_any p q r A n c ss W26 (HCa2.out.step bb26) (by omega)).mono ?_
          rintro e W27 ⟨A1, c1, rfl, hC1_27, hx27⟩
          have oA27 := oA26.step hx27
          have oB27 := oB26.step hx27
          have o5_27 := o5_26.step hx27
          have bb27 := bl_trans bb26 hx27
          refine hK.out _ _ ⟨oA27, oB27⟩ (fun hHeld2 => ?_)
          clear hK K hHeld
          have hHeld := hHeld2
          clear hHeld2
          try simp only [Act.put, List.getElem_toArray, List.getElem_cons_zero, List.getElem_cons_succ, List.setIfInBounds_toArray, List.set_cons_zero, List.set_cons_succ]
          refine wpAnyH_ready (rs := [3, 4]) (by kernel_rfl) (by simp) ?_
          refine (AllReadyH.cons rfl (fun K hK => ?_) (AllReadyH.cons rfl (fun K hK => ?_) AllReadyH.nil))
          · go_simp
            go_at_call 25
            refine (given17_any p' q' r' A' n' c' ts W27 (HCb2.out.step bb27) (by omega)).mono ?_
            rintro e W28 ⟨A3, c3, rfl, hC3_28, hx28⟩
            have oA28 := oA27.step hx28
            have oB28 := oB27.step hx28
            have hC1_28 := hC1_27.step hx28
            have o5_28 := o5_27.step hx28
            have bb28 := bl_trans bb27 hx28
            refine hK.out _ _ ⟨oA28, oB28⟩ (fun hHeld2 => ?_)
            clear hK K hHeld
            have hHeld := hHeld2
            clear hHeld2
            try simp only [Act.put, List.getElem_toArray, List.getElem_cons_zero, List.getElem_cons_succ, List.setIfInBounds_toArray, List.set_cons_zero, List.set_cons_succ]
            refine wpAnyH_ready (rs := [4]) (by kernel_rfl) (by simp) ?_
            refine (AllReadyH.cons rfl (fun K hK => ?_) AllReadyH.nil)
            go_simp
            have hx29 := bl_alloc (bl_refl W28) (.cells #[.int .u32 0, .int .i64 0, .int .u32 0, .slice none 0 0] 47)
            have o4_29 := Own.new W28 47 #[.int .u32 0, .int .i64 0, .int .u32 0, .slice none 0 0]
            have hne29 : Y0.heap.size ≠ W28.heap.size := by have := o5_28.lt; omega
            have hlo29 := bb28.size
            have hlA29 := oA28.lt
            have hlB29 := oB28.lt
            have oA29 := oA28.step hx29
            have oB29 := oB28.step hx29
            have hC1_29 := hC1_28.step hx29
            have hC3_29 := hC3_28.step hx29
            have o5_29 := o5_28.step hx29
            have bb29 := bl_trans bb28 hx29
            generalize hgx29 : (W28.alloc (.cells #[.int .u32 0, .int .i64 0, .int .u32 0, .slice none 0 0] 47)) = W29 at *
            clear hgx29
            refine hK.out _ _ ⟨oA29, oB29⟩ (fun hHeld2 => ?_)
            clear hK K hHeld
            have hHeld := hHeld2
            clear hHeld2
            try simp only [Act.put, List.getElem_toArray, List.getElem_cons_zero, List.getElem_cons_succ, List.setIfInBounds_toArray, List.set_cons_zero, List.set_cons_succ]
            refine wpAnyH_ready (rs := [6]) (by kernel_rfl) (by simp) ?_
            refine (AllReadyH.cons rfl (fun K hK => ?_) AllReadyH.nil)
            have z0 := o4_29.frozen 0
            have z1 := o4_29.frozen 1
            have z2 := o4_29.frozen 2
            have z3 := o4_29.frozen 3
            obtain ⟨y0, y1, y2, y3⟩ := own_end o4_29
            go_simp
            rw [show ((((W29.setCell ⟨W28.heap.size, 0, none⟩ (.int .u32 p)).setCell ⟨W28.heap.size, 1, none⟩ (.int .i64 q)).setCell ⟨W28.heap.size, 2, none⟩ (.int .u32 r)).setCell ⟨W28.heap.size, 3, none⟩ (.slice A1 n c1)) = sets4 W29 (W28.heap.size) (.int .u32 p) (.int .i64 q) (.int .u32 r) (.slice A1 n c1) from rfl]
            have qs1_29 := sets4_own (a := .int .u32 p) (b := .int .i64 q) (c := .int .u32 r) (d := .slice A1 n c1) o4_29
            have rs1_29 := sets4_far (g := W28.heap.size) (a := .int .u32 p) (b := .int .i64 q) (c := .int .u32 r) (d := .slice A1 n c1) o5_29 (by omega)
            have oAs1_29 := sets4_far (g := W28.heap.size) (a := .int .u32 p) (b := .int .i64 q) (c := .int .u32 r) (d := .slice A1 n c1) oA29 (by omega)
            have oBs1_29 := sets4_far (g := W28.heap.size) (a := .int .u32 p) (b := .int .i64 q) (c := .int .u32 r) (d := .slice A1 n c1) oB29 (by omega)
            have bbs1_29 := sets4_below (g := W28.heap.size) (a := .int .u32 p) (b := .int .i64 q) (c := .int .u32 r) (d := .slice A1 n c1) bb29 (by omega)
            have hC1_s1_29 := sets4_caps (w := W29) (p := p) (q := q) (r := r) (v := .slice A1 n c1) hC1_29 o4_29
            have hC3_s1_29 := sets4_caps (w := W29) (p := p) (q := q) (r := r) (v := .slice A1 n c1) hC3_29 o4_29
            clear z0 z1 z2 z3 y0 y1 y2 y3 o4_29
            generalize hges1_29 : sets4 W29 (W28.heap.size) (.int .u32 p) (.int .i64 q) (.int .u32 r) (.slice A1 n c1) = V29 at *
            clear hges1_29
            refine hK.out _ _ ⟨oAs1_29, oBs1_29⟩ (fun hHeld2 => ?_)
            clear hK K hHeld
            have hHeld := hHeld2
            clear hHeld2
            try simp only [Act.put, List.getElem_toArray, List.getElem_cons_zero, List.getElem_cons_succ, List.setIfInBounds_toArray, List.set_cons_zero, List.set_cons_succ]
            have o5z29 := rs1_29
            refine wpAnyH_ready (rs := [7]) (by kernel_rfl) (by simp) ?_
            refine (AllReadyH.cons rfl (fun K hK => ?_) AllReadyH.nil)
            have z0 := o5z29.frozen 0
            have z1 := o5z29.frozen 1
            have z2 := o5z29.frozen 2
            have z3 := o5z29.frozen 3
            obtain ⟨y0, y1, y2, y3⟩ := own_end o5z29
            go_simp
            rw [show ((((V29.setCell ⟨Y0.heap.size, 0, none⟩ (.int .u32 p')).setCell ⟨Y0.heap.size, 1, none⟩ (.int .i64 q')).setCell ⟨Y0.heap.size, 2, none⟩ (.int .u32 r')).setCell ⟨Y0.heap.size, 3, none⟩ (.slice A3 n' c3)) = sets4 V29 (Y0.heap.size) (.int .u32 p') (.int .i64 q') (.int .u32 r') (.slice A3 n' c3) from rfl]
            have qs2_29 := sets4_own (a := .int .u32 p') (b := .int .i64 q') (c := .int .u32 r') (d := .slice A3 n' c3) o5z29
            have rs2_29 := sets4_far (g := Y0.heap.size) (a := .int .u32 p') (b := .int .i64 q') (c := .int .u32 r') (d := .slice A3 n' c3) qs1_29 (by omega)
            have oAs2_29 := sets4_far (g := Y0.heap.size) (a := .int .u32 p') (b := .int .i64 q') (c := .int .u32 r') (d := .slice A3 n' c3) oAs1_29 (by omega)
            have oBs2_29 := sets4_far (g := Y0.heap.size) (a := .int .u32 p') (b := .int .i64 q') (c := .int .u32 r') (d := .slice A3 n' c3) oBs1_29 (by omega)
            have bbs2_29 := sets4_below (g := Y0.heap.size) (a := .int .u32 p') (b := .int .i64 q') (c := .int .u32 r') (d := .slice A3 n' c3) bbs1_29 (by omega)
            have hC1_s2_29 := sets4_caps (w := V29) (p := p') (q := q') (r := r') (v := .slice A3 n' c3) hC1_s1_29 o5z29
            have hC3_s2_29 := sets4_caps (w := V29) (p := p') (q := q') (r := r') (v := .slice A3 n' c3) hC3_s1_29 o5z29
            clear z0 z1 z2 z3 y0 y1 y2 y3 o5z29
            generalize hges2_29 : sets4 V29 (Y0.heap.size) (.int .u32 p') (.int .i64 q') (.int .u32 r') (.slice A3 n' c3) = U29 at *
            clear hges2_29
            refine hK.out _ _ ⟨oAs2_29, oBs2_29⟩ (fun hHeld2 => ?_)
            clear hK K hHeld
            have hHeld := hHeld2
            clear hHeld2
            try simp only [Act.put, List.getElem_toArray, List.getElem_cons_zero, List.getElem_cons_succ, List.setIfInBounds_toArray, List.set_cons_zero, List.set_cons_succ]
            refine wpAnyH_done (by kernel_rfl) ?_ _
            try refine NoPanic.normal ?_
            go_wp2_with fail
            go_meet
            exact ⟨W28.heap.size, Y0.heap.size, A1, c1, A3, c3, rfl, rfl, rs2_29, qs2_29, hC1_s2_29, hC3_s2_29, bbs2_29⟩
          · go_simp
            have hx30 := bl_alloc (bl_refl W27) (.cells #[.int .u32 0, .int .i64 0, .int .u32 0, .slice none 0 0] 47)
            have o4_30 := Own.new W27 47 #[.int .u32 0, .int .i64 0, .int .u32 0, .slice none 0 0]
            have hne30 : Y0.heap.size ≠ W27.heap.size := by have := o5_27.lt; omega
            have hlo30 := bb27.size
            have hlA30 := oA27.lt
            have hlB30 := oB27.lt
            have oA30 := oA27.step hx30
            have oB30 := oB27.step hx30
            have hC1_30 := hC1_27.step hx30
            have o5_30 := o5_27.step hx30
            have bb30 := bl_trans bb27 hx30
            generalize hgx30 : (W27.alloc (.cells #[.int .u32 0, .int .i64 0, .int .u32 0, .slice none 0 0] 47)) = W30 at *
            clear hgx30
            refine hK.out _ _ ⟨oA30, oB30⟩ (fun hHeld2 => ?_)
            clear hK K hHeld
            have hHeld := hHeld2
            clear hHeld2
            try simp only [Act.put, List.getElem_toArray, List.getElem_cons_zero, List.getElem_cons_succ, List.setIfInBounds_toArray, List.set_cons_zero, List.set_cons_succ]
            refine wpAnyH_ready (rs := [3]) (by kernel_rfl) (by simp) ?_
            refine (AllReadyH.cons rfl (fun K hK => ?_) AllReadyH.nil)
            go_simp
            go_at_call 25
            refine (given17_any p' q' r' A' n' c' ts W30 (HCb2.out.step bb30) (by omega)).mono ?_
            rintro e W31 ⟨A3, c3, rfl, hC3_31, hx31⟩
            have oA31 := oA30.step hx31
            have oB31 := oB30.step hx31
            have hC1_31 := hC1_30.step hx31
            have o4_31 := o4_30.step hx31
            have o5_31 := o5_30.step hx31
            have bb31 := bl_trans bb30 hx31
            refine hK.out _ _ ⟨oA31, oB31⟩ (fun hHeld2 => ?_)
            clear hK K hHeld
            have hHeld := hHeld2
            clear hHeld2
            try simp only [Act.put, List.getElem_toArray, List.getElem_cons_zero, List.getElem_cons_succ, List.setIfInBounds_toArray, List.set_cons_zero, List.set_cons_succ]
            refine wpAnyH_ready (rs := [6]) (by kernel_rfl) (by simp) ?_
            refine (AllReadyH.cons rfl (fun K hK => ?_) AllReadyH.nil)
            have z0 := o4_31.frozen 0
            have z1 := o4_31.frozen 1
            have z2 := o4_31.frozen 2
            have z3 := o4_31.frozen 3
            obtain ⟨y0, y1, y2, y3⟩ := own_end o4_31
            go_simp
            rw [show ((((W31.setCell ⟨W27.heap.size, 0, none⟩ (.int .u32 p)).setCell ⟨W27.heap.size, 1, none⟩ (.int .i64 q)).setCell ⟨W27.heap.size, 2, none⟩ (.int .u32 r)).setCell ⟨W27.heap.size, 3, none⟩ (.slice A1 n c1)) = sets4 W31 (W27.heap.size) (.int .u32 p) (.int .i64 q) (.int .u32 r) (.slice A1 n c1) from rfl]
            have qs1_31 := sets4_own (a := .int .u32 p) (b := .int .i64 q) (c := .int .u32 r) (d := .slice A1 n c1) o4_31
            have rs1_31 := sets4_far (g := W27.heap.size) (a := .int .u32 p) (b := .int .i64 q) (c := .int .u32 r) (d := .slice A1 n c1) o5_31 (by omega)
            have oAs1_31 := sets4_far (g := W27.heap.size) (a := .int .u32 p) (b := .int .i64 q) (c := .int .u32 r) (d := .slice A1 n c1) oA31 (by omega)
            have oBs1_31 := sets4_far (g := W27.heap.size) (a := .int .u32 p) (b := .int .i64 q) (c := .int .u32 r) (d := .slice A1 n c1) oB31 (by omega)
            have bbs1_31 := sets4_below (g := W27.heap.size) (a := .int .u32 p) (b := .int .i64 q) (c := .int .u32 r) (d := .slice A1 n c1) bb31 (by omega)
            have hC1_s1_31 := sets4_caps (w := W31) (p := p) (q := q) (r := r) (v := .slice A1 n c1) hC1_31 o4_31
            have hC3_s1_31 := sets4_caps (w := W31) (p := p) (q := q) (r := r) (v := .slice A1 n c1) hC3_31 o4_31
            clear z0 z1 z2 z3 y0 y1 y2 y3 o4_31
            generalize hges1_31 : sets4 W31 (W27.heap.size) (.int .u32 p) (.int .i64 q) (.int .u32 r) (.slice A1 n c1) = V31 at *
            clear hges1_31
            refine hK.out _ _ ⟨oAs1_31, oBs1_31⟩ (fun hHeld2 => ?_)
            clear hK K hHeld
            have hHeld := hHeld2
            clear hHeld2
            try simp only [Act.put, List.getElem_toArray, List.getElem_cons_zero, List.getElem_cons_succ, List.setIfInBounds_toArray, List.set_cons_zero, List.set_cons_succ]
            have o5z31 := rs1_31
            refine wpAnyH_ready (rs := [7]) (by kernel_rfl) (by simp) ?_
            refine (AllReadyH.cons rfl (fun K hK => ?_) AllReadyH.nil)
            have z0 := o5z31.frozen 0
            have z1 := o5z31.frozen 1
            have z2 := o5z31.frozen 2
            have z3 := o5z31.frozen 3
            obtain ⟨y0, y1, y2, y3⟩ := own_end o5z31
            go_simp
            rw [show ((((V31.setCell ⟨Y0.heap.size, 0, none⟩ (.int .u32 p')).setCell ⟨Y0.heap.size, 1, none⟩ (.int .i64 q')).setCell ⟨Y0.heap.size, 2, none⟩ (.int .u32 r')).setCell ⟨Y0.heap.size, 3, none⟩ (.slice A3 n' c3)) = sets4 V31 (Y0.heap.size) (.int .u32 p') (.int .i64 q') (.int .u32 r') (.slice A3 n' c3) from rfl]
            have qs2_31 := sets4_own (a := .int .u32 p') (b := .int .i64 q') (c := .int .u32 r') (d := .slice A3 n' c3) o5z31
            have rs2_31 := sets4_far (g := Y0.heap.size) (a := .int .u32 p') (b := .int .i64 q') (c := .int .u32 r') (d := .slice A3 n' c3) qs1_31 (by omega)
            have oAs2_31 := sets4_far (g := Y0.heap.size) (a := .int .u32 p') (b := .int .i64 q') (c := .int .u32 r') (d := .slice A3 n' c3) oAs1_31 (by omega)
            have oBs2_31 := sets4_far (g := Y0.heap.size) (a := .int .u32 p') (b := .int .i64 q') (c := .int .u32 r') (d := .slice A3 n' c3) oBs1_31 (by omega)
            have bbs2_31 := sets4_below (g := Y0.heap.size) (a := .int .u32 p') (b := .int .i64 q') (c := .int .u32 r') (d := .slice A3 n' c3) bbs1_31 (by omega)
            have hC1_s2_31 := sets4_caps (w := V31) (p := p') (q := q') (r := r') (v := .slice A3 n' c3) hC1_s1_31 o5z31
            have hC3_s2_31 := sets4_caps (w := V31) (p := p') (q := q') (r := r') (v := .slice A3 n' c3) hC3_s1_31 o5z31
            clear z0 z1 z2 z3 y0 y1 y2 y3 o5z31
            generalize hges2_31 : sets4 V31 (Y0.heap.size) (.int .u32 p') (.int .i64 q') (.int .u32 r') (.slice A3 n' c3) = U31 at *
            clear hges2_31
            refine hK.out _ _ ⟨oAs2_31, oBs2_31⟩ (fun hHeld2 => ?_)
            clear hK K hHeld
            have hHeld := hHeld2
            clear hHeld2
            try simp only [Act.put, List.getElem_toArray, List.getElem_cons_zero, List.getElem_cons_succ, List.setIfInBounds_toArray, List.set_cons_zero, List.set_cons_succ]
            refine wpAnyH_done (by kernel_rfl) ?_ _
            try refine NoPanic.normal ?_
            go_wp2_with fail
            go_meet
            exact ⟨W27.heap.size, Y0.heap.size, A1, c1, A3, c3, rfl, rfl, rs2_31, qs2_31, hC1_s2_31, hC3_s2_31, bbs2_31⟩
        · go_simp
          have hx32 := bl_alloc (bl_refl W26) (.cells #[.int .u32 0, .int .i64 0, .int .u32 0, .slice none 0 0] 47)
          have o4_32 := Own.new W26 47 #[.int .u32 0, .int .i64 0, .int .u32 0, .slice none 0 0]
          have hne32 : Y0.heap.size ≠ W26.heap.size := by have := o5_26.lt; omega
          have hlo32 := bb26.size
          have hlA32 := oA26.lt
          have hlB32 := oB26.lt
          have oA32 := oA26.step hx32
          have oB32 := oB26.step hx32
          have o5_32 := o5_26.step hx32
          have bb32 := bl_trans bb26 hx32
          generalize hgx32 : (W26.alloc (.cells #[.int .u32 0, .int .i64 0, .int .u32 0, .slice none 0 0] 47)) = W32 at *
          clear hgx32
          refine hK.out _ _ ⟨oA32, oB32⟩ (fun hHeld2 => ?_)
          clear hK K hHeld
          have hHeld := hHeld2
          clear hHeld2
          try simp only [Act.put, List.getElem_toArray, List.getElem_cons_zero, List.getElem_cons_succ, List.setIfInBounds_toArray, List.set_cons_zero, List.set_cons_succ]
          refine wpAnyH_ready (rs := [1]) (by kernel_rfl) (by simp) ?_
          refine (AllReadyH.cons rfl (fun K hK => ?_) AllReadyH.nil)
          go_simp
          go_at_call 25
          refine (given17_any p q r A n c ss W32 (HCa2.out.step bb32) (by omega)).mono ?_
          rintro e W33 ⟨A1, c1, rfl, hC1_33, hx33⟩
          have oA33 := oA32.step hx33
          have oB33 := oB32.step hx33
          have o4_33 := o4_32.step hx33
          have o5_33 := o5_32.step hx33
          have bb33 := bl_trans bb32 hx33
          refine hK.out _ _ ⟨oA33, oB33⟩ (fun hHeld2 => ?_)
          clear hK K hHeld
          have hHeld := hHeld2
          clear hHeld2
          try simp only [Act.put, List.getElem_toArray, List.getElem_cons_zero, List.getElem_cons_succ, List.setIfInBounds_toArray, List.set_cons_zero, List.set_cons_succ]
          refine wpAnyH_ready (rs := [3]) (by kernel_rfl) (by simp) ?_
          refine (AllReadyH.cons rfl (fun K hK => ?_) AllReadyH.nil)
          go_simp
          go_at_call 25
          refine (given17_any p' q' r' A' n' c' ts W33 (HCb2.out.step bb33) (by omega)).mono ?_
          rintro e W34 ⟨A3, c3, rfl, hC3_34, hx34⟩
          have oA34 := oA33.step hx34
          have oB34 := oB33.step hx34
          have hC1_34 := hC1_33.step hx34
          have o4_34 := o4_33.step hx34
          have o5_34 := o5_33.step hx34
          have bb34 := bl_trans bb33 hx34
          refine hK.out _ _ ⟨oA34, oB34⟩ (fun hHeld2 => ?_)
          clear hK K hHeld
          have hHeld := hHeld2
          clear hHeld2
          try simp only [Act.put, List.getElem_toArray, List.getElem_cons_zero, List.getElem_cons_succ, List.setIfInBounds_toArray, List.set_cons_zero, List.set_cons_succ]
          refine wpAnyH_ready (rs := [6]) (by kernel_rfl) (by simp) ?_
          refine (AllReadyH.cons rfl (fun K hK => ?_) AllReadyH.nil)
          have z0 := o4_34.frozen 0
          have z1 := o4_34.frozen 1
          have z2 := o4_34.frozen 2
          have z3 := o4_34.frozen 3
          obtain ⟨y0, y1, y2, y3⟩ := own_end o4_34
          go_simp
          rw [show ((((W34.setCell ⟨W26.heap.size, 0, none⟩ (.int .u32 p)).setCell ⟨W26.heap.size, 1, none⟩ (.int .i64 q)).setCell ⟨W26.heap.size, 2, none⟩ (.int .u32 r)).setCell ⟨W26.heap.size, 3, none⟩ (.slice A1 n c1)) = sets4 W34 (W26.heap.size) (.int .u32 p) (.int .i64 q) (.int .u32 r) (.slice A1 n c1) from rfl]
          have qs1_34 := sets4_own (a := .int .u32 p) (b := .int .i64 q) (c := .int .u32 r) (d := .slice A1 n c1) o4_34
          have rs1_34 := sets4_far (g := W26.heap.size) (a := .int .u32 p) (b := .int .i64 q) (c := .int .u32 r) (d := .slice A1 n c1) o5_34 (by omega)
          have oAs1_34 := sets4_far (g := W26.heap.size) (a := .int .u32 p) (b := .int .i64 q) (c := .int .u32 r) (d := .slice A1 n c1) oA34 (by omega)
          have oBs1_34 := sets4_far (g := W26.heap.size) (a := .int .u32 p) (b := .int .i64 q) (c := .int .u32 r) (d := .slice A1 n c1) oB34 (by omega)
          have bbs1_34 := sets4_below (g := W26.heap.size) (a := .int .u32 p) (b := .int .i64 q) (c := .int .u32 r) (d := .slice A1 n c1) bb34 (by omega)
          have hC1_s1_34 := sets4_caps (w := W34) (p := p) (q := q) (r := r) (v := .slice A1 n c1) hC1_34 o4_34
          have hC3_s1_34 := sets4_caps (w := W34) (p := p) (q := q) (r := r) (v := .slice A1 n c1) hC3_34 o4_34
          clear z0 z1 z2 z3 y0 y1 y2 y3 o4_34
          generalize hges1_34 : sets4 W34 (W26.heap.size) (.int .u32 p) (.int .i64 q) (.int .u32 r) (.slice A1 n c1) = V34 at *
          clear hges1_34
          refine hK.out _ _ ⟨oAs1_34, oBs1_34⟩ (fun hHeld2 => ?_)
          clear hK K hHeld
          have hHeld := hHeld2
          clear hHeld2
          try simp only [Act.put, List.getElem_toArray, List.getElem_cons_zero, List.getElem_cons_succ, List.setIfInBounds_toArray, List.set_cons_zero, List.set_cons_succ]
          have o5z34 := rs1_34
          refine wpAnyH_ready (rs := [7]) (by kernel_rfl) (by simp) ?_
          refine (AllReadyH.cons rfl (fun K hK => ?_) AllReadyH.nil)
          have z0 := o5z34.frozen 0
          have z1 := o5z34.frozen 1
          have z2 := o5z34.frozen 2
          have z3 := o5z34.frozen 3
          obtain ⟨y0, y1, y2, y3⟩ := own_end o5z34
          go_simp
          rw [show ((((V34.setCell ⟨Y0.heap.size, 0, none⟩ (.int .u32 p')).setCell ⟨Y0.heap.size, 1, none⟩ (.int .i64 q')).setCell ⟨Y0.heap.size, 2, none⟩ (.int .u32 r')).setCell ⟨Y0.heap.size, 3, none⟩ (.slice A3 n' c3)) = sets4 V34 (Y0.heap.size) (.int .u32 p') (.int .i64 q') (.int .u32 r') (.slice A3 n' c3) from rfl]
          have qs2_34 := sets4_own (a := .int .u32 p') (b := .int .i64 q') (c := .int .u32 r') (d := .slice A3 n' c3) o5z34
          have rs2_34 := sets4_far (g := Y0.heap.size) (a := .int .u32 p') (b := .int .i64 q') (c := .int .u32 r') (d := .slice A3 n' c3) qs1_34 (by omega)
          have oAs2_34 := sets4_far (g := Y0.heap.size) (a := .int .u32 p') (b := .int .i64 q') (c := .int .u32 r') (d := .slice A3 n' c3) oAs1_34 (by omega)
          have oBs2_34 := sets4_far (g := Y0.heap.size) (a := .int .u32 p') (b := .int .i64 q') (c := .int .u32 r') (d := .slice A3 n' c3) oBs1_34 (by omega)
          have bbs2_34 := sets4_below (g := Y0.heap.size) (a := .int .u32 p') (b := .int .i64 q') (c := .int .u32 r') (d := .slice A3 n' c3) bbs1_34 (by omega)
          have hC1_s2_34 := sets4_caps (w := V34) (p := p') (q := q') (r := r') (v := .slice A3 n' c3) hC1_s1_34 o5z34
          have hC3_s2_34 := sets4_caps (w := V34) (p := p') (q := q') (r := r') (v := .slice A3 n' c3) hC3_s1_34 o5z34
          clear z0 z1 z2 z3 y0 y1 y2 y3 o5z34
          generalize hges2_34 : sets4 V34 (Y0.heap.size) (.int .u32 p') (.int .i64 q') (.int .u32 r') (.slice A3 n' c3) = U34 at *
          clear hges2_34
          refine hK.out _ _ ⟨oAs2_34, oBs2_34⟩ (fun hHeld2 => ?_)
          clear hK K hHeld
          have hHeld := hHeld2
          clear hHeld2
          try simp only [Act.put, List.getElem_toArray, List.getElem_cons_zero, List.getElem_cons_succ, List.setIfInBounds_toArray, List.set_cons_zero, List.set_cons_succ]
          refine wpAnyH_done (by kernel_rfl) ?_ _
          try refine NoPanic.normal ?_
          go_wp2_with fail
          go_meet
          exact ⟨W26.heap.size, Y0.heap.size, A1, c1, A3, c3, rfl, rfl, rs2_34, qs2_34, hC1_s2_34, hC3_s2_34, bbs2_34⟩
    case rest =>
    obtain ⟨wa, hwa⟩ : ∃ z, z = wc := ⟨_, rfl⟩
    subst hwa
    obtain ⟨g5, g6, A1, c1, A3, c3, rfl, rfl, o5, o6, hC1, hC3, hbx⟩ := hcut
    have hb4 := bl_trans hb3 hbx
    have oA3 := oA2.step hbx
    have oB3 := oB2.step hbx
    have HF3 := Lib.hid (HF2.out.below hbx)
    obtain ⟨x0, x1, x2, x3, x4, x5, ex⟩ : ∃ x0 x1 x2 x3 x4 x5, towK (ss.map cpK) (ts.map cpK) = #[.bool x0, .bool x1, .bool x2, .bool x3, .bool x4, .bool x5] := ⟨_, _, _, _, _, _, rfl⟩
    obtain ⟨y0, y1, y2, y3, y4, y5, ey⟩ : ∃ y0 y1 y2 y3 y4 y5, towK (ts.map cpK) (ss.map cpK) = #[.bool y0, .bool y1, .bool y2, .bool y3, .bool y4, .bool y5] := ⟨_, _, _, _, _, _, rfl⟩
    obtain ⟨H, eh⟩ : ∃ H, holdK q q' = H := ⟨_, rfl⟩
    have eh2 : holdK q' q = H := by rw [← eh]; exact holdK_comm q' q
    have hAl : Hid (∀ W, Below wa.heap.size wa W → Calls Tryd.prog 38 #[] W fun e w' => e = .returned (.bool true) ∧ Below W.heap.size W w') := Lib.hid fun W hb => alive22_any W (HF3.out.below hb)
    have hO1 : Hid (∀ W, Below wa.heap.size wa W → Calls Tryd.prog 45 #[.agg #[.int .u32 p, .int .i64 q, .int .u32 r, .slice A1 n c1], .agg #[.int .u32 p', .int .i64 q', .int .u32 r', .slice A3 n' c3]] W fun e w' => e = .returned (.agg #[.bool x0, .bool x1, .bool x2, .bool x3, .bool x4, .bool x5, .bool y0, .bool y1, .bool y2, .bool y3, .bool y4, .bool y5, .int .i64 H]) ∧ Below W.heap.size W w') := Lib.hid fun W hb => nof_any p q r A1 n c1 p' q' r' A3 n' c3 ss ts W (hC1.step hb) (hC3.step hb) (by omega) (by omega) (fun s hs => Nat.le_trans (HSa.out s hs) (by omega)) (fun s hs => Nat.le_trans (HSb.out s hs) (by omega)) (HF3.out.below hb) x0 x1 x2 x3 x4 x5 y0 y1 y2 y3 y4 y5 ex ey H eh
    have hO2 : Hid (∀ W, Below wa.heap.size wa W → Calls Tryd.prog 45 #[.agg #[.int .u32 p', .int .i64 q', .int .u32 r', .slice A3 n' c3], .agg #[.int .u32 p, .int .i64 q, .int .u32 r, .slice A1 n c1]] W fun e w' => e = .returned (.agg #[.bool y0, .bool y1, .bool y2, .bool y3, .bool y4, .bool y5, .bool x0, .bool x1, .bool x2, .bool x3, .bool x4, .bool x5, .int .i64 H]) ∧ Below W.heap.size W w') := Lib.hid fun W hb => nof_any p' q' r' A3 n' c3 p q r A1 n c1 ts ss W (hC3.step hb) (hC1.step hb) (by omega) (by omega) (fun s hs => Nat.le_trans (HSb.out s hs) (by omega)) (fun s hs => Nat.le_trans (HSa.out s hs) (by omega)) (HF3.out.below hb) y0 y1 y2 y3 y4 y5 x0 x1 x2 x3 x4 x5 ey ex H eh2
    have hOa : Hid (∀ W, Below wa.heap.size wa W → Calls Tryd.prog 40 #[.agg #[.int .u32 p, .int .i64 q, .int .u32 r, .slice A n c], .agg #[.int .u32 p', .int .i64 q', .int .u32 r', .slice A' n' c']] W fun e w' => e = .returned (.agg #[.bool x0, .bool x1, .bool x2, .bool x3, .bool x4, .bool x5]) ∧ Below W.heap.size W w') := Lib.hid fun W hb => by have := rone_any p q r A n c p' q' r' A' n' c' ss ts W ((HCa2.out.step hbx).step hb) ((HCb2.out.step hbx).step hb) (by omega) (by omega) (fun s hs => Nat.le_trans (HSa.out s hs) (by omega)) (fun s hs => Nat.le_trans (HSb.out s hs) (by omega)); rwa [ex] at this
    have hOb : Hid (∀ W, Below wa.heap.size wa W → Calls Tryd.prog 40 #[.agg #[.int .u32 p', .int .i64 q', .int .u32 r', .slice A' n' c'], .agg #[.int .u32 p, .int .i64 q, .int .u32 r, .slice A n c]] W fun e w' => e = .returned (.agg #[.bool y0, .bool y1, .bool y2, .bool y3, .bool y4, .bool y5]) ∧ Below W.heap.size W w') := Lib.hid fun W hb => by have := rone_any p' q' r' A' n' c' p q r A n c ts ss W ((HCb2.out.step hbx).step hb) ((HCa2.out.step hbx).step hb) (by omega) (by omega) (fun s hs => Nat.le_trans (HSb.out s hs) (by omega)) (fun s hs => Nat.le_trans (HSa.out s hs) (by omega)); rwa [ey] at this
    have hHr : Hid (∀ W, Calls Tryd.prog 46 #[.agg #[.int .u32 p, .int .i64 q, .int .u32 r, .slice A n c], .agg #[.int .u32 p', .int .i64 q', .int .u32 r', .slice A' n' c']] W fun e w' => e = .returned (.int .i64 H) ∧ Below W.heap.size W w') := Lib.hid fun W => by have := rhold_any p q r A n c p' q' r' A' n' c' W; rwa [eh] at this
    have hHn : Hid (∀ W, Calls Tryd.prog 44 #[.agg #[.int .u32 p, .int .i64 q, .int .u32 r, .slice A1 n c1], .agg #[.int .u32 p', .int .i64 q', .int .u32 r', .slice A3 n' c3]] W fun e w' => e = .returned (.int .i64 H) ∧ Below W.heap.size W w') := Lib.hid fun W => by have := nhold_any p q r A1 n c1 p' q' r' A3 n' c3 W; rwa [eh] at this
    have HEX := Lib.hid (fun W => se_same x0 x1 x2 x3 x4 x5 y0 y1 y2 y3 y4 y5 H W)
    have HEY := Lib.hid (fun W => se_same y0 y1 y2 y3 y4 y5 x0 x1 x2 x3 x4 x5 H W)
    clear oA2 oB2 hb3 hC1 hC3 HCa2 HCb2 hna hnb hsz HF2 HF3 hbx HSa HSb hq hq' ex ey eh eh2
    go_upto_region 4 with fail
    go_cut [7, 8] (fun v7 v8 wx => GivS wa #[.bool x0, .bool x1, .bool x2, .bool x3, .bool x4, .bool x5, .bool y0, .bool y1, .bool y2, .bool y3, .bool y4, .bool y5, .int .i64 H] #[.bool y0, .bool y1, .bool y2, .bool y3, .bool y4, .bool y5, .bool x0, .bool x1, .bool x2, .bool x3, .bool x4, .bool x5, .int .i64 H] v7 v8 wx)
    case first =>
      refine wp_region_held_drew (S := (fun X => (Own X w.heap.size 41 #[.int .u32 p, .int .i64 q, .int .u32 r, .slice A n c] ∧ Own X (w.heap.size + 1) 41 #[.int .u32 p', .int .i64 q', .int .u32 r', .slice A' n' c']) ∧ Own X g5 47 #[.int .u32 p, .int .i64 q, .int .u32 r, .slice A1 n c1] ∧ Own X g6 47 #[.int .u32 p', .int .i64 q', .int .u32 r', .slice A3 n' c3])) (by kernel_rfl) ⟨⟨oA3.drew, oB3.drew⟩, o5.drew, o6.drew⟩ (fun hHeld => ?_)
      have oA0 := oA3.drew
      have oB0 := oB3.drew
      have oX0 := o5.drew
      have oY0 := o6.drew
      have bb0 : Below wa.heap.size wa wa.drew := bl_drewN (bl_refl wa) 1
      generalize wa.drew = Y0 at *
      refine wpAnyH_take (i := 0) (v := ?_) rfl (by kernel_rfl) (by kernel_rfl) (by kernel_rfl) (fun _ _ _ h => h) (Or.inl ⟨by rfl, ?_⟩) (by assumption) ?_
      rotate_left
      · (intro W hSw; have s0 : Own W w.heap.size 41 #[.int .u32 p, .int .i64 q, .int .u32 r, .slice A n c] := hSw.1.1; have s1 : Own W (w.heap.size + 1) 41 #[.int .u32 p', .int .i64 q', .int .u32 r', .slice A' n' c'] := hSw.1.2; have s2 : Own W g5 47 #[.int .u32 p, .int .i64 q, .int .u32 r, .slice A1 n c1] := hSw.2.1; have s3 : Own W g6 47 #[.int .u32 p', .int .i64 q', .int .u32 r', .slice A3 n' c3] := hSw.2.2; obtain ⟨e0, e1, e2, e3⟩ := own_end s2; go_simp; try with_reducible rfl)
      simp only [Act.put, List.getElem_toArray, List.getElem_cons_zero, List.setIfInBounds_toArray, List.set_cons_zero, List.set_cons_succ]
      refine wpAnyH_take (i := 1) (v := ?_) rfl (by kernel_rfl) (by kernel_rfl) (by kernel_rfl) (fun _ _ _ h => h) (Or.inl ⟨by rfl, ?_⟩) (by assumption) ?_
      rotate_left
      · (intro W hSw; have s0 : Own W w.heap.size 41 #[.int .u32 p, .int .i64 q, .int .u32 r, .slice A n c] := hSw.1.1; have s1 : Own W (w.heap.size + 1) 41 #[.int .u32 p', .int .i64 q', .int .u32 r', .slice A' n' c'] := hSw.1.2; have s2 : Own W g5 47 #[.int .u32 p, .int .i64 q, .int .u32 r, .slice A1 n c1] := hSw.2.1; have s3 : Own W g6 47 #[.int .u32 p', .int .i64 q', .int .u32 r', .slice A3 n' c3] := hSw.2.2; obtain ⟨e0, e1, e2, e3⟩ := own_end s3; go_simp; try with_reducible rfl)
      simp only [Act.put, List.getElem_toArray, List.getElem_cons_zero, List.getElem_cons_succ, List.setIfInBounds_toArray, List.set_cons_zero, List.set_cons_succ]
      refine wpAnyH_take (i := 3) (v := ?_) rfl (by kernel_rfl) (by kernel_rfl) (by kernel_rfl) (fun _ _ _ h => h) (Or.inl ⟨by rfl, ?_⟩) (by assumption) ?_
      rotate_left
      · (intro W hSw; have s0 : Own W w.heap.size 41 #[.int .u32 p, .int .i64 q, .int .u32 r, .slice A n c] := hSw.1.1; have s1 : Own W (w.heap.size + 1) 41 #[.int .u32 p', .int .i64 q', .int .u32 r', .slice A' n' c'] := hSw.1.2; have s2 : Own W g5 47 #[.int .u32 p, .int .i64 q, .int .u32 r, .slice A1 n c1] := hSw.2.1; have s3 : Own W g6 47 #[.int .u32 p', .int .i64 q', .int .u32 r', .slice A3 n' c3] := hSw.2.2; obtain ⟨e0, e1, e2, e3⟩ := own_end s3; go_simp; try with_reducible rfl)
      simp only [Act.put, List.getElem_toArray, List.getElem_cons_zero, List.getElem_cons_succ, List.setIfInBounds_toArray, List.set_cons_zero, List.set_cons_succ]
      refine wpAnyH_take (i := 4) (v := ?_) rfl (by kernel_rfl) (by kernel_rfl) (by kernel_rfl) (fun _ _ _ h => h) (Or.inl ⟨by rfl, ?_⟩) (by assumption) ?_
      rotate_left
      · (intro W hSw; have s0 : Own W w.heap.size 41 #[.int .u32 p, .int .i64 q, .int .u32 r, .slice A n c] := hSw.1.1; have s1 : Own W (w.heap.size + 1) 41 #[.int .u32 p', .int .i64 q', .int .u32 r', .slice A' n' c'] := hSw.1.2; have s2 : Own W g5 47 #[.int .u32 p, .int .i64 q, .int .u32 r, .slice A1 n c1] := hSw.2.1; have s3 : Own W g6 47 #[.int .u32 p', .int .i64 q', .int .u32 r', .slice A3 n' c3] := hSw.2.2; obtain ⟨e0, e1, e2, e3⟩ := own_end s2; go_simp; try with_reducible rfl)
      simp only [Act.put, List.getElem_toArray, List.getElem_cons_zero, List.getElem_cons_succ, List.setIfInBounds_toArray, List.set_cons_zero, List.set_cons_succ]
      refine wpAnyH_ready (rs := [2, 6, 7]) (by kernel_rfl) (by simp) ?_
      refine (AllReadyH.cons rfl (fun K hK => ?_) (AllReadyH.cons rfl (fun K hK => ?_) (AllReadyH.cons rfl (fun K hK => ?_) AllReadyH.nil)))
      · go_simp
        go_at_call 45
        refine (hO1.out Y0 bb0).mono ?_
        rintro e W1 ⟨rfl, hx1⟩
        have oA1 := oA0.step hx1
        have oB1 := oB0.step hx1
        have oX1 := oX0.step hx1
        have oY1 := oY0.step hx1
        have bb1 := bl_trans bb0 hx1
        refine hK.out _ _ ⟨⟨oA1, oB1⟩, oX1, oY1⟩ (fun hHeld2 => ?_)
        clear hK K hHeld
        have hHeld := hHeld2
        clear hHeld2
        try simp only [Act.put, List.getElem_toArray, List.getElem_cons_zero, List.getElem_cons_succ, List.setIfInBounds_toArray, List.set_cons_zero, List.set_cons_succ]
        refine wpAnyH_ready (rs := [5, 6, 7]) (by kernel_rfl) (by simp) ?_
        refine (AllReadyH.cons rfl (fun K hK => ?_) (AllReadyH.cons rfl (fun K hK => ?_) (AllReadyH.cons rfl (fun K hK => ?_) AllReadyH.nil)))
        · go_simp
          go_at_call 45
          refine (hO2.out W1 bb1).mono ?_
          rintro e W2 ⟨rfl, hx2⟩
          have oA2 := oA1.step hx2
          have oB2 := oB1.step hx2
          have oX2 := oX1.step hx2
          have oY2 := oY1.step hx2
          have bb2 := bl_trans bb1 hx2
          refine hK.out _ _ ⟨⟨oA2, oB2⟩, oX2, oY2⟩ (fun hHeld2 => ?_)
          clear hK K hHeld
          have hHeld := hHeld2
          clear hHeld2
          try simp only [Act.put, List.getElem_toArray, List.getElem_cons_zero, List.getElem_cons_succ, List.setIfInBounds_toArray, List.set_cons_zero, List.set_cons_succ]
          refine wpAnyH_ready (rs := [6, 7]) (by kernel_rfl) (by simp) ?_
          refine (AllReadyH.cons rfl (fun K hK => ?_) (AllReadyH.cons rfl (fun K hK => ?_) AllReadyH.nil))
          · go_simp
            have hx3 := bl_alloc (bl_refl W2) (.cells #[.bool false, .bool false, .bool false, .bool false, .bool false, .bool false, .bool false, .bool false, .bool false, .bool false, .bool false, .bool false, .int .i64 0] 75)
            have b0_3 := Own.new W2 75 #[.bool false, .bool false, .bool false, .bool false, .bool false, .bool false, .bool false, .bool false, .bool false, .bool false, .bool false, .bool false, .int .i64 0]
            have hlo3 := bb2.size
            have hloA3 := oA2.lt
            have hloB3 := oB2.lt
            have hloX3 := oX2.lt
            have hloY3 := oY2.lt
            have oA3 := oA2.step hx3
            have oB3 := oB2.step hx3
            have oX3 := oX2.step hx3
            have oY3 := oY2.step hx3
            have bb3 := bl_trans bb2 hx3
            generalize hgx3 : (W2.alloc (.cells #[.bool false, .bool false, .bool false, .bool false, .bool false, .bool false, .bool false, .bool false, .bool false, .bool false, .bool false, .bool false, .int .i64 0] 75)) = W3 at *
            clear hgx3
            refine hK.out _ _ ⟨⟨oA3, oB3⟩, oX3, oY3⟩ (fun hHeld2 => ?_)
            clear hK K hHeld
            have hHeld := hHeld2
            clear hHeld2
            try simp only [Act.put, List.getElem_toArray, List.getElem_cons_zero, List.getElem_cons_succ, List.setIfInBounds_toArray, List.set_cons_zero, List.set_cons_succ]
            refine wpAnyH_ready (rs := [7]) (by kernel_rfl) (by simp) ?_
            refine (AllReadyH.cons rfl (fun K hK => ?_) AllReadyH.nil)
            go_simp
            have hx4 := bl_alloc (bl_refl W3) (.cells #[.bool false, .bool false, .bool false, .bool false, .bool false, .bool false, .bool false, .bool false, .bool false, .bool false, .bool false, .bool false, .int .i64 0] 75)
            have b1_4 := Own.new W3 75 #[.bool false, .bool false, .bool false, .bool false, .bool false, .bool false, .bool false, .bool false, .bool false, .bool false, .bool false, .bool false, .int .i64 0]
            have hne4_0 : W2.heap.size ≠ W3.heap.size := by have := b0_3.lt; omega
            have hlo4 := bb3.size
            have hloA4 := oA3.lt
            have hloB4 := oB3.lt
            have hloX4 := oX3.lt
            have hloY4 := oY3.lt
            have oA4 := oA3.step hx4
            have oB4 := oB3.step hx4
            have oX4 := oX3.step hx4
            have oY4 := oY3.step hx4
            have b0_4 := b0_3.step hx4
            have bb4 := bl_trans bb3 hx4
            generalize hgx4 : (W3.alloc (.cells #[.bool false, .bool false, .bool false, .bool false, .bool false, .bool false, .bool false, .bool false, .bool false, .bool false, .bool false, .bool false, .int .i64 0] 75)) = W4 at *
            clear hgx4
            refine hK.out _ _ ⟨⟨oA4, oB4⟩, oX4, oY4⟩ (fun hHeld2 => ?_)
            clear hK K hHeld
            have hHeld := hHeld2
            clear hHeld2
            try simp only [Act.put, List.getElem_toArray, List.getElem_cons_zero, List.getElem_cons_succ, List.setIfInBounds_toArray, List.set_cons_zero, List.set_cons_succ]
            refine wpAnyH_ready (rs := [8]) (by kernel_rfl) (by simp) ?_
            refine (AllReadyH.cons rfl (fun K hK => ?_) AllReadyH.nil)
            have z0 := b0_4.frozen 0
            have z1 := b0_4.frozen 1
            have z2 := b0_4.frozen 2
            have z3 := b0_4.frozen 3
            have z4 := b0_4.frozen 4
            have z5 := b0_4.frozen 5
            have z6 := b0_4.frozen 6
            have z7 := b0_4.frozen 7
            have z8 := b0_4.frozen 8
            have z9 := b0_4.frozen 9
            have z10 := b0_4.frozen 10
            have z11 := b0_4.frozen 11
            have z12 := b0_4.frozen 12
            obtain ⟨y0_, y1_, y2_, y3_, y4_, y5_, y6_, y7_, y8_, y9_, y10_, y11_, y12_⟩ := own_13 b0_4
            go_simp
            rw [show (((((((((((((W4.setCell ⟨W2.heap.size, 0, none⟩ (.bool x0)).setCell ⟨W2.heap.size, 1, none⟩ (.bool x1)).setCell ⟨W2.heap.size, 2, none⟩ (.bool x2)).setCell ⟨W2.heap.size, 3, none⟩ (.bool x3)).setCell ⟨W2.heap.size, 4, none⟩ (.bool x4)).setCell ⟨W2.heap.size, 5, none⟩ (.bool x5)).setCell ⟨W2.heap.size, 6, none⟩ (.bool y0)).setCell ⟨W2.heap.size, 7, none⟩ (.bool y1)).setCell ⟨W2.heap.size, 8, none⟩ (.bool y2)).setCell ⟨W2.heap.size, 9, none⟩ (.bool y3)).setCell ⟨W2.heap.size, 10, none⟩ (.bool y4)).setCell ⟨W2.heap.size, 11, none⟩ (.bool y5)).setCell ⟨W2.heap.size, 12, none⟩ (.int .i64 H)) = sets13 W4 (W2.heap.size) (.bool x0) (.bool x1) (.bool x2) (.bool x3) (.bool x4) (.bool x5) (.bool y0) (.bool y1) (.bool y2) (.bool y3) (.bool y4) (.bool y5) (.int .i64 H) from rfl]
            have qs0_4 := sets13_own (v0 := .bool x0) (v1 := .bool x1) (v2 := .bool x2) (v3 := .bool x3) (v4 := .bool x4) (v5 := .bool x5) (v6 := .bool y0) (v7 := .bool y1) (v8 := .bool y2) (v9 := .bool y3) (v10 := .bool y4) (v11 := .bool y5) (v12 := .int .i64 H) b0_4
            have far : ∀ k T cs, Own W4 k T cs → k ≠ W2.heap.size → Own (sets13 W4 (W2.heap.size) (.bool x0) (.bool x1) (.bool x2) (.bool x3) (.bool x4) (.bool x5) (.bool y0) (.bool y1) (.bool y2) (.bool y3) (.bool y4) (.bool y5) (.int .i64 H)) k T cs := fun _ _ _ h hk => sets13_far h hk
            have oAs0_4 := far _ _ _ oA4 (by omega)
            have oBs0_4 := far _ _ _ oB4 (by omega)
            have oXs0_4 := far _ _ _ oX4 (by omega)
            have oYs0_4 := far _ _ _ oY4 (by omega)
            have r1s0_4 := far _ _ _ b1_4 (by omega)
            have bbs0_4 := sets13_below (g := W2.heap.size) (v0 := .bool x0) (v1 := .bool x1) (v2 := .bool x2) (v3 := .bool x3) (v4 := .bool x4) (v5 := .bool x5) (v6 := .bool y0) (v7 := .bool y1) (v8 := .bool y2) (v9 := .bool y3) (v10 := .bool y4) (v11 := .bool y5) (v12 := .int .i64 H) bb4 (by omega)
            clear far z0 y0_ z1 y1_ z2 y2_ z3 y3_ z4 y4_ z5 y5_ z6 y6_ z7 y7_ z8 y8_ z9 y9_ z10 y10_ z11 y11_ z12 y12_ b0_4 b1_4
            generalize hges0_4 : sets13 W4 (W2.heap.size) (.bool x0) (.bool x1) (.bool x2) (.bool x3) (.bool x4) (.bool x5) (.bool y0) (.bool y1) (.bool y2) (.bool y3) (.bool y4) (.bool y5) (.int .i64 H) = V0_4 at *
            clear hges0_4
            refine hK.out _ _ ⟨⟨oAs0_4, oBs0_4⟩, oXs0_4, oYs0_4⟩ (fun hHeld2 => ?_)
            clear hK K hHeld
            have hHeld := hHeld2
            clear hHeld2
            try simp only [Act.put, List.getElem_toArray, List.getElem_cons_zero, List.getElem_cons_succ, List.setIfInBounds_toArray, List.set_cons_zero, List.set_cons_succ]
            refine wpAnyH_ready (rs := [9]) (by kernel_rfl) (by simp) ?_
            refine (AllReadyH.cons rfl (fun K hK => ?_) AllReadyH.nil)
            have z0 := r1s0_4.frozen 0
            have z1 := r1s0_4.frozen 1
            have z2 := r1s0_4.frozen 2
            have z3 := r1s0_4.frozen 3
            have z4 := r1s0_4.frozen 4
            have z5 := r1s0_4.frozen 5
            have z6 := r1s0_4.frozen 6
            have z7 := r1s0_4.frozen 7
            have z8 := r1s0_4.frozen 8
            have z9 := r1s0_4.frozen 9
            have z10 := r1s0_4.frozen 10
            have z11 := r1s0_4.frozen 11
            have z12 := r1s0_4.frozen 12
            obtain ⟨y0_, y1_, y2_, y3_, y4_, y5_, y6_, y7_, y8_, y9_, y10_, y11_, y12_⟩ := own_13 r1s0_4
            go_simp
            rw [show (((((((((((((V0_4.setCell ⟨W3.heap.size, 0, none⟩ (.bool y0)).setCell ⟨W3.heap.size, 1, none⟩ (.bool y1)).setCell ⟨W3.heap.size, 2, none⟩ (.bool y2)).setCell ⟨W3.heap.size, 3, none⟩ (.bool y3)).setCell ⟨W3.heap.size, 4, none⟩ (.bool y4)).setCell ⟨W3.heap.size, 5, none⟩ (.bool y5)).setCell ⟨W3.heap.size, 6, none⟩ (.bool x0)).setCell ⟨W3.heap.size, 7, none⟩ (.bool x1)).setCell ⟨W3.heap.size, 8, none⟩ (.bool x2)).setCell ⟨W3.heap.size, 9, none⟩ (.bool x3)).setCell ⟨W3.heap.size, 10, none⟩ (.bool x4)).setCell ⟨W3.heap.size, 11, none⟩ (.bool x5)).setCell ⟨W3.heap.size, 12, none⟩ (.int .i64 H)) = sets13 V0_4 (W3.heap.size) (.bool y0) (.bool y1) (.bool y2) (.bool y3) (.bool y4) (.bool y5) (.bool x0) (.bool x1) (.bool x2) (.bool x3) (.bool x4) (.bool x5) (.int .i64 H) from rfl]
            have qs1_4 := sets13_own (v0 := .bool y0) (v1 := .bool y1) (v2 := .bool y2) (v3 := .bool y3) (v4 := .bool y4) (v5 := .bool y5) (v6 := .bool x0) (v7 := .bool x1) (v8 := .bool x2) (v9 := .bool x3) (v10 := .bool x4) (v11 := .bool x5) (v12 := .int .i64 H) r1s0_4
            have far : ∀ k T cs, Own V0_4 k T cs → k ≠ W3.heap.size → Own (sets13 V0_4 (W3.heap.size) (.bool y0) (.bool y1) (.bool y2) (.bool y3) (.bool y4) (.bool y5) (.bool x0) (.bool x1) (.bool x2) (.bool x3) (.bool x4) (.bool x5) (.int .i64 H)) k T cs := fun _ _ _ h hk => sets13_far h hk
            have oAs1_4 := far _ _ _ oAs0_4 (by omega)
            have oBs1_4 := far _ _ _ oBs0_4 (by omega)
            have oXs1_4 := far _ _ _ oXs0_4 (by omega)
            have oYs1_4 := far _ _ _ oYs0_4 (by omega)
            have r0s1_4 := far _ _ _ qs0_4 (by omega)
            have bbs1_4 := sets13_below (g := W3.heap.size) (v0 := .bool y0) (v1 := .bool y1) (v2 := .bool y2) (v3 := .bool y3) (v4 := .bool y4) (v5 := .bool y5) (v6 := .bool x0) (v7 := .bool x1) (v8 := .bool x2) (v9 := .bool x3) (v10 := .bool x4) (v11 := .bool x5) (v12 := .int .i64 H) bbs0_4 (by omega)
            clear far z0 y0_ z1 y1_ z2 y2_ z3 y3_ z4 y4_ z5 y5_ z6 y6_ z7 y7_ z8 y8_ z9 y9_ z10 y10_ z11 y11_ z12 y12_ qs0_4 r1s0_4
            generalize hges1_4 : sets13 V0_4 (W3.heap.size) (.bool y0) (.bool y1) (.bool y2) (.bool y3) (.bool y4) (.bool y5) (.bool x0) (.bool x1) (.bool x2) (.bool x3) (.bool x4) (.bool x5) (.int .i64 H) = V1_4 at *
            clear hges1_4
            refine hK.out _ _ ⟨⟨oAs1_4, oBs1_4⟩, oXs1_4, oYs1_4⟩ (fun hHeld2 => ?_)
            clear hK K hHeld
            have hHeld := hHeld2
            clear hHeld2
            try simp only [Act.put, List.getElem_toArray, List.getElem_cons_zero, List.getElem_cons_succ, List.setIfInBounds_toArray, List.set_cons_zero, List.set_cons_succ]
            refine wpAnyH_done (by kernel_rfl) ?_ _
            try refine NoPanic.normal ?_
            go_wp2_with fail
            go_meet
            exact ⟨W2.heap.size, W3.heap.size, rfl, rfl, r0s1_4, qs1_4, bbs1_4⟩
          · go_simp
            have hx5 := bl_alloc (bl_refl W2) (.cells #[.bool false, .bool false, .bool false, .bool false, .bool false, .bool false, .bool false, .bool false, .bool false, .bool false, .bool false, .bool false, .int .i64 0] 75)
            have b1_5 := Own.new W2 75 #[.bool false, .bool false, .bool false, .bool false, .bool false, .bool false, .bool false, .bool false, .bool false, .bool false, .bool false, .bool false, .int .i64 0]
            have hlo5 := bb2.size
            have hloA5 := oA2.lt
            have hloB5 := oB2.lt
            have hloX5 := oX2.lt
            have hloY5 := oY2.lt
            have oA5 := oA2.step hx5
            have oB5 := oB2.step hx5
            have oX5 := oX2.step hx5
            have oY5 := oY2.step hx5
            have bb5 := bl_trans bb2 hx5
            generalize hgx5 : (W2.alloc (.cells #[.bool false, .bool false, .bool false, .bool false, .bool false, .bool false, .bool false, .bool false, .bool false, .bool false, .bool false, .bool false, .int .i64 0] 75)) = W5 at *
            clear hgx5
            refine hK.out _ _ ⟨⟨oA5, oB5⟩, oX5, oY5⟩ (fun hHeld2 => ?_)
            clear hK K hHeld
            have hHeld := hHeld2
            clear hHeld2
            try simp only [Act.put, List.getElem_toArray, List.getElem_cons_zero, List.getElem_cons_succ, List.setIfInBounds_toArray, List.set_cons_zero, List.set_cons_succ]
            refine wpAnyH_ready (rs := [6]) (by kernel_rfl) (by simp) ?_
            refine (AllReadyH.cons rfl (fun K hK => ?_) AllReadyH.nil)
            go_simp
            have hx6 := bl_alloc (bl_refl W5) (.cells #[.bool false, .bool false, .bool false, .bool false, .bool false, .bool false, .bool false, .bool false, .bool false, .bool false, .bool false, .bool false, .int .i64 0] 75)
            have b0_6 := Own.new W5 75 #[.bool false, .bool false, .bool false, .bool false, .bool false, .bool false, .bool false, .bool false, .bool false, .bool false, .bool false, .bool false, .int .i64 0]
            have hne6_1 : W2.heap.size ≠ W5.heap.size := by have := b1_5.lt; omega
            have hlo6 := bb5.size
            have hloA6 := oA5.lt
            have hloB6 := oB5.lt
            have hloX6 := oX5.lt
            have hloY6 := oY5.lt
            have oA6 := oA5.step hx6
            have oB6 := oB5.step hx6
            have oX6 := oX5.step hx6
            have oY6 := oY5.step hx6
            have b1_6 := b1_5.step hx6
            have bb6 := bl_trans bb5 hx6
            generalize hgx6 : (W5.alloc (.cells #[.bool false, .bool false, .bool false, .bool false, .bool false, .bool false, .bool false, .bool false, .bool false, .bool false, .bool false, .bool false, .int .i64 0] 75)) = W6 at *
            clear hgx6
            refine hK.out _ _ ⟨⟨oA6, oB6⟩, oX6, oY6⟩ (fun hHeld2 => ?_)
            clear hK K hHeld
            have hHeld := hHeld2
            clear hHeld2
            try simp only [Act.put, List.getElem_toArray, List.getElem_cons_zero, List.getElem_cons_succ, List.setIfInBounds_toArray, List.set_cons_zero, List.set_cons_succ]
            refine wpAnyH_ready (rs := [8]) (by kernel_rfl) (by simp) ?_
            refine (AllReadyH.cons rfl (fun K hK => ?_) AllReadyH.nil)
            have z0 := b0_6.frozen 0
            have z1 := b0_6.frozen 1
            have z2 := b0_6.frozen 2
            have z3 := b0_6.frozen 3
            have z4 := b0_6.frozen 4
            have z5 := b0_6.frozen 5
            have z6 := b0_6.frozen 6
            have z7 := b0_6.frozen 7
            have z8 := b0_6.frozen 8
            have z9 := b0_6.frozen 9
            have z10 := b0_6.frozen 10
            have z11 := b0_6.frozen 11
            have z12 := b0_6.frozen 12
            obtain ⟨y0_, y1_, y2_, y3_, y4_, y5_, y6_, y7_, y8_, y9_, y10_, y11_, y12_⟩ := own_13 b0_6
            go_simp
            rw [show (((((((((((((W6.setCell ⟨W5.heap.size, 0, none⟩ (.bool x0)).setCell ⟨W5.heap.size, 1, none⟩ (.bool x1)).setCell ⟨W5.heap.size, 2, none⟩ (.bool x2)).setCell ⟨W5.heap.size, 3, none⟩ (.bool x3)).setCell ⟨W5.heap.size, 4, none⟩ (.bool x4)).setCell ⟨W5.heap.size, 5, none⟩ (.bool x5)).setCell ⟨W5.heap.size, 6, none⟩ (.bool y0)).setCell ⟨W5.heap.size, 7, none⟩ (.bool y1)).setCell ⟨W5.heap.size, 8, none⟩ (.bool y2)).setCell ⟨W5.heap.size, 9, none⟩ (.bool y3)).setCell ⟨W5.heap.size, 10, none⟩ (.bool y4)).setCell ⟨W5.heap.size, 11, none⟩ (.bool y5)).setCell ⟨W5.heap.size, 12, none⟩ (.int .i64 H)) = sets13 W6 (W5.heap.size) (.bool x0) (.bool x1) (.bool x2) (.bool x3) (.bool x4) (.bool x5) (.bool y0) (.bool y1) (.bool y2) (.bool y3) (.bool y4) (.bool y5) (.int .i64 H) from rfl]
            have qs0_6 := sets13_own (v0 := .bool x0) (v1 := .bool x1) (v2 := .bool x2) (v3 := .bool x3) (v4 := .bool x4) (v5 := .bool x5) (v6 := .bool y0) (v7 := .bool y1) (v8 := .bool y2) (v9 := .bool y3) (v10 := .bool y4) (v11 := .bool y5) (v12 := .int .i64 H) b0_6
            have far : ∀ k T cs, Own W6 k T cs → k ≠ W5.heap.size → Own (sets13 W6 (W5.heap.size) (.bool x0) (.bool x1) (.bool x2) (.bool x3) (.bool x4) (.bool x5) (.bool y0) (.bool y1) (.bool y2) (.bool y3) (.bool y4) (.bool y5) (.int .i64 H)) k T cs := fun _ _ _ h hk => sets13_far h hk
            have oAs0_6 := far _ _ _ oA6 (by omega)
            have oBs0_6 := far _ _ _ oB6 (by omega)
            have oXs0_6 := far _ _ _ oX6 (by omega)
            have oYs0_6 := far _ _ _ oY6 (by omega)
            have r1s0_6 := far _ _ _ b1_6 (by omega)
            have bbs0_6 := sets13_below (g := W5.heap.size) (v0 := .bool x0) (v1 := .bool x1) (v2 := .bool x2) (v3 := .bool x3) (v4 := .bool x4) (v5 := .bool x5) (v6 := .bool y0) (v7 := .bool y1) (v8 := .bool y2) (v9 := .bool y3) (v10 := .bool y4) (v11 := .bool y5) (v12 := .int .i64 H) bb6 (by omega)
            clear far z0 y0_ z1 y1_ z2 y2_ z3 y3_ z4 y4_ z5 y5_ z6 y6_ z7 y7_ z8 y8_ z9 y9_ z10 y10_ z11 y11_ z12 y12_ b0_6 b1_6
            generalize hges0_6 : sets13 W6 (W5.heap.size) (.bool x0) (.bool x1) (.bool x2) (.bool x3) (.bool x4) (.bool x5) (.bool y0) (.bool y1) (.bool y2) (.bool y3) (.bool y4) (.bool y5) (.int .i64 H) = V0_6 at *
            clear hges0_6
            refine hK.out _ _ ⟨⟨oAs0_6, oBs0_6⟩, oXs0_6, oYs0_6⟩ (fun hHeld2 => ?_)
            clear hK K hHeld
            have hHeld := hHeld2
            clear hHeld2
            try simp only [Act.put, List.getElem_toArray, List.getElem_cons_zero, List.getElem_cons_succ, List.setIfInBounds_toArray, List.set_cons_zero, List.set_cons_succ]
            refine wpAnyH_ready (rs := [9]) (by kernel_rfl) (by simp) ?_
            refine (AllReadyH.cons rfl (fun K hK => ?_) AllReadyH.nil)
            have z0 := r1s0_6.frozen 0
            have z1 := r1s0_6.frozen 1
            have z2 := r1s0_6.frozen 2
            have z3 := r1s0_6.frozen 3
            have z4 := r1s0_6.frozen 4
            have z5 := r1s0_6.frozen 5
            have z6 := r1s0_6.frozen 6
            have z7 := r1s0_6.frozen 7
            have z8 := r1s0_6.frozen 8
            have z9 := r1s0_6.frozen 9
            have z10 := r1s0_6.frozen 10
            have z11 := r1s0_6.frozen 11
            have z12 := r1s0_6.frozen 12
            obtain ⟨y0_, y1_, y2_, y3_, y4_, y5_, y6_, y7_, y8_, y9_, y10_, y11_, y12_⟩ := own_13 r1s0_6
            go_simp
            rw [show (((((((((((((V0_6.setCell ⟨W2.heap.size, 0, none⟩ (.bool y0)).setCell ⟨W2.heap.size, 1, none⟩ (.bool y1)).setCell ⟨W2.heap.size, 2, none⟩ (.bool y2)).setCell ⟨W2.heap.size, 3, none⟩ (.bool y3)).setCell ⟨W2.heap.size, 4, none⟩ (.bool y4)).setCell ⟨W2.heap.size, 5, none⟩ (.bool y5)).setCell ⟨W2.heap.size, 6, none⟩ (.bool x0)).setCell ⟨W2.heap.size, 7, none⟩ (.bool x1)).setCell ⟨W2.heap.size, 8, none⟩ (.bool x2)).setCell ⟨W2.heap.size, 9, none⟩ (.bool x3)).setCell ⟨W2.heap.size, 10, none⟩ (.bool x4)).setCell ⟨W2.heap.size, 11, none⟩ (.bool x5)).setCell ⟨W2.heap.size, 12, none⟩ (.int .i64 H)) = sets13 V0_6 (W2.heap.size) (.bool y0) (.bool y1) (.bool y2) (.bool y3) (.bool y4) (.bool y5) (.bool x0) (.bool x1) (.bool x2) (.bool x3) (.bool x4) (.bool x5) (.int .i64 H) from rfl]
            have qs1_6 := sets13_own (v0 := .bool y0) (v1 := .bool y1) (v2 := .bool y2) (v3 := .bool y3) (v4 := .bool y4) (v5 := .bool y5) (v6 := .bool x0) (v7 := .bool x1) (v8 := .bool x2) (v9 := .bool x3) (v10 := .bool x4) (v11 := .bool x5) (v12 := .int .i64 H) r1s0_6
            have far : ∀ k T cs, Own V0_6 k T cs → k ≠ W2.heap.size → Own (sets13 V0_6 (W2.heap.size) (.bool y0) (.bool y1) (.bool y2) (.bool y3) (.bool y4) (.bool y5) (.bool x0) (.bool x1) (.bool x2) (.bool x3) (.bool x4) (.bool x5) (.int .i64 H)) k T cs := fun _ _ _ h hk => sets13_far h hk
            have oAs1_6 := far _ _ _ oAs0_6 (by omega)
            have oBs1_6 := far _ _ _ oBs0_6 (by omega)
            have oXs1_6 := far _ _ _ oXs0_6 (by omega)
            have oYs1_6 := far _ _ _ oYs0_6 (by omega)
            have r0s1_6 := far _ _ _ qs0_6 (by omega)
            have bbs1_6 := sets13_below (g := W2.heap.size) (v0 := .bool y0) (v1 := .bool y1) (v2 := .bool y2) (v3 := .bool y3) (v4 := .bool y4) (v5 := .bool y5) (v6 := .bool x0) (v7 := .bool x1) (v8 := .bool x2) (v9 := .bool x3) (v10 := .bool x4) (v11 := .bool x5) (v12 := .int .i64 H) bbs0_6 (by omega)
            clear far z0 y0_ z1 y1_ z2 y2_ z3 y3_ z4 y4_ z5 y5_ z6 y6_ z7 y7_ z8 y8_ z9 y9_ z10 y10_ z11 y11_ z12 y12_ qs0_6 r1s0_6
            generalize hges1_6 : sets13 V0_6 (W2.heap.size) (.bool y0) (.bool y1) (.bool y2) (.bool y3) (.bool y4) (.bool y5) (.bool x0) (.bool x1) (.bool x2) (.bool x3) (.bool x4) (.bool x5) (.int .i64 H) = V1_6 at *
            clear hges1_6
            refine hK.out _ _ ⟨⟨oAs1_6, oBs1_6⟩, oXs1_6, oYs1_6⟩ (fun hHeld2 => ?_)
            clear hK K hHeld
            have hHeld := hHeld2
            clear hHeld2
            try simp only [Act.put, List.getElem_toArray, List.getElem_cons_zero, List.getElem_cons_succ, List.setIfInBounds_toArray, List.set_cons_zero, List.set_cons_succ]
            refine wpAnyH_done (by kernel_rfl) ?_ _
            try refine NoPanic.normal ?_
            go_wp2_with fail
            go_meet
            exact ⟨W5.heap.size, W2.heap.size, rfl, rfl, r0s1_6, qs1_6, bbs1_6⟩
        · go_simp
          have hx7 := bl_alloc (bl_refl W1) (.cells #[.bool false, .bool false, .bool false, .bool false, .bool false, .bool false, .bool false, .bool false, .bool false, .bool false, .bool false, .bool false, .int .i64 0] 75)
          have b0_7 := Own.new W1 75 #[.bool false, .bool false, .bool false, .bool false, .bool false, .bool false, .bool false, .bool false, .bool false, .bool false, .bool false, .bool false, .int .i64 0]
          have hlo7 := bb1.size
          have hloA7 := oA1.lt
          have hloB7 := oB1.lt
          have hloX7 := oX1.lt
          have hloY7 := oY1.lt
          have oA7 := oA1.step hx7
          have oB7 := oB1.step hx7
          have oX7 := oX1.step hx7
          have oY7 := oY1.step hx7
          have bb7 := bl_trans bb1 hx7
          generalize hgx7 : (W1.alloc (.cells #[.bool false, .bool false, .bool false, .bool false, .bool false, .bool false, .bool false, .bool false, .bool false, .bool false, .bool false, .bool false, .int .i64 0] 75)) = W7 at *
          clear hgx7
          refine hK.out _ _ ⟨⟨oA7, oB7⟩, oX7, oY7⟩ (fun hHeld2 => ?_)
          clear hK K hHeld
          have hHeld := hHeld2
          clear hHeld2
          try simp only [Act.put, List.getElem_toArray, List.getElem_cons_zero, List.getElem_cons_succ, List.setIfInBounds_toArray, List.set_cons_zero, List.set_cons_succ]
          refine wpAnyH_ready (rs := [5, 7]) (by kernel_rfl) (by simp) ?_
          refine (AllReadyH.cons rfl (fun K hK => ?_) (AllReadyH.cons rfl (fun K hK => ?_) AllReadyH.nil))
          · go_simp
            go_at_call 45
            refine (hO2.out W7 bb7).mono ?_
            rintro e W8 ⟨rfl, hx8⟩
            have oA8 := oA7.step hx8
            have oB8 := oB7.step hx8
            have oX8 := oX7.step hx8
            have oY8 := oY7.step hx8
            have b0_8 := b0_7.step hx8
            have bb8 := bl_trans bb7 hx8
            refine hK.out _ _ ⟨⟨oA8, oB8⟩, oX8, oY8⟩ (fun hHeld2 => ?_)
            clear hK K hHeld
            have hHeld := hHeld2
            clear hHeld2
            try simp only [Act.put, List.getElem_toArray, List.getElem_cons_zero, List.getElem_cons_succ, List.setIfInBounds_toArray, List.set_cons_zero, List.set_cons_succ]
            refine wpAnyH_ready (rs := [7]) (by kernel_rfl) (by simp) ?_
            refine (AllReadyH.cons rfl (fun K hK => ?_) AllReadyH.nil)
            go_simp
            have hx9 := bl_alloc (bl_refl W8) (.cells #[.bool false, .bool false, .bool false, .bool false, .bool false, .bool false, .bool false, .bool false, .bool false, .bool false, .bool false, .bool false, .int .i64 0] 75)
            have b1_9 := Own.new W8 75 #[.bool false, .bool false, .bool false, .bool false, .bool false, .bool false, .bool false, .bool false, .bool false, .bool false, .bool false, .bool false, .int .i64 0]
            have hne9_0 : W1.heap.size ≠ W8.heap.size := by have := b0_8.lt; omega
            have hlo9 := bb8.size
            have hloA9 := oA8.lt
            have hloB9 := oB8.lt
            have hloX9 := oX8.lt
            have hloY9 := oY8.lt
            have oA9 := oA8.step hx9
            have oB9 := oB8.step hx9
            have oX9 := oX8.step hx9
            have oY9 := oY8.step hx9
            have b0_9 := b0_8.step hx9
            have bb9 := bl_trans bb8 hx9
            generalize hgx9 : (W8.alloc (.cells #[.bool false, .bool false, .bool false, .bool false, .bool false, .bool false, .bool false, .bool false, .bool false, .bool false, .bool false, .bool false, .int .i64 0] 75)) = W9 at *
            clear hgx9
            refine hK.out _ _ ⟨⟨oA9, oB9⟩, oX9, oY9⟩ (fun hHeld2 => ?_)
            clear hK K hHeld
            have hHeld := hHeld2
            clear hHeld2
            try simp only [Act.put, List.getElem_toArray, List.getElem_cons_zero, List.getElem_cons_succ, List.setIfInBounds_toArray, List.set_cons_zero, List.set_cons_succ]
            refine wpAnyH_ready (rs := [8]) (by kernel_rfl) (by simp) ?_
            refine (AllReadyH.cons rfl (fun K hK => ?_) AllReadyH.nil)
            have z0 := b0_9.frozen 0
            have z1 := b0_9.frozen 1
            have z2 := b0_9.frozen 2
            have z3 := b0_9.frozen 3
            have z4 := b0_9.frozen 4
            have z5 := b0_9.frozen 5
            have z6 := b0_9.frozen 6
            have z7 := b0_9.frozen 7
            have z8 := b0_9.frozen 8
            have z9 := b0_9.frozen 9
            have z10 := b0_9.frozen 10
            have z11 := b0_9.frozen 11
            have z12 := b0_9.frozen 12
            obtain ⟨y0_, y1_, y2_, y3_, y4_, y5_, y6_, y7_, y8_, y9_, y10_, y11_, y12_⟩ := own_13 b0_9
            go_simp
            rw [show (((((((((((((W9.setCell ⟨W1.heap.size, 0, none⟩ (.bool x0)).setCell ⟨W1.heap.size, 1, none⟩ (.bool x1)).setCell ⟨W1.heap.size, 2, none⟩ (.bool x2)).setCell ⟨W1.heap.size, 3, none⟩ (.bool x3)).setCell ⟨W1.heap.size, 4, none⟩ (.bool x4)).setCell ⟨W1.heap.size, 5, none⟩ (.bool x5)).setCell ⟨W1.heap.size, 6, none⟩ (.bool y0)).setCell ⟨W1.heap.size, 7, none⟩ (.bool y1)).setCell ⟨W1.heap.size, 8, none⟩ (.bool y2)).setCell ⟨W1.heap.size, 9, none⟩ (.bool y3)).setCell ⟨W1.heap.size, 10, none⟩ (.bool y4)).setCell ⟨W1.heap.size, 11, none⟩ (.bool y5)).setCell ⟨W1.heap.size, 12, none⟩ (.int .i64 H)) = sets13 W9 (W1.heap.size) (.bool x0) (.bool x1) (.bool x2) (.bool x3) (.bool x4) (.bool x5) (.bool y0) (.bool y1) (.bool y2) (.bool y3) (.bool y4) (.bool y5) (.int .i64 H) from rfl]
            have qs0_9 := sets13_own (v0 := .bool x0) (v1 := .bool x1) (v2 := .bool x2) (v3 := .bool x3) (v4 := .bool x4) (v5 := .bool x5) (v6 := .bool y0) (v7 := .bool y1) (v8 := .bool y2) (v9 := .bool y3) (v10 := .bool y4) (v11 := .bool y5) (v12 := .int .i64 H) b0_9
            have far : ∀ k T cs, Own W9 k T cs → k ≠ W1.heap.size → Own (sets13 W9 (W1.heap.size) (.bool x0) (.bool x1) (.bool x2) (.bool x3) (.bool x4) (.bool x5) (.bool y0) (.bool y1) (.bool y2) (.bool y3) (.bool y4) (.bool y5) (.int .i64 H)) k T cs := fun _ _ _ h hk => sets13_far h hk
            have oAs0_9 := far _ _ _ oA9 (by omega)
            have oBs0_9 := far _ _ _ oB9 (by omega)
            have oXs0_9 := far _ _ _ oX9 (by omega)
            have oYs0_9 := far _ _ _ oY9 (by omega)
            have r1s0_9 := far _ _ _ b1_9 (by omega)
            have bbs0_9 := sets13_below (g := W1.heap.size) (v0 := .bool x0) (v1 := .bool x1) (v2 := .bool x2) (v3 := .bool x3) (v4 := .bool x4) (v5 := .bool x5) (v6 := .bool y0) (v7 := .bool y1) (v8 := .bool y2) (v9 := .bool y3) (v10 := .bool y4) (v11 := .bool y5) (v12 := .int .i64 H) bb9 (by omega)
            clear far z0 y0_ z1 y1_ z2 y2_ z3 y3_ z4 y4_ z5 y5_ z6 y6_ z7 y7_ z8 y8_ z9 y9_ z10 y10_ z11 y11_ z12 y12_ b0_9 b1_9
            generalize hges0_9 : sets13 W9 (W1.heap.size) (.bool x0) (.bool x1) (.bool x2) (.bool x3) (.bool x4) (.bool x5) (.bool y0) (.bool y1) (.bool y2) (.bool y3) (.bool y4) (.bool y5) (.int .i64 H) = V0_9 at *
            clear hges0_9
            refine hK.out _ _ ⟨⟨oAs0_9, oBs0_9⟩, oXs0_9, oYs0_9⟩ (fun hHeld2 => ?_)
            clear hK K hHeld
            have hHeld := hHeld2
            clear hHeld2
            try simp only [Act.put, List.getElem_toArray, List.getElem_cons_zero, List.getElem_cons_succ, List.setIfInBounds_toArray, List.set_cons_zero, List.set_cons_succ]
            refine wpAnyH_ready (rs := [9]) (by kernel_rfl) (by simp) ?_
            refine (AllReadyH.cons rfl (fun K hK => ?_) AllReadyH.nil)
            have z0 := r1s0_9.frozen 0
            have z1 := r1s0_9.frozen 1
            have z2 := r1s0_9.frozen 2
            have z3 := r1s0_9.frozen 3
            have z4 := r1s0_9.frozen 4
            have z5 := r1s0_9.frozen 5
            have z6 := r1s0_9.frozen 6
            have z7 := r1s0_9.frozen 7
            have z8 := r1s0_9.frozen 8
            have z9 := r1s0_9.frozen 9
            have z10 := r1s0_9.frozen 10
            have z11 := r1s0_9.frozen 11
            have z12 := r1s0_9.frozen 12
            obtain ⟨y0_, y1_, y2_, y3_, y4_, y5_, y6_, y7_, y8_, y9_, y10_, y11_, y12_⟩ := own_13 r1s0_9
            go_simp
            rw [show (((((((((((((V0_9.setCell ⟨W8.heap.size, 0, none⟩ (.bool y0)).setCell ⟨W8.heap.size, 1, none⟩ (.bool y1)).setCell ⟨W8.heap.size, 2, none⟩ (.bool y2)).setCell ⟨W8.heap.size, 3, none⟩ (.bool y3)).setCell ⟨W8.heap.size, 4, none⟩ (.bool y4)).setCell ⟨W8.heap.size, 5, none⟩ (.bool y5)).setCell ⟨W8.heap.size, 6, none⟩ (.bool x0)).setCell ⟨W8.heap.size, 7, none⟩ (.bool x1)).setCell ⟨W8.heap.size, 8, none⟩ (.bool x2)).setCell ⟨W8.heap.size, 9, none⟩ (.bool x3)).setCell ⟨W8.heap.size, 10, none⟩ (.bool x4)).setCell ⟨W8.heap.size, 11, none⟩ (.bool x5)).setCell ⟨W8.heap.size, 12, none⟩ (.int .i64 H)) = sets13 V0_9 (W8.heap.size) (.bool y0) (.bool y1) (.bool y2) (.bool y3) (.bool y4) (.bool y5) (.bool x0) (.bool x1) (.bool x2) (.bool x3) (.bool x4) (.bool x5) (.int .i64 H) from rfl]
            have qs1_9 := sets13_own (v0 := .bool y0) (v1 := .bool y1) (v2 := .bool y2) (v3 := .bool y3) (v4 := .bool y4) (v5 := .bool y5) (v6 := .bool x0) (v7 := .bool x1) (v8 := .bool x2) (v9 := .bool x3) (v10 := .bool x4) (v11 := .bool x5) (v12 := .int .i64 H) r1s0_9
            have far : ∀ k T cs, Own V0_9 k T cs → k ≠ W8.heap.size → Own (sets13 V0_9 (W8.heap.size) (.bool y0) (.bool y1) (.bool y2) (.bool y3) (.bool y4) (.bool y5) (.bool x0) (.bool x1) (.bool x2) (.bool x3) (.bool x4) (.bool x5) (.int .i64 H)) k T cs := fun _ _ _ h hk => sets13_far h hk
            have oAs1_9 := far _ _ _ oAs0_9 (by omega)
            have oBs1_9 := far _ _ _ oBs0_9 (by omega)
            have oXs1_9 := far _ _ _ oXs0_9 (by omega)
            have oYs1_9 := far _ _ _ oYs0_9 (by omega)
            have r0s1_9 := far _ _ _ qs0_9 (by omega)
            have bbs1_9 := sets13_below (g := W8.heap.size) (v0 := .bool y0) (v1 := .bool y1) (v2 := .bool y2) (v3 := .bool y3) (v4 := .bool y4) (v5 := .bool y5) (v6 := .bool x0) (v7 := .bool x1) (v8 := .bool x2) (v9 := .bool x3) (v10 := .bool x4) (v11 := .bool x5) (v12 := .int .i64 H) bbs0_9 (by omega)
            clear far z0 y0_ z1 y1_ z2 y2_ z3 y3_ z4 y4_ z5 y5_ z6 y6_ z7 y7_ z8 y8_ z9 y9_ z10 y10_ z11 y11_ z12 y12_ qs0_9 r1s0_9
            generalize hges1_9 : sets13 V0_9 (W8.heap.size) (.bool y0) (.bool y1) (.bool y2) (.bool y3) (.bool y4) (.bool y5) (.bool x0) (.bool x1) (.bool x2) (.bool x3) (.bool x4) (.bool x5) (.int .i64 H) = V1_9 at *
            clear hges1_9
            refine hK.out _ _ ⟨⟨oAs1_9, oBs1_9⟩, oXs1_9, oYs1_9⟩ (fun hHeld2 => ?_)
            clear hK K hHeld
            have hHeld := hHeld2
            clear hHeld2
            try simp only [Act.put, List.getElem_toArray, List.getElem_cons_zero, List.getElem_cons_succ, List.setIfInBounds_toArray, List.set_cons_zero, List.set_cons_succ]
            refine wpAnyH_done (by kernel_rfl) ?_ _
            try refine NoPanic.normal ?_
            go_wp2_with fail
            go_meet
            exact ⟨W1.heap.size, W8.heap.size, rfl, rfl, r0s1_9, qs1_9, bbs1_9⟩
          · go_simp
            have hx10 := bl_alloc (bl_refl W7) (.cells #[.bool false, .bool false, .bool false, .bool false, .bool false, .bool false, .bool false, .bool false, .bool false, .bool false, .bool false, .bool false, .int .i64 0] 75)
            have b1_10 := Own.new W7 75 #[.bool false, .bool false, .bool false, .bool false, .bool false, .bool false, .bool false, .bool false, .bool false, .bool false, .bool false, .bool false, .int .i64 0]
            have hne10_0 : W1.heap.size ≠ W7.heap.size := by have := b0_7.lt; omega
            have hlo10 := bb7.size
            have hloA10 := oA7.lt
            have hloB10 := oB7.lt
            have hloX10 := oX7.lt
            have hloY10 := oY7.lt
            have oA10 := oA7.step hx10
            have oB10 := oB7.step hx10
            have oX10 := oX7.step hx10
            have oY10 := oY7.step hx10
            have b0_10 := b0_7.step hx10
            have bb10 := bl_trans bb7 hx10
            generalize hgx10 : (W7.alloc (.cells #[.bool false, .bool false, .bool false, .bool false, .bool false, .bool false, .bool false, .bool false, .bool false, .bool false, .bool false, .bool false, .int .i64 0] 75)) = W10 at *
            clear hgx10
            refine hK.out _ _ ⟨⟨oA10, oB10⟩, oX10, oY10⟩ (fun hHeld2 => ?_)
            clear hK K hHeld
            have hHeld := hHeld2
            clear hHeld2
            try simp only [Act.put, List.getElem_toArray, List.getElem_cons_zero, List.getElem_cons_succ, List.setIfInBounds_toArray, List.set_cons_zero, List.set_cons_succ]
            refine wpAnyH_ready (rs := [5]) (by kernel_rfl) (by simp) ?_
            refine (AllReadyH.cons rfl (fun K hK => ?_) AllReadyH.nil)
            go_simp
            go_at_call 45
            refine (hO2.out W10 bb10).mono ?_
            rintro e W11 ⟨rfl, hx11⟩
            have oA11 := oA10.step hx11
            have oB11 := oB10.step hx11
            have oX11 := oX10.step hx11
            have oY11 := oY10.step hx11
            have b0_11 := b0_10.step hx11
            have b1_11 := b1_10.step hx11
            have bb11 := bl_trans bb10 hx11
            refine hK.out _ _ ⟨⟨oA11, oB11⟩, oX11, oY11⟩ (fun hHeld2 => ?_)
            clear hK K hHeld
            have hHeld := hHeld2
            clear hHeld2
            try simp only [Act.put, List.getElem_toArray, List.getElem_cons_zero, List.getElem_cons_succ, List.setIfInBounds_toArray, List.set_cons_zero, List.set_cons_succ]
            refine wpAnyH_ready (rs := [8]) (by kernel_rfl) (by simp) ?_
            refine (AllReadyH.cons rfl (fun K hK => ?_) AllReadyH.nil)
            have z0 := b0_11.frozen 0
            have z1 := b0_11.frozen 1
            have z2 := b0_11.frozen 2
            have z3 := b0_11.frozen 3
            have z4 := b0_11.frozen 4
            have z5 := b0_11.frozen 5
            have z6 := b0_11.frozen 6
            have z7 := b0_11.frozen 7
            have z8 := b0_11.frozen 8
            have z9 := b0_11.frozen 9
            have z10 := b0_11.frozen 10
            have z11 := b0_11.frozen 11
            have z12 := b0_11.frozen 12
            obtain ⟨y0_, y1_, y2_, y3_, y4_, y5_, y6_, y7_, y8_, y9_, y10_, y11_, y12_⟩ := own_13 b0_11
            go_simp
            rw [show (((((((((((((W11.setCell ⟨W1.heap.size, 0, none⟩ (.bool x0)).setCell ⟨W1.heap.size, 1, none⟩ (.bool x1)).setCell ⟨W1.heap.size, 2, none⟩ (.bool x2)).setCell ⟨W1.heap.size, 3, none⟩ (.bool x3)).setCell ⟨W1.heap.size, 4, none⟩ (.bool x4)).setCell ⟨W1.heap.size, 5, none⟩ (.bool x5)).setCell ⟨W1.heap.size, 6, none⟩ (.bool y0)).setCell ⟨W1.heap.size, 7, none⟩ (.bool y1)).setCell ⟨W1.heap.size, 8, none⟩ (.bool y2)).setCell ⟨W1.heap.size, 9, none⟩ (.bool y3)).setCell ⟨W1.heap.size, 10, none⟩ (.bool y4)).setCell ⟨W1.heap.size, 11, none⟩ (.bool y5)).setCell ⟨W1.heap.size, 12, none⟩ (.int .i64 H)) = sets13 W11 (W1.heap.size) (.bool x0) (.bool x1) (.bool x2) (.bool x3) (.bool x4) (.bool x5) (.bool y0) (.bool y1) (.bool y2) (.bool y3) (.bool y4) (.bool y5) (.int .i64 H) from rfl]
            have qs0_11 := sets13_own (v0 := .bool x0) (v1 := .bool x1) (v2 := .bool x2) (v3 := .bool x3) (v4 := .bool x4) (v5 := .bool x5) (v6 := .bool y0) (v7 := .bool y1) (v8 := .bool y2) (v9 := .bool y3) (v10 := .bool y4) (v11 := .bool y5) (v12 := .int .i64 H) b0_11
            have far : ∀ k T cs, Own W11 k T cs → k ≠ W1.heap.size → Own (sets13 W11 (W1.heap.size) (.bool x0) (.bool x1) (.bool x2) (.bool x3) (.bool x4) (.bool x5) (.bool y0) (.bool y1) (.bool y2) (.bool y3) (.bool y4) (.bool y5) (.int .i64 H)) k T cs := fun _ _ _ h hk => sets13_far h hk
            have oAs0_11 := far _ _ _ oA11 (by omega)
            have oBs0_11 := far _ _ _ oB11 (by omega)
            have oXs0_11 := far _ _ _ oX11 (by omega)
            have oYs0_11 := far _ _ _ oY11 (by omega)
            have r1s0_11 := far _ _ _ b1_11 (by omega)
            have bbs0_11 := sets13_below (g := W1.heap.size) (v0 := .bool x0) (v1 := .bool x1) (v2 := .bool x2) (v3 := .bool x3) (v4 := .bool x4) (v5 := .bool x5) (v6 := .bool y0) (v7 := .bool y1) (v8 := .bool y2) (v9 := .bool y3) (v10 := .bool y4) (v11 := .bool y5) (v12 := .int .i64 H) bb11 (by omega)
            clear far z0 y0_ z1 y1_ z2 y2_ z3 y3_ z4 y4_ z5 y5_ z6 y6_ z7 y7_ z8 y8_ z9 y9_ z10 y10_ z11 y11_ z12 y12_ b0_11 b1_11
            generalize hges0_11 : sets13 W11 (W1.heap.size) (.bool x0) (.bool x1) (.bool x2) (.bool x3) (.bool x4) (.bool x5) (.bool y0) (.bool y1) (.bool y2) (.bool y3) (.bool y4) (.bool y5) (.int .i64 H) = V0_11 at *
            clear hges0_11
            refine hK.out _ _ ⟨⟨oAs0_11, oBs0_11⟩, oXs0_11, oYs0_11⟩ (fun hHeld2 => ?_)
            clear hK K hHeld
            have hHeld := hHeld2
            clear hHeld2
            try simp only [Act.put, List.getElem_toArray, List.getElem_cons_zero, List.getElem_cons_succ, List.setIfInBounds_toArray, List.set_cons_zero, List.set_cons_succ]
            refine wpAnyH_ready (rs := [9]) (by kernel_rfl) (by simp) ?_
            refine (AllReadyH.cons rfl (fun K hK => ?_) AllReadyH.nil)
            have z0 := r1s0_11.frozen 0
            have z1 := r1s0_11.frozen 1
            have z2 := r1s0_11.frozen 2
            have z3 := r1s0_11.frozen 3
            have z4 := r1s0_11.frozen 4
            have z5 := r1s0_11.frozen 5
            have z6 := r1s0_11.frozen 6
            have z7 := r1s0_11.frozen 7
            have z8 := r1s0_11.frozen 8
            have z9 := r1s0_11.frozen 9
            have z10 := r1s0_11.frozen 10
            have z11 := r1s0_11.frozen 11
            have z12 := r1s0_11.frozen 12
            obtain ⟨y0_, y1_, y2_, y3_, y4_, y5_, y6_, y7_, y8_, y9_, y10_, y11_, y12_⟩ := own_13 r1s0_11
            go_simp
            rw [show (((((((((((((V0_11.setCell ⟨W7.heap.size, 0, none⟩ (.bool y0)).setCell ⟨W7.heap.size, 1, none⟩ (.bool y1)).setCell ⟨W7.heap.size, 2, none⟩ (.bool y2)).setCell ⟨W7.heap.size, 3, none⟩ (.bool y3)).setCell ⟨W7.heap.size, 4, none⟩ (.bool y4)).setCell ⟨W7.heap.size, 5, none⟩ (.bool y5)).setCell ⟨W7.heap.size, 6, none⟩ (.bool x0)).setCell ⟨W7.heap.size, 7, none⟩ (.bool x1)).setCell ⟨W7.heap.size, 8, none⟩ (.bool x2)).setCell ⟨W7.heap.size, 9, none⟩ (.bool x3)).setCell ⟨W7.heap.size, 10, none⟩ (.bool x4)).setCell ⟨W7.heap.size, 11, none⟩ (.bool x5)).setCell ⟨W7.heap.size, 12, none⟩ (.int .i64 H)) = sets13 V0_11 (W7.heap.size) (.bool y0) (.bool y1) (.bool y2) (.bool y3) (.bool y4) (.bool y5) (.bool x0) (.bool x1) (.bool x2) (.bool x3) (.bool x4) (.bool x5) (.int .i64 H) from rfl]
            have qs1_11 := sets13_own (v0 := .bool y0) (v1 := .bool y1) (v2 := .bool y2) (v3 := .bool y3) (v4 := .bool y4) (v5 := .bool y5) (v6 := .bool x0) (v7 := .bool x1) (v8 := .bool x2) (v9 := .bool x3) (v10 := .bool x4) (v11 := .bool x5) (v12 := .int .i64 H) r1s0_11
            have far : ∀ k T cs, Own V0_11 k T cs → k ≠ W7.heap.size → Own (sets13 V0_11 (W7.heap.size) (.bool y0) (.bool y1) (.bool y2) (.bool y3) (.bool y4) (.bool y5) (.bool x0) (.bool x1) (.bool x2) (.bool x3) (.bool x4) (.bool x5) (.int .i64 H)) k T cs := fun _ _ _ h hk => sets13_far h hk
            have oAs1_11 := far _ _ _ oAs0_11 (by omega)
            have oBs1_11 := far _ _ _ oBs0_11 (by omega)
            have oXs1_11 := far _ _ _ oXs0_11 (by omega)
            have oYs1_11 := far _ _ _ oYs0_11 (by omega)
            have r0s1_11 := far _ _ _ qs0_11 (by omega)
            have bbs1_11 := sets13_below (g := W7.heap.size) (v0 := .bool y0) (v1 := .bool y1) (v2 := .bool y2) (v3 := .bool y3) (v4 := .bool y4) (v5 := .bool y5) (v6 := .bool x0) (v7 := .bool x1) (v8 := .bool x2) (v9 := .bool x3) (v10 := .bool x4) (v11 := .bool x5) (v12 := .int .i64 H) bbs0_11 (by omega)
            clear far z0 y0_ z1 y1_ z2 y2_ z3 y3_ z4 y4_ z5 y5_ z6 y6_ z7 y7_ z8 y8_ z9 y9_ z10 y10_ z11 y11_ z12 y12_ qs0_11 r1s0_11
            generalize hges1_11 : sets13 V0_11 (W7.heap.size) (.bool y0) (.bool y1) (.bool y2) (.bool y3) (.bool y4) (.bool y5) (.bool x0) (.bool x1) (.bool x2) (.bool x3) (.bool x4) (.bool x5) (.int .i64 H) = V1_11 at *
            clear hges1_11
            refine hK.out _ _ ⟨⟨oAs1_11, oBs1_11⟩, oXs1_11, oYs1_11⟩ (fun hHeld2 => ?_)
            clear hK K hHeld
            have hHeld := hHeld2
            clear hHeld2
            try simp only [Act.put, List.getElem_toArray, List.getElem_cons_zero, List.getElem_cons_succ, List.setIfInBounds_toArray, List.set_cons_zero, List.set_cons_succ]
            refine wpAnyH_done (by kernel_rfl) ?_ _
            try refine NoPanic.normal ?_
            go_wp2_with fail
            go_meet
            exact ⟨W1.heap.size, W7.heap.size, rfl, rfl, r0s1_11, qs1_11, bbs1_11⟩
        · go_simp
          have hx12 := bl_alloc (bl_refl W1) (.cells #[.bool false, .bool false, .bool false, .bool false, .bool false, .bool false, .bool false, .bool false, .bool false, .bool false, .bool false, .bool false, .int .i64 0] 75)
          have b1_12 := Own.new W1 75 #[.bool false, .bool false, .bool false, .bool false, .bool false, .bool false, .bool false, .bool false, .bool false, .bool false, .bool false, .bool false, .int .i64 0]
          have hlo12 := bb1.size
          have hloA12 := oA1.lt
          have hloB12 := oB1.lt
          have hloX12 := oX1.lt
          have hloY12 := oY1.lt
          have oA12 := oA1.step hx12
          have oB12 := oB1.step hx12
          have oX12 := oX1.step hx12
          have oY12 := oY1.step hx12
          have bb12 := bl_trans bb1 hx12
          generalize hgx12 : (W1.alloc (.cells #[.bool false, .bool false, .bool false, .bool false, .bool false, .bool false, .bool false, .bool false, .bool false, .bool false, .bool false, .bool false, .int .i64 0] 75)) = W12 at *
          clear hgx12
          refine hK.out _ _ ⟨⟨oA12, oB12⟩, oX12, oY12⟩ (fun hHeld2 => ?_)
          clear hK K hHeld
          have hHeld := hHeld2
          clear hHeld2
          try simp only [Act.put, List.getElem_toArray, List.getElem_cons_zero, List.getElem_cons_succ, List.setIfInBounds_toArray, List.set_cons_zero, List.set_cons_succ]
          refine wpAnyH_ready (rs := [5, 6]) (by kernel_rfl) (by simp) ?_
          refine (AllReadyH.cons rfl (fun K hK => ?_) (AllReadyH.cons rfl (fun K hK => ?_) AllReadyH.nil))
          · go_simp
            go_at_call 45
            refine (hO2.out W12 bb12).mono ?_
            rintro e W13 ⟨rfl, hx13⟩
            have oA13 := oA12.step hx13
            have oB13 := oB12.step hx13
            have oX13 := oX12.step hx13
            have oY13 := oY12.step hx13
            have b1_13 := b1_12.step hx13
            have bb13 := bl_trans bb12 hx13
            refine hK.out _ _ ⟨⟨oA13, oB13⟩, oX13, oY13⟩ (fun hHeld2 => ?_)
            clear hK K hHeld
            have hHeld := hHeld2
            clear hHeld2
            try simp only [Act.put, List.getElem_toArray, List.getElem_cons_zero, List.getElem_cons_succ, List.setIfInBounds_toArray, List.set_cons_zero, List.set_cons_succ]
            refine wpAnyH_ready (rs := [6]) (by kernel_rfl) (by simp) ?_
            refine (AllReadyH.cons rfl (fun K hK => ?_) AllReadyH.nil)
            go_simp
            have hx14 := bl_alloc (bl_refl W13) (.cells #[.bool false, .bool false, .bool false, .bool false, .bool false, .bool false, .bool false, .bool false, .bool false, .bool false, .bool false, .bool false, .int .i64 0] 75)
            have b0_14 := Own.new W13 75 #[.bool false, .bool false, .bool false, .bool false, .bool false, .bool false, .bool false, .bool false, .bool false, .bool false, .bool false, .bool false, .int .i64 0]
            have hne14_1 : W1.heap.size ≠ W13.heap.size := by have := b1_13.lt; omega
            have hlo14 := bb13.size
            have hloA14 := oA13.lt
            have hloB14 := oB13.lt
            have hloX14 := oX13.lt
            have hloY14 := oY13.lt
            have oA14 := oA13.step hx14
            have oB14 := oB13.step hx14
            have oX14 := oX13.step hx14
            have oY14 := oY13.step hx14
            have b1_14 := b1_13.step hx14
            have bb14 := bl_trans bb13 hx14
            generalize hgx14 : (W13.alloc (.cells #[.bool false, .bool false, .bool false, .bool false, .bool false, .bool false, .bool false, .bool false, .bool false, .bool false, .bool false, .bool false, .int .i64 0] 75)) = W14 at *
            clear hgx14
            refine hK.out _ _ ⟨⟨oA14, oB14⟩, oX14, oY14⟩ (fun hHeld2 => ?_)
            clear hK K hHeld
            have hHeld := hHeld2
            clear hHeld2
            try simp only [Act.put, List.getElem_toArray, List.getElem_cons_zero, List.getElem_cons_succ, List.setIfInBounds_toArray, List.set_cons_zero, List.set_cons_succ]
            refine wpAnyH_ready (rs := [8]) (by kernel_rfl) (by simp) ?_
            refine (AllReadyH.cons rfl (fun K hK => ?_) AllReadyH.nil)
            have z0 := b0_14.frozen 0
            have z1 := b0_14.frozen 1
            have z2 := b0_14.frozen 2
            have z3 := b0_14.frozen 3
            have z4 := b0_14.frozen 4
            have z5 := b0_14.frozen 5
            have z6 := b0_14.frozen 6
            have z7 := b0_14.frozen 7
            have z8 := b0_14.frozen 8
            have z9 := b0_14.frozen 9
            have z10 := b0_14.frozen 10
            have z11 := b0_14.frozen 11
            have z12 := b0_14.frozen 12
            obtain ⟨y0_, y1_, y2_, y3_, y4_, y5_, y6_, y7_, y8_, y9_, y10_, y11_, y12_⟩ := own_13 b0_14
            go_simp
            rw [show (((((((((((((W14.setCell ⟨W13.heap.size, 0, none⟩ (.bool x0)).setCell ⟨W13.heap.size, 1, none⟩ (.bool x1)).setCell ⟨W13.heap.size, 2, none⟩ (.bool x2)).setCell ⟨W13.heap.size, 3, none⟩ (.bool x3)).setCell ⟨W13.heap.size, 4, none⟩ (.bool x4)).setCell ⟨W13.heap.size, 5, none⟩ (.bool x5)).setCell ⟨W13.heap.size, 6, none⟩ (.bool y0)).setCell ⟨W13.heap.size, 7, none⟩ (.bool y1)).setCell ⟨W13.heap.size, 8, none⟩ (.bool y2)).setCell ⟨W13.heap.size, 9, none⟩ (.bool y3)).setCell ⟨W13.heap.size, 10, none⟩ (.bool y4)).setCell ⟨W13.heap.size, 11, none⟩ (.bool y5)).setCell ⟨W13.heap.size, 12, none⟩ (.int .i64 H)) = sets13 W14 (W13.heap.size) (.bool x0) (.bool x1) (.bool x2) (.bool x3) (.bool x4) (.bool x5) (.bool y0) (.bool y1) (.bool y2) (.bool y3) (.bool y4) (.bool y5) (.int .i64 H) from rfl]
            have qs0_14 := sets13_own (v0 := .bool x0) (v1 := .bool x1) (v2 := .bool x2) (v3 := .bool x3) (v4 := .bool x4) (v5 := .bool x5) (v6 := .bool y0) (v7 := .bool y1) (v8 := .bool y2) (v9 := .bool y3) (v10 := .bool y4) (v11 := .bool y5) (v12 := .int .i64 H) b0_14
            have far : ∀ k T cs, Own W14 k T cs → k ≠ W13.heap.size → Own (sets13 W14 (W13.heap.size) (.bool x0) (.bool x1) (.bool x2) (.bool x3) (.bool x4) (.bool x5) (.bool y0) (.bool y1) (.bool y2) (.bool y3) (.bool y4) (.bool y5) (.int .i64 H)) k T cs := fun _ _ _ h hk => sets13_far h hk
            have oAs0_14 := far _ _ _ oA14 (by omega)
            have oBs0_14 := far _ _ _ oB14 (by omega)
            have oXs0_14 := far _ _ _ oX14 (by omega)
            have oYs0_14 := far _ _ _ oY14 (by omega)
            have r1s0_14 := far _ _ _ b1_14 (by omega)
            have bbs0_14 := sets13_below (g := W13.heap.size) (v0 := .bool x0) (v1 := .bool x1) (v2 := .bool x2) (v3 := .bool x3) (v4 := .bool x4) (v5 := .bool x5) (v6 := .bool y0) (v7 := .bool y1) (v8 := .bool y2) (v9 := .bool y3) (v10 := .bool y4) (v11 := .bool y5) (v12 := .int .i64 H) bb14 (by omega)
            clear far z0 y0_ z1 y1_ z2 y2_ z3 y3_ z4 y4_ z5 y5_ z6 y6_ z7 y7_ z8 y8_ z9 y9_ z10 y10_ z11 y11_ z12 y12_ b0_14 b1_14
            generalize hges0_14 : sets13 W14 (W13.heap.size) (.bool x0) (.bool x1) (.bool x2) (.bool x3) (.bool x4) (.bool x5) (.bool y0) (.bool y1) (.bool y2) (.bool y3) (.bool y4) (.bool y5) (.int .i64 H) = V0_14 at *
            clear hges0_14
            refine hK.out _ _ ⟨⟨oAs0_14, oBs0_14⟩, oXs0_14, oYs0_14⟩ (fun hHeld2 => ?_)
            clear hK K hHeld
            have hHeld := hHeld2
            clear hHeld2
            try simp only [Act.put, List.getElem_toArray, List.getElem_cons_zero, List.getElem_cons_succ, List.setIfInBounds_toArray, List.set_cons_zero, List.set_cons_succ]
            refine wpAnyH_ready (rs := [9]) (by kernel_rfl) (by simp) ?_
            refine (AllReadyH.cons rfl (fun K hK => ?_) AllReadyH.nil)
            have z0 := r1s0_14.frozen 0
            have z1 := r1s0_14.frozen 1
            have z2 := r1s0_14.frozen 2
            have z3 := r1s0_14.frozen 3
            have z4 := r1s0_14.frozen 4
            have z5 := r1s0_14.frozen 5
            have z6 := r1s0_14.frozen 6
            have z7 := r1s0_14.frozen 7
            have z8 := r1s0_14.frozen 8
            have z9 := r1s0_14.frozen 9
            have z10 := r1s0_14.frozen 10
            have z11 := r1s0_14.frozen 11
            have z12 := r1s0_14.frozen 12
            obtain ⟨y0_, y1_, y2_, y3_, y4_, y5_, y6_, y7_, y8_, y9_, y10_, y11_, y12_⟩ := own_13 r1s0_14
            go_simp
            rw [show (((((((((((((V0_14.setCell ⟨W1.heap.size, 0, none⟩ (.bool y0)).setCell ⟨W1.heap.size, 1, none⟩ (.bool y1)).setCell ⟨W1.heap.size, 2, none⟩ (.bool y2)).setCell ⟨W1.heap.size, 3, none⟩ (.bool y3)).setCell ⟨W1.heap.size, 4, none⟩ (.bool y4)).setCell ⟨W1.heap.size, 5, none⟩ (.bool y5)).setCell ⟨W1.heap.size, 6, none⟩ (.bool x0)).setCell ⟨W1.heap.size, 7, none⟩ (.bool x1)).setCell ⟨W1.heap.size, 8, none⟩ (.bool x2)).setCell ⟨W1.heap.size, 9, none⟩ (.bool x3)).setCell ⟨W1.heap.size, 10, none⟩ (.bool x4)).setCell ⟨W1.heap.size, 11, none⟩ (.bool x5)).setCell ⟨W1.heap.size, 12, none⟩ (.int .i64 H)) = sets13 V0_14 (W1.heap.size) (.bool y0) (.bool y1) (.bool y2) (.bool y3) (.bool y4) (.bool y5) (.bool x0) (.bool x1) (.bool x2) (.bool x3) (.bool x4) (.bool x5) (.int .i64 H) from rfl]
            have qs1_14 := sets13_own (v0 := .bool y0) (v1 := .bool y1) (v2 := .bool y2) (v3 := .bool y3) (v4 := .bool y4) (v5 := .bool y5) (v6 := .bool x0) (v7 := .bool x1) (v8 := .bool x2) (v9 := .bool x3) (v10 := .bool x4) (v11 := .bool x5) (v12 := .int .i64 H) r1s0_14
            have far : ∀ k T cs, Own V0_14 k T cs → k ≠ W1.heap.size → Own (sets13 V0_14 (W1.heap.size) (.bool y0) (.bool y1) (.bool y2) (.bool y3) (.bool y4) (.bool y5) (.bool x0) (.bool x1) (.bool x2) (.bool x3) (.bool x4) (.bool x5) (.int .i64 H)) k T cs := fun _ _ _ h hk => sets13_far h hk
            have oAs1_14 := far _ _ _ oAs0_14 (by omega)
            have oBs1_14 := far _ _ _ oBs0_14 (by omega)
            have oXs1_14 := far _ _ _ oXs0_14 (by omega)
            have oYs1_14 := far _ _ _ oYs0_14 (by omega)
            have r0s1_14 := far _ _ _ qs0_14 (by omega)
            have bbs1_14 := sets13_below (g := W1.heap.size) (v0 := .bool y0) (v1 := .bool y1) (v2 := .bool y2) (v3 := .bool y3) (v4 := .bool y4) (v5 := .bool y5) (v6 := .bool x0) (v7 := .bool x1) (v8 := .bool x2) (v9 := .bool x3) (v10 := .bool x4) (v11 := .bool x5) (v12 := .int .i64 H) bbs0_14 (by omega)
            clear far z0 y0_ z1 y1_ z2 y2_ z3 y3_ z4 y4_ z5 y5_ z6 y6_ z7 y7_ z8 y8_ z9 y9_ z10 y10_ z11 y11_ z12 y12_ qs0_14 r1s0_14
            generalize hges1_14 : sets13 V0_14 (W1.heap.size) (.bool y0) (.bool y1) (.bool y2) (.bool y3) (.bool y4) (.bool y5) (.bool x0) (.bool x1) (.bool x2) (.bool x3) (.bool x4) (.bool x5) (.int .i64 H) = V1_14 at *
            clear hges1_14
            refine hK.out _ _ ⟨⟨oAs1_14, oBs1_14⟩, oXs1_14, oYs1_14⟩ (fun hHeld2 => ?_)
            clear hK K hHeld
            have hHeld := hHeld2
            clear hHeld2
            try simp only [Act.put, List.getElem_toArray, List.getElem_cons_zero, List.getElem_cons_succ, List.setIfInBounds_toArray, List.set_cons_zero, List.set_cons_succ]
            refine wpAnyH_done (by kernel_rfl) ?_ _
            try refine NoPanic.normal ?_
            go_wp2_with fail
            go_meet
            exact ⟨W13.heap.size, W1.heap.size, rfl, rfl, r0s1_14, qs1_14, bbs1_14⟩
          · go_simp
            have hx15 := bl_alloc (bl_refl W12) (.cells #[.bool false, .bool false, .bool false, .bool false, .bool false, .bool false, .bool false, .bool false, .bool false, .bool false, .bool false, .bool false, .int .i64 0] 75)
            have b0_15 := Own.new W12 75 #[.bool false, .bool false, .bool false, .bool false, .bool false, .bool false, .bool false, .bool false, .bool false, .bool false, .bool false, .bool false, .int .i64 0]
            have hne15_1 : W1.heap.size ≠ W12.heap.size := by have := b1_12.lt; omega
            have hlo15 := bb12.size
            have hloA15 := oA12.lt
            have hloB15 := oB12.lt
            have hloX15 := oX12.lt
            have hloY15 := oY12.lt
            have oA15 := oA12.step hx15
            have oB15 := oB12.step hx15
            have oX15 := oX12.step hx15
            have oY15 := oY12.step hx15
            have b1_15 := b1_12.step hx15
            have bb15 := bl_trans bb12 hx15
            generalize hgx15 : (W12.alloc (.cells #[.bool false, .bool false, .bool false, .bool false, .bool false, .bool false, .bool false, .bool false, .bool false, .bool false, .bool false, .bool false, .int .i64 0] 75)) = W15 at *
            clear hgx15
            refine hK.out _ _ ⟨⟨oA15, oB15⟩, oX15, oY15⟩ (fun hHeld2 => ?_)
            clear hK K hHeld
            have hHeld := hHeld2
            clear hHeld2
            try simp only [Act.put, List.getElem_toArray, List.getElem_cons_zero, List.getElem_cons_succ, List.setIfInBounds_toArray, List.set_cons_zero, List.set_cons_succ]
            refine wpAnyH_ready (rs := [5]) (by kernel_rfl) (by simp) ?_
            refine (AllReadyH.cons rfl (fun K hK => ?_) AllReadyH.nil)
            go_simp
            go_at_call 45
            refine (hO2.out W15 bb15).mono ?_
            rintro e W16 ⟨rfl, hx16⟩
            have oA16 := oA15.step hx16
            have oB16 := oB15.step hx16
            have oX16 := oX15.step hx16
            have oY16 := oY15.step hx16
            have b0_16 := b0_15.step hx16
            have b1_16 := b1_15.step hx16
            have bb16 := bl_trans bb15 hx16
            refine hK.out _ _ ⟨⟨oA16, oB16⟩, oX16, oY16⟩ (fun hHeld2 => ?_)
            clear hK K hHeld
            have hHeld := hHeld2
            clear hHeld2
            try simp only [Act.put, List.getElem_toArray, List.getElem_cons_zero, List.getElem_cons_succ, List.setIfInBounds_toArray, List.set_cons_zero, List.set_cons_succ]
            refine wpAnyH_ready (rs := [8]) (by kernel_rfl) (by simp) ?_
            refine (AllReadyH.cons rfl (fun K hK => ?_) AllReadyH.nil)
            have z0 := b0_16.frozen 0
            have z1 := b0_16.frozen 1
            have z2 := b0_16.frozen 2
            have z3 := b0_16.frozen 3
            have z4 := b0_16.frozen 4
            have z5 := b0_16.frozen 5
            have z6 := b0_16.frozen 6
            have z7 := b0_16.frozen 7
            have z8 := b0_16.frozen 8
            have z9 := b0_16.frozen 9
            have z10 := b0_16.frozen 10
            have z11 := b0_16.frozen 11
            have z12 := b0_16.frozen 12
            obtain ⟨y0_, y1_, y2_, y3_, y4_, y5_, y6_, y7_, y8_, y9_, y10_, y11_, y12_⟩ := own_13 b0_16
            go_simp
            rw [show (((((((((((((W16.setCell ⟨W12.heap.size, 0, none⟩ (.bool x0)).setCell ⟨W12.heap.size, 1, none⟩ (.bool x1)).setCell ⟨W12.heap.size, 2, none⟩ (.bool x2)).setCell ⟨W12.heap.size, 3, none⟩ (.bool x3)).setCell ⟨W12.heap.size, 4, none⟩ (.bool x4)).setCell ⟨W12.heap.size, 5, none⟩ (.bool x5)).setCell ⟨W12.heap.size, 6, none⟩ (.bool y0)).setCell ⟨W12.heap.size, 7, none⟩ (.bool y1)).setCell ⟨W12.heap.size, 8, none⟩ (.bool y2)).setCell ⟨W12.heap.size, 9, none⟩ (.bool y3)).setCell ⟨W12.heap.size, 10, none⟩ (.bool y4)).setCell ⟨W12.heap.size, 11, none⟩ (.bool y5)).setCell ⟨W12.heap.size, 12, none⟩ (.int .i64 H)) = sets13 W16 (W12.heap.size) (.bool x0) (.bool x1) (.bool x2) (.bool x3) (.bool x4) (.bool x5) (.bool y0) (.bool y1) (.bool y2) (.bool y3) (.bool y4) (.bool y5) (.int .i64 H) from rfl]
            have qs0_16 := sets13_own (v0 := .bool x0) (v1 := .bool x1) (v2 := .bool x2) (v3 := .bool x3) (v4 := .bool x4) (v5 := .bool x5) (v6 := .bool y0) (v7 := .bool y1) (v8 := .bool y2) (v9 := .bool y3) (v10 := .bool y4) (v11 := .bool y5) (v12 := .int .i64 H) b0_16
            have far : ∀ k T cs, Own W16 k T cs → k ≠ W12.heap.size → Own (sets13 W16 (W12.heap.size) (.bool x0) (.bool x1) (.bool x2) (.bool x3) (.bool x4) (.bool x5) (.bool y0) (.bool y1) (.bool y2) (.bool y3) (.bool y4) (.bool y5) (.int .i64 H)) k T cs := fun _ _ _ h hk => sets13_far h hk
            have oAs0_16 := far _ _ _ oA16 (by omega)
            have oBs0_16 := far _ _ _ oB16 (by omega)
            have oXs0_16 := far _ _ _ oX16 (by omega)
            have oYs0_16 := far _ _ _ oY16 (by omega)
            have r1s0_16 := far _ _ _ b1_16 (by omega)
            have bbs0_16 := sets13_below (g := W12.heap.size) (v0 := .bool x0) (v1 := .bool x1) (v2 := .bool x2) (v3 := .bool x3) (v4 := .bool x4) (v5 := .bool x5) (v6 := .bool y0) (v7 := .bool y1) (v8 := .bool y2) (v9 := .bool y3) (v10 := .bool y4) (v11 := .bool y5) (v12 := .int .i64 H) bb16 (by omega)
            clear far z0 y0_ z1 y1_ z2 y2_ z3 y3_ z4 y4_ z5 y5_ z6 y6_ z7 y7_ z8 y8_ z9 y9_ z10 y10_ z11 y11_ z12 y12_ b0_16 b1_16
            generalize hges0_16 : sets13 W16 (W12.heap.size) (.bool x0) (.bool x1) (.bool x2) (.bool x3) (.bool x4) (.bool x5) (.bool y0) (.bool y1) (.bool y2) (.bool y3) (.bool y4) (.bool y5) (.int .i64 H) = V0_16 at *
            clear hges0_16
            refine hK.out _ _ ⟨⟨oAs0_16, oBs0_16⟩, oXs0_16, oYs0_16⟩ (fun hHeld2 => ?_)
            clear hK K hHeld
            have hHeld := hHeld2
            clear hHeld2
            try simp only [Act.put, List.getElem_toArray, List.getElem_cons_zero, List.getElem_cons_succ, List.setIfInBounds_toArray, List.set_cons_zero, List.set_cons_succ]
            refine wpAnyH_ready (rs := [9]) (by kernel_rfl) (by simp) ?_
            refine (AllReadyH.cons rfl (fun K hK => ?_) AllReadyH.nil)
            have z0 := r1s0_16.frozen 0
            have z1 := r1s0_16.frozen 1
            have z2 := r1s0_16.frozen 2
            have z3 := r1s0_16.frozen 3
            have z4 := r1s0_16.frozen 4
            have z5 := r1s0_16.frozen 5
            have z6 := r1s0_16.frozen 6
            have z7 := r1s0_16.frozen 7
            have z8 := r1s0_16.frozen 8
            have z9 := r1s0_16.frozen 9
            have z10 := r1s0_16.frozen 10
            have z11 := r1s0_16.frozen 11
            have z12 := r1s0_16.frozen 12
            obtain ⟨y0_, y1_, y2_, y3_, y4_, y5_, y6_, y7_, y8_, y9_, y10_, y11_, y12_⟩ := own_13 r1s0_16
            go_simp
            rw [show (((((((((((((V0_16.setCell ⟨W1.heap.size, 0, none⟩ (.bool y0)).setCell ⟨W1.heap.size, 1, none⟩ (.bool y1)).setCell ⟨W1.heap.size, 2, none⟩ (.bool y2)).setCell ⟨W1.heap.size, 3, none⟩ (.bool y3)).setCell ⟨W1.heap.size, 4, none⟩ (.bool y4)).setCell ⟨W1.heap.size, 5, none⟩ (.bool y5)).setCell ⟨W1.heap.size, 6, none⟩ (.bool x0)).setCell ⟨W1.heap.size, 7, none⟩ (.bool x1)).setCell ⟨W1.heap.size, 8, none⟩ (.bool x2)).setCell ⟨W1.heap.size, 9, none⟩ (.bool x3)).setCell ⟨W1.heap.size, 10, none⟩ (.bool x4)).setCell ⟨W1.heap.size, 11, none⟩ (.bool x5)).setCell ⟨W1.heap.size, 12, none⟩ (.int .i64 H)) = sets13 V0_16 (W1.heap.size) (.bool y0) (.bool y1) (.bool y2) (.bool y3) (.bool y4) (.bool y5) (.bool x0) (.bool x1) (.bool x2) (.bool x3) (.bool x4) (.bool x5) (.int .i64 H) from rfl]
            have qs1_16 := sets13_own (v0 := .bool y0) (v1 := .bool y1) (v2 := .bool y2) (v3 := .bool y3) (v4 := .bool y4) (v5 := .bool y5) (v6 := .bool x0) (v7 := .bool x1) (v8 := .bool x2) (v9 := .bool x3) (v10 := .bool x4) (v11 := .bool x5) (v12 := .int .i64 H) r1s0_16
            have far : ∀ k T cs, Own V0_16 k T cs → k ≠ W1.heap.size → Own (sets13 V0_16 (W1.heap.size) (.bool y0) (.bool y1) (.bool y2) (.bool y3) (.bool y4) (.bool y5) (.bool x0) (.bool x1) (.bool x2) (.bool x3) (.bool x4) (.bool x5) (.int .i64 H)) k T cs := fun _ _ _ h hk => sets13_far h hk
            have oAs1_16 := far _ _ _ oAs0_16 (by omega)
            have oBs1_16 := far _ _ _ oBs0_16 (by omega)
            have oXs1_16 := far _ _ _ oXs0_16 (by omega)
            have oYs1_16 := far _ _ _ oYs0_16 (by omega)
            have r0s1_16 := far _ _ _ qs0_16 (by omega)
            have bbs1_16 := sets13_below (g := W1.heap.size) (v0 := .bool y0) (v1 := .bool y1) (v2 := .bool y2) (v3 := .bool y3) (v4 := .bool y4) (v5 := .bool y5) (v6 := .bool x0) (v7 := .bool x1) (v8 := .bool x2) (v9 := .bool x3) (v10 := .bool x4) (v11 := .bool x5) (v12 := .int .i64 H) bbs0_16 (by omega)
            clear far z0 y0_ z1 y1_ z2 y2_ z3 y3_ z4 y4_ z5 y5_ z6 y6_ z7 y7_ z8 y8_ z9 y9_ z10 y10_ z11 y11_ z12 y12_ qs0_16 r1s0_16
            generalize hges1_16 : sets13 V0_16 (W1.heap.size) (.bool y0) (.bool y1) (.bool y2) (.bool y3) (.bool y4) (.bool y5) (.bool x0) (.bool x1) (.bool x2) (.bool x3) (.bool x4) (.bool x5) (.int .i64 H) = V1_16 at *
            clear hges1_16
            refine hK.out _ _ ⟨⟨oAs1_16, oBs1_16⟩, oXs1_16, oYs1_16⟩ (fun hHeld2 => ?_)
            clear hK K hHeld
            have hHeld := hHeld2
            clear hHeld2
            try simp only [Act.put, List.getElem_toArray, List.getElem_cons_zero, List.getElem_cons_succ, List.setIfInBounds_toArray, List.set_cons_zero, List.set_cons_succ]
            refine wpAnyH_done (by kernel_rfl) ?_ _
            try refine NoPanic.normal ?_
            go_wp2_with fail
            go_meet
            exact ⟨W12.heap.size, W1.heap.size, rfl, rfl, r0s1_16, qs1_16, bbs1_16⟩
      · go_simp
        have hx17 := bl_alloc (bl_refl Y0) (.cells #[.bool false, .bool false, .bool false, .bool false, .bool false, .bool false, .bool false, .bool false, .bool false, .bool false, .bool false, .bool false, .int .i64 0] 75)
        have b0_17 := Own.new Y0 75 #[.bool false, .bool false, .bool false, .bool false, .bool false, .bool false, .bool false, .bool false, .bool false, .bool false, .bool false, .bool false, .int .i64 0]
        have hlo17 := bb0.size
        have hloA17 := oA0.lt
        have hloB17 := oB0.lt
        have hloX17 := oX0.lt
        have hloY17 := oY0.lt
        have oA17 := oA0.step hx17
        have oB17 := oB0.step hx17
        have oX17 := oX0.step hx17
        have oY17 := oY0.step hx17
        have bb17 := bl_trans bb0 hx17
        generalize hgx17 : (Y0.alloc (.cells #[.bool false, .bool false, .bool false, .bool false, .bool false, .bool false, .bool false, .bool false, .bool false, .bool false, .bool false, .bool false, .int .i64 0] 75)) = W17 at *
        clear hgx17
        refine hK.out _ _ ⟨⟨oA17, oB17⟩, oX17, oY17⟩ (fun hHeld2 => ?_)
        clear hK K hHeld
        have hHeld := hHeld2
        clear hHeld2
        try simp only [Act.put, List.getElem_toArray, List.getElem_cons_zero, List.getElem_cons_succ, List.setIfInBounds_toArray, List.set_cons_zero, List.set_cons_succ]
        refine wpAnyH_ready (rs := [2, 7]) (by kernel_rfl) (by simp) ?_
        refine (AllReadyH.cons rfl (fun K hK => ?_) (AllReadyH.cons rfl (fun K hK => ?_) AllReadyH.nil))
        · go_simp
          go_at_call 45
          refine (hO1.out W17 bb17).mono ?_
          rintro e W18 ⟨rfl, hx18⟩
          have oA18 := oA17.step hx18
          have oB18 := oB17.step hx18
          have oX18 := oX17.step hx18
          have oY18 := oY17.step hx18
          have b0_18 := b0_17.step hx18
          have bb18 := bl_trans bb17 hx18
          refine hK.out _ _ ⟨⟨oA18, oB18⟩, oX18, oY18⟩ (fun hHeld2 => ?_)
          clear hK K hHeld
          have hHeld := hHeld2
          clear hHeld2
          try simp only [Act.put, List.getElem_toArray, List.getElem_cons_zero, List.getElem_cons_succ, List.setIfInBounds_toArray, List.set_cons_zero, List.set_cons_succ]
          refine wpAnyH_ready (rs := [5, 7]) (by kernel_rfl) (by simp) ?_
          refine (AllReadyH.cons rfl (fun K hK => ?_) (AllReadyH.cons rfl (fun K hK => ?_) AllReadyH.nil))
          · go_simp
            go_at_call 45
            refine (hO2.out W18 bb18).mono ?_
            rintro e W19 ⟨rfl, hx19⟩
            have oA19 := oA18.step hx19
            have oB19 := oB18.step hx19
            have oX19 := oX18.step hx19
            have oY19 := oY18.step hx19
            have b0_19 := b0_18.step hx19
            have bb19 := bl_trans bb18 hx19
            refine hK.out _ _ ⟨⟨oA19, oB19⟩, oX19, oY19⟩ (fun hHeld2 => ?_)
            clear hK K hHeld
            have hHeld := hHeld2
            clear hHeld2
            try simp only [Act.put, List.getElem_toArray, List.getElem_cons_zero, List.getElem_cons_succ, List.setIfInBounds_toArray, List.set_cons_zero, List.set_cons_succ]
            refine wpAnyH_ready (rs := [7]) (by kernel_rfl) (by simp) ?_
            refine (AllReadyH.cons rfl (fun K hK => ?_) AllReadyH.nil)
            go_simp
            have hx20 := bl_alloc (bl_refl W19) (.cells #[.bool false, .bool false, .bool false, .bool false, .bool false, .bool false, .bool false, .bool false, .bool false, .bool false, .bool false, .bool false, .int .i64 0] 75)
            have b1_20 := Own.new W19 75 #[.bool false, .bool false, .bool false, .bool false, .bool false, .bool false, .bool false, .bool false, .bool false, .bool false, .bool false, .bool false, .int .i64 0]
            have hne20_0 : Y0.heap.size ≠ W19.heap.size := by have := b0_19.lt; omega
            have hlo20 := bb19.size
            have hloA20 := oA19.lt
            have hloB20 := oB19.lt
            have hloX20 := oX19.lt
            have hloY20 := oY19.lt
            have oA20 := oA19.step hx20
            have oB20 := oB19.step hx20
            have oX20 := oX19.step hx20
            have oY20 := oY19.step hx20
            have b0_20 := b0_19.step hx20
            have bb20 := bl_trans bb19 hx20
            generalize hgx20 : (W19.alloc (.cells #[.bool false, .bool false, .bool false, .bool false, .bool false, .bool false, .bool false, .bool false, .bool false, .bool false, .bool false, .bool false, .int .i64 0] 75)) = W20 at *
            clear hgx20
            refine hK.out _ _ ⟨⟨oA20, oB20⟩, oX20, oY20⟩ (fun hHeld2 => ?_)
            clear hK K hHeld
            have hHeld := hHeld2
            clear hHeld2
            try simp only [Act.put, List.getElem_toArray, List.getElem_cons_zero, List.getElem_cons_succ, List.setIfInBounds_toArray, List.set_cons_zero, List.set_cons_succ]
            refine wpAnyH_ready (rs := [8]) (by kernel_rfl) (by simp) ?_
            refine (AllReadyH.cons rfl (fun K hK => ?_) AllReadyH.nil)
            have z0 := b0_20.frozen 0
            have z1 := b0_20.frozen 1
            have z2 := b0_20.frozen 2
            have z3 := b0_20.frozen 3
            have z4 := b0_20.frozen 4
            have z5 := b0_20.frozen 5
            have z6 := b0_20.frozen 6
            have z7 := b0_20.frozen 7
            have z8 := b0_20.frozen 8
            have z9 := b0_20.frozen 9
            have z10 := b0_20.frozen 10
            have z11 := b0_20.frozen 11
            have z12 := b0_20.frozen 12
            obtain ⟨y0_, y1_, y2_, y3_, y4_, y5_, y6_, y7_, y8_, y9_, y10_, y11_, y12_⟩ := own_13 b0_20
            go_simp
            rw [show (((((((((((((W20.setCell ⟨Y0.heap.size, 0, none⟩ (.bool x0)).setCell ⟨Y0.heap.size, 1, none⟩ (.bool x1)).setCell ⟨Y0.heap.size, 2, none⟩ (.bool x2)).setCell ⟨Y0.heap.size, 3, none⟩ (.bool x3)).setCell ⟨Y0.heap.size, 4, none⟩ (.bool x4)).setCell ⟨Y0.heap.size, 5, none⟩ (.bool x5)).setCell ⟨Y0.heap.size, 6, none⟩ (.bool y0)).setCell ⟨Y0.heap.size, 7, none⟩ (.bool y1)).setCell ⟨Y0.heap.size, 8, none⟩ (.bool y2)).setCell ⟨Y0.heap.size, 9, none⟩ (.bool y3)).setCell ⟨Y0.heap.size, 10, none⟩ (.bool y4)).setCell ⟨Y0.heap.size, 11, none⟩ (.bool y5)).setCell ⟨Y0.heap.size, 12, none⟩ (.int .i64 H)) = sets13 W20 (Y0.heap.size) (.bool x0) (.bool x1) (.bool x2) (.bool x3) (.bool x4) (.bool x5) (.bool y0) (.bool y1) (.bool y2) (.bool y3) (.bool y4) (.bool y5) (.int .i64 H) from rfl]
            have qs0_20 := sets13_own (v0 := .bool x0) (v1 := .bool x1) (v2 := .bool x2) (v3 := .bool x3) (v4 := .bool x4) (v5 := .bool x5) (v6 := .bool y0) (v7 := .bool y1) (v8 := .bool y2) (v9 := .bool y3) (v10 := .bool y4) (v11 := .bool y5) (v12 := .int .i64 H) b0_20
            have far : ∀ k T cs, Own W20 k T cs → k ≠ Y0.heap.size → Own (sets13 W20 (Y0.heap.size) (.bool x0) (.bool x1) (.bool x2) (.bool x3) (.bool x4) (.bool x5) (.bool y0) (.bool y1) (.bool y2) (.bool y3) (.bool y4) (.bool y5) (.int .i64 H)) k T cs := fun _ _ _ h hk => sets13_far h hk
            have oAs0_20 := far _ _ _ oA20 (by omega)
            have oBs0_20 := far _ _ _ oB20 (by omega)
            have oXs0_20 := far _ _ _ oX20 (by omega)
            have oYs0_20 := far _ _ _ oY20 (by omega)
            have r1s0_20 := far _ _ _ b1_20 (by omega)
            have bbs0_20 := sets13_below (g := Y0.heap.size) (v0 := .bool x0) (v1 := .bool x1) (v2 := .bool x2) (v3 := .bool x3) (v4 := .bool x4) (v5 := .bool x5) (v6 := .bool y0) (v7 := .bool y1) (v8 := .bool y2) (v9 := .bool y3) (v10 := .bool y4) (v11 := .bool y5) (v12 := .int .i64 H) bb20 (by omega)
            clear far z0 y0_ z1 y1_ z2 y2_ z3 y3_ z4 y4_ z5 y5_ z6 y6_ z7 y7_ z8 y8_ z9 y9_ z10 y10_ z11 y11_ z12 y12_ b0_20 b1_20
            generalize hges0_20 : sets13 W20 (Y0.heap.size) (.bool x0) (.bool x1) (.bool x2) (.bool x3) (.bool x4) (.bool x5) (.bool y0) (.bool y1) (.bool y2) (.bool y3) (.bool y4) (.bool y5) (.int .i64 H) = V0_20 at *
            clear hges0_20
            refine hK.out _ _ ⟨⟨oAs0_20, oBs0_20⟩, oXs0_20, oYs0_20⟩ (fun hHeld2 => ?_)
            clear hK K hHeld
            have hHeld := hHeld2
            clear hHeld2
            try simp only [Act.put, List.getElem_toArray, List.getElem_cons_zero, List.getElem_cons_succ, List.setIfInBounds_toArray, List.set_cons_zero, List.set_cons_succ]
            refine wpAnyH_ready (rs := [9]) (by kernel_rfl) (by simp) ?_
            refine (AllReadyH.cons rfl (fun K hK => ?_) AllReadyH.nil)
            have z0 := r1s0_20.frozen 0
            have z1 := r1s0_20.frozen 1
            have z2 := r1s0_20.frozen 2
            have z3 := r1s0_20.frozen 3
            have z4 := r1s0_20.frozen 4
            have z5 := r1s0_20.frozen 5
            have z6 := r1s0_20.frozen 6
            have z7 := r1s0_20.frozen 7
            have z8 := r1s0_20.frozen 8
            have z9 := r1s0_20.frozen 9
            have z10 := r1s0_20.frozen 10
            have z11 := r1s0_20.frozen 11
            have z12 := r1s0_20.frozen 12
            obtain ⟨y0_, y1_, y2_, y3_, y4_, y5_, y6_, y7_, y8_, y9_, y10_, y11_, y12_⟩ := own_13 r1s0_20
            go_simp
            rw [show (((((((((((((V0_20.setCell ⟨W19.heap.size, 0, none⟩ (.bool y0)).setCell ⟨W19.heap.size, 1, none⟩ (.bool y1)).setCell ⟨W19.heap.size, 2, none⟩ (.bool y2)).setCell ⟨W19.heap.size, 3, none⟩ (.bool y3)).setCell ⟨W19.heap.size, 4, none⟩ (.bool y4)).setCell ⟨W19.heap.size, 5, none⟩ (.bool y5)).setCell ⟨W19.heap.size, 6, none⟩ (.bool x0)).setCell ⟨W19.heap.size, 7, none⟩ (.bool x1)).setCell ⟨W19.heap.size, 8, none⟩ (.bool x2)).setCell ⟨W19.heap.size, 9, none⟩ (.bool x3)).setCell ⟨W19.heap.size, 10, none⟩ (.bool x4)).setCell ⟨W19.heap.size, 11, none⟩ (.bool x5)).setCell ⟨W19.heap.size, 12, none⟩ (.int .i64 H)) = sets13 V0_20 (W19.heap.size) (.bool y0) (.bool y1) (.bool y2) (.bool y3) (.bool y4) (.bool y5) (.bool x0) (.bool x1) (.bool x2) (.bool x3) (.bool x4) (.bool x5) (.int .i64 H) from rfl]
            have qs1_20 := sets13_own (v0 := .bool y0) (v1 := .bool y1) (v2 := .bool y2) (v3 := .bool y3) (v4 := .bool y4) (v5 := .bool y5) (v6 := .bool x0) (v7 := .bool x1) (v8 := .bool x2) (v9 := .bool x3) (v10 := .bool x4) (v11 := .bool x5) (v12 := .int .i64 H) r1s0_20
            have far : ∀ k T cs, Own V0_20 k T cs → k ≠ W19.heap.size → Own (sets13 V0_20 (W19.heap.size) (.bool y0) (.bool y1) (.bool y2) (.bool y3) (.bool y4) (.bool y5) (.bool x0) (.bool x1) (.bool x2) (.bool x3) (.bool x4) (.bool x5) (.int .i64 H)) k T cs := fun _ _ _ h hk => sets13_far h hk
            have oAs1_20 := far _ _ _ oAs0_20 (by omega)
            have oBs1_20 := far _ _ _ oBs0_20 (by omega)
            have oXs1_20 := far _ _ _ oXs0_20 (by omega)
            have oYs1_20 := far _ _ _ oYs0_20 (by omega)
            have r0s1_20 := far _ _ _ qs0_20 (by omega)
            have bbs1_20 := sets13_below (g := W19.heap.size) (v0 := .bool y0) (v1 := .bool y1) (v2 := .bool y2) (v3 := .bool y3) (v4 := .bool y4) (v5 := .bool y5) (v6 := .bool x0) (v7 := .bool x1) (v8 := .bool x2) (v9 := .bool x3) (v10 := .bool x4) (v11 := .bool x5) (v12 := .int .i64 H) bbs0_20 (by omega)
            clear far z0 y0_ z1 y1_ z2 y2_ z3 y3_ z4 y4_ z5 y5_ z6 y6_ z7 y7_ z8 y8_ z9 y9_ z10 y10_ z11 y11_ z12 y12_ qs0_20 r1s0_20
            generalize hges1_20 : sets13 V0_20 (W19.heap.size) (.bool y0) (.bool y1) (.bool y2) (.bool y3) (.bool y4) (.bool y5) (.bool x0) (.bool x1) (.bool x2) (.bool x3) (.bool x4) (.bool x5) (.int .i64 H) = V1_20 at *
            clear hges1_20
            refine hK.out _ _ ⟨⟨oAs1_20, oBs1_20⟩, oXs1_20, oYs1_20⟩ (fun hHeld2 => ?_)
            clear hK K hHeld
            have hHeld := hHeld2
            clear hHeld2
            try simp only [Act.put, List.getElem_toArray, List.getElem_cons_zero, List.getElem_cons_succ, List.setIfInBounds_toArray, List.set_cons_zero, List.set_cons_succ]
            refine wpAnyH_done (by kernel_rfl) ?_ _
            try refine NoPanic.normal ?_
            go_wp2_with fail
            go_meet
            exact ⟨Y0.heap.size, W19.heap.size, rfl, rfl, r0s1_20, qs1_20, bbs1_20⟩
          · go_simp
            have hx21 := bl_alloc (bl_refl W18) (.cells #[.bool false, .bool false, .bool false, .bool false, .bool false, .bool false, .bool false, .bool false, .bool false, .bool false, .bool false, .bool false, .int .i64 0] 75)
            have b1_21 := Own.new W18 75 #[.bool false, .bool false, .bool false, .bool false, .bool false, .bool false, .bool false, .bool false, .bool false, .bool false, .bool false, .bool false, .int .i64 0]
            have hne21_0 : Y0.heap.size ≠ W18.heap.size := by have := b0_18.lt; omega
            have hlo21 := bb18.size
            have hloA21 := oA18.lt
            have hloB21 := oB18.lt
            have hloX21 := oX18.lt
            have hloY21 := oY18.lt
            have oA21 := oA18.step hx21
            have oB21 := oB18.step hx21
            have oX21 := oX18.step hx21
            have oY21 := oY18.step hx21
            have b0_21 := b0_18.step hx21
            have bb21 := bl_trans bb18 hx21
            generalize hgx21 : (W18.alloc (.cells #[.bool false, .bool false, .bool false, .bool false, .bool false, .bool false, .bool false, .bool false, .bool false, .bool false, .bool false, .bool false, .int .i64 0] 75)) = W21 at *
            clear hgx21
            refine hK.out _ _ ⟨⟨oA21, oB21⟩, oX21, oY21⟩ (fun hHeld2 => ?_)
            clear hK K hHeld
            have hHeld := hHeld2
            clear hHeld2
            try simp only [Act.put, List.getElem_toArray, List.getElem_cons_zero, List.getElem_cons_succ, List.setIfInBounds_toArray, List.set_cons_zero, List.set_cons_succ]
            refine wpAnyH_ready (rs := [5]) (by kernel_rfl) (by simp) ?_
            refine (AllReadyH.cons rfl (fun K hK => ?_) AllReadyH.nil)
            go_simp
            go_at_call 45
            refine (hO2.out W21 bb21).mono ?_
            rintro e W22 ⟨rfl, hx22⟩
            have oA22 := oA21.step hx22
            have oB22 := oB21.step hx22
            have oX22 := oX21.step hx22
            have oY22 := oY21.step hx22
            have b0_22 := b0_21.step hx22
            have b1_22 := b1_21.step hx22
            have bb22 := bl_trans bb21 hx22
            refine hK.out _ _ ⟨⟨oA22, oB22⟩, oX22, oY22⟩ (fun hHeld2 => ?_)
            clear hK K hHeld
            have hHeld := hHeld2
            clear hHeld2
            try simp only [Act.put, List.getElem_toArray, List.getElem_cons_zero, List.getElem_cons_succ, List.setIfInBounds_toArray, List.set_cons_zero, List.set_cons_succ]
            refine wpAnyH_ready (rs := [8]) (by kernel_rfl) (by simp) ?_
            refine (AllReadyH.cons rfl (fun K hK => ?_) AllReadyH.nil)
            have z0 := b0_22.frozen 0
            have z1 := b0_22.frozen 1
            have z2 := b0_22.frozen 2
            have z3 := b0_22.frozen 3
            have z4 := b0_22.frozen 4
            have z5 := b0_22.frozen 5
            have z6 := b0_22.frozen 6
            have z7 := b0_22.frozen 7
            have z8 := b0_22.frozen 8
            have z9 := b0_22.frozen 9
            have z10 := b0_22.frozen 10
            have z11 := b0_22.frozen 11
            have z12 := b0_22.frozen 12
            obtain ⟨y0_, y1_, y2_, y3_, y4_, y5_, y6_, y7_, y8_, y9_, y10_, y11_, y12_⟩ := own_13 b0_22
            go_simp
            rw [show (((((((((((((W22.setCell ⟨Y0.heap.size, 0, none⟩ (.bool x0)).setCell ⟨Y0.heap.size, 1, none⟩ (.bool x1)).setCell ⟨Y0.heap.size, 2, none⟩ (.bool x2)).setCell ⟨Y0.heap.size, 3, none⟩ (.bool x3)).setCell ⟨Y0.heap.size, 4, none⟩ (.bool x4)).setCell ⟨Y0.heap.size, 5, none⟩ (.bool x5)).setCell ⟨Y0.heap.size, 6, none⟩ (.bool y0)).setCell ⟨Y0.heap.size, 7, none⟩ (.bool y1)).setCell ⟨Y0.heap.size, 8, none⟩ (.bool y2)).setCell ⟨Y0.heap.size, 9, none⟩ (.bool y3)).setCell ⟨Y0.heap.size, 10, none⟩ (.bool y4)).setCell ⟨Y0.heap.size, 11, none⟩ (.bool y5)).setCell ⟨Y0.heap.size, 12, none⟩ (.int .i64 H)) = sets13 W22 (Y0.heap.size) (.bool x0) (.bool x1) (.bool x2) (.bool x3) (.bool x4) (.bool x5) (.bool y0) (.bool y1) (.bool y2) (.bool y3) (.bool y4) (.bool y5) (.int .i64 H) from rfl]
            have qs0_22 := sets13_own (v0 := .bool x0) (v1 := .bool x1) (v2 := .bool x2) (v3 := .bool x3) (v4 := .bool x4) (v5 := .bool x5) (v6 := .bool y0) (v7 := .bool y1) (v8 := .bool y2) (v9 := .bool y3) (v10 := .bool y4) (v11 := .bool y5) (v12 := .int .i64 H) b0_22
            have far : ∀ k T cs, Own W22 k T cs → k ≠ Y0.heap.size → Own (sets13 W22 (Y0.heap.size) (.bool x0) (.bool x1) (.bool x2) (.bool x3) (.bool x4) (.bool x5) (.bool y0) (.bool y1) (.bool y2) (.bool y3) (.bool y4) (.bool y5) (.int .i64 H)) k T cs := fun _ _ _ h hk => sets13_far h hk
            have oAs0_22 := far _ _ _ oA22 (by omega)
            have oBs0_22 := far _ _ _ oB22 (by omega)
            have oXs0_22 := far _ _ _ oX22 (by omega)
            have oYs0_22 := far _ _ _ oY22 (by omega)
            have r1s0_22 := far _ _ _ b1_22 (by omega)
            have bbs0_22 := sets13_below (g := Y0.heap.size) (v0 := .bool x0) (v1 := .bool x1) (v2 := .bool x2) (v3 := .bool x3) (v4 := .bool x4) (v5 := .bool x5) (v6 := .bool y0) (v7 := .bool y1) (v8 := .bool y2) (v9 := .bool y3) (v10 := .bool y4) (v11 := .bool y5) (v12 := .int .i64 H) bb22 (by omega)
            clear far z0 y0_ z1 y1_ z2 y2_ z3 y3_ z4 y4_ z5 y5_ z6 y6_ z7 y7_ z8 y8_ z9 y9_ z10 y10_ z11 y11_ z12 y12_ b0_22 b1_22
            generalize hges0_22 : sets13 W22 (Y0.heap.size) (.bool x0) (.bool x1) (.bool x2) (.bool x3) (.bool x4) (.bool x5) (.bool y0) (.bool y1) (.bool y2) (.bool y3) (.bool y4) (.bool y5) (.int .i64 H) = V0_22 at *
            clear hges0_22
            refine hK.out _ _ ⟨⟨oAs0_22, oBs0_22⟩, oXs0_22, oYs0_22⟩ (fun hHeld2 => ?_)
            clear hK K hHeld
            have hHeld := hHeld2
            clear hHeld2
            try simp only [Act.put, List.getElem_toArray, List.getElem_cons_zero, List.getElem_cons_succ, List.setIfInBounds_toArray, List.set_cons_zero, List.set_cons_succ]
            refine wpAnyH_ready (rs := [9]) (by kernel_rfl) (by simp) ?_
            refine (AllReadyH.cons rfl (fun K hK => ?_) AllReadyH.nil)
            have z0 := r1s0_22.frozen 0
            have z1 := r1s0_22.frozen 1
            have z2 := r1s0_22.frozen 2
            have z3 := r1s0_22.frozen 3
            have z4 := r1s0_22.frozen 4
            have z5 := r1s0_22.frozen 5
            have z6 := r1s0_22.frozen 6
            have z7 := r1s0_22.frozen 7
            have z8 := r1s0_22.frozen 8
            have z9 := r1s0_22.frozen 9
            have z10 := r1s0_22.frozen 10
            have z11 := r1s0_22.frozen 11
            have z12 := r1s0_22.frozen 12
            obtain ⟨y0_, y1_, y2_, y3_, y4_, y5_, y6_, y7_, y8_, y9_, y10_, y11_, y12_⟩ := own_13 r1s0_22
            go_simp
            rw [show (((((((((((((V0_22.setCell ⟨W18.heap.size, 0, none⟩ (.bool y0)).setCell ⟨W18.heap.size, 1, none⟩ (.bool y1)).setCell ⟨W18.heap.size, 2, none⟩ (.bool y2)).setCell ⟨W18.heap.size, 3, none⟩ (.bool y3)).setCell ⟨W18.heap.size, 4, none⟩ (.bool y4)).setCell ⟨W18.heap.size, 5, none⟩ (.bool y5)).setCell ⟨W18.heap.size, 6, none⟩ (.bool x0)).setCell ⟨W18.heap.size, 7, none⟩ (.bool x1)).setCell ⟨W18.heap.size, 8, none⟩ (.bool x2)).setCell ⟨W18.heap.size, 9, none⟩ (.bool x3)).setCell ⟨W18.heap.size, 10, none⟩ (.bool x4)).setCell ⟨W18.heap.size, 11, none⟩ (.bool x5)).setCell ⟨W18.heap.size, 12, none⟩ (.int .i64 H)) = sets13 V0_22 (W18.heap.size) (.bool y0) (.bool y1) (.bool y2) (.bool y3) (.bool y4) (.bool y5) (.bool x0) (.bool x1) (.bool x2) (.bool x3) (.bool x4) (.bool x5) (.int .i64 H) from rfl]
            have qs1_22 := sets13_own (v0 := .bool y0) (v1 := .bool y1) (v2 := .bool y2) (v3 := .bool y3) (v4 := .bool y4) (v5 := .bool y5) (v6 := .bool x0) (v7 := .bool x1) (v8 := .bool x2) (v9 := .bool x3) (v10 := .bool x4) (v11 := .bool x5) (v12 := .int .i64 H) r1s0_22
            have far : ∀ k T cs, Own V0_22 k T cs → k ≠ W18.heap.size → Own (sets13 V0_22 (W18.heap.size) (.bool y0) (.bool y1) (.bool y2) (.bool y3) (.bool y4) (.bool y5) (.bool x0) (.bool x1) (.bool x2) (.bool x3) (.bool x4) (.bool x5) (.int .i64 H)) k T cs := fun _ _ _ h hk => sets13_far h hk
            have oAs1_22 := far _ _ _ oAs0_22 (by omega)
            have oBs1_22 := far _ _ _ oBs0_22 (by omega)
            have oXs1_22 := far _ _ _ oXs0_22 (by omega)
            have oYs1_22 := far _ _ _ oYs0_22 (by omega)
            have r0s1_22 := far _ _ _ qs0_22 (by omega)
            have bbs1_22 := sets13_below (g := W18.heap.size) (v0 := .bool y0) (v1 := .bool y1) (v2 := .bool y2) (v3 := .bool y3) (v4 := .bool y4) (v5 := .bool y5) (v6 := .bool x0) (v7 := .bool x1) (v8 := .bool x2) (v9 := .bool x3) (v10 := .bool x4) (v11 := .bool x5) (v12 := .int .i64 H) bbs0_22 (by omega)
            clear far z0 y0_ z1 y1_ z2 y2_ z3 y3_ z4 y4_ z5 y5_ z6 y6_ z7 y7_ z8 y8_ z9 y9_ z10 y10_ z11 y11_ z12 y12_ qs0_22 r1s0_22
            generalize hges1_22 : sets13 V0_22 (W18.heap.size) (.bool y0) (.bool y1) (.bool y2) (.bool y3) (.bool y4) (.bool y5) (.bool x0) (.bool x1) (.bool x2) (.bool x3) (.bool x4) (.bool x5) (.int .i64 H) = V1_22 at *
            clear hges1_22
            refine hK.out _ _ ⟨⟨oAs1_22, oBs1_22⟩, oXs1_22, oYs1_22⟩ (fun hHeld2 => ?_)
            clear hK K hHeld
            have hHeld := hHeld2
            clear hHeld2
            try simp only [Act.put, List.getElem_toArray, List.getElem_cons_zero, List.getElem_cons_succ, List.setIfInBounds_toArray, List.set_cons_zero, List.set_cons_succ]
            refine wpAnyH_done (by kernel_rfl) ?_ _
            try refine NoPanic.normal ?_
            go_wp2_with fail
            go_meet
            exact ⟨Y0.heap.size, W18.heap.size, rfl, rfl, r0s1_22, qs1_22, bbs1_22⟩
        · go_simp
          have hx23 := bl_alloc (bl_refl W17) (.cells #[.bool false, .bool false, .bool false, .bool false, .bool false, .bool false, .bool false, .bool false, .bool false, .bool false, .bool false, .bool false, .int .i64 0] 75)
          have b1_23 := Own.new W17 75 #[.bool false, .bool false, .bool false, .bool false, .bool false, .bool false, .bool false, .bool false, .bool false, .bool false, .bool false, .bool false, .int .i64 0]
          have hne23_0 : Y0.heap.size ≠ W17.heap.size := by have := b0_17.lt; omega
          have hlo23 := bb17.size
          have hloA23 := oA17.lt
          have hloB23 := oB17.lt
          have hloX23 := oX17.lt
          have hloY23 := oY17.lt
          have oA23 := oA17.step hx23
          have oB23 := oB17.step hx23
          have oX23 := oX17.step hx23
          have oY23 := oY17.step hx23
          have b0_23 := b0_17.step hx23
          have bb23 := bl_trans bb17 hx23
          generalize hgx23 : (W17.alloc (.cells #[.bool false, .bool false, .bool false, .bool false, .bool false, .bool false, .bool false, .bool false, .bool false, .bool false, .bool false, .bool false, .int .i64 0] 75)) = W23 at *
          clear hgx23
          refine hK.out _ _ ⟨⟨oA23, oB23⟩, oX23, oY23⟩ (fun hHeld2 => ?_)
          clear hK K hHeld
          have hHeld := hHeld2
          clear hHeld2
          try simp only [Act.put, List.getElem_toArray, List.getElem_cons_zero, List.getElem_cons_succ, List.setIfInBounds_toArray, List.set_cons_zero, List.set_cons_succ]
          refine wpAnyH_ready (rs := [2]) (by kernel_rfl) (by simp) ?_
          refine (AllReadyH.cons rfl (fun K hK => ?_) AllReadyH.nil)
          go_simp
          go_at_call 45
          refine (hO1.out W23 bb23).mono ?_
          rintro e W24 ⟨rfl, hx24⟩
          have oA24 := oA23.step hx24
          have oB24 := oB23.step hx24
          have oX24 := oX23.step hx24
          have oY24 := oY23.step hx24
          have b0_24 := b0_23.step hx24
          have b1_24 := b1_23.step hx24
          have bb24 := bl_trans bb23 hx24
          refine hK.out _ _ ⟨⟨oA24, oB24⟩, oX24, oY24⟩ (fun hHeld2 => ?_)
          clear hK K hHeld
          have hHeld := hHeld2
          clear hHeld2
          try simp only [Act.put, List.getElem_toArray, List.getElem_cons_zero, List.getElem_cons_succ, List.setIfInBounds_toArray, List.set_cons_zero, List.set_cons_succ]
          refine wpAnyH_ready (rs := [5]) (by kernel_rfl) (by simp) ?_
          refine (AllReadyH.cons rfl (fun K hK => ?_) AllReadyH.nil)
          go_simp
          go_at_call 45
          refine (hO2.out W24 bb24).mono ?_
          rintro e W25 ⟨rfl, hx25⟩
          have oA25 := oA24.step hx25
          have oB25 := oB24.step hx25
          have oX25 := oX24.step hx25
          have oY25 := oY24.step hx25
          have b0_25 := b0_24.step hx25
          have b1_25 := b1_24.step hx25
          have bb25 := bl_trans bb24 hx25
          refine hK.out _ _ ⟨⟨oA25, oB25⟩, oX25, oY25⟩ (fun hHeld2 => ?_)
          clear hK K hHeld
          have hHeld := hHeld2
          clear hHeld2
          try simp only [Act.put, List.getElem_toArray, List.getElem_cons_zero, List.getElem_cons_succ, List.setIfInBounds_toArray, List.set_cons_zero, List.set_cons_succ]
          refine wpAnyH_ready (rs := [8]) (by kernel_rfl) (by simp) ?_
          refine (AllReadyH.cons rfl (fun K hK => ?_) AllReadyH.nil)
          have z0 := b0_25.frozen 0
          have z1 := b0_25.frozen 1
          have z2 := b0_25.frozen 2
          have z3 := b0_25.frozen 3
          have z4 := b0_25.frozen 4
          have z5 := b0_25.frozen 5
          have z6 := b0_25.frozen 6
          have z7 := b0_25.frozen 7
          have z8 := b0_25.frozen 8
          have z9 := b0_25.frozen 9
          have z10 := b0_25.frozen 10
          have z11 := b0_25.frozen 11
          have z12 := b0_25.frozen 12
          obtain ⟨y0_, y1_, y2_, y3_, y4_, y5_, y6_, y7_, y8_, y9_, y10_, y11_, y12_⟩ := own_13 b0_25
          go_simp
          rw [show (((((((((((((W25.setCell ⟨Y0.heap.size, 0, none⟩ (.bool x0)).setCell ⟨Y0.heap.size, 1, none⟩ (.bool x1)).setCell ⟨Y0.heap.size, 2, none⟩ (.bool x2)).setCell ⟨Y0.heap.size, 3, none⟩ (.bool x3)).setCell ⟨Y0.heap.size, 4, none⟩ (.bool x4)).setCell ⟨Y0.heap.size, 5, none⟩ (.bool x5)).setCell ⟨Y0.heap.size, 6, none⟩ (.bool y0)).setCell ⟨Y0.heap.size, 7, none⟩ (.bool y1)).setCell ⟨Y0.heap.size, 8, none⟩ (.bool y2)).setCell ⟨Y0.heap.size, 9, none⟩ (.bool y3)).setCell ⟨Y0.heap.size, 10, none⟩ (.bool y4)).setCell ⟨Y0.heap.size, 11, none⟩ (.bool y5)).setCell ⟨Y0.heap.size, 12, none⟩ (.int .i64 H)) = sets13 W25 (Y0.heap.size) (.bool x0) (.bool x1) (.bool x2) (.bool x3) (.bool x4) (.bool x5) (.bool y0) (.bool y1) (.bool y2) (.bool y3) (.bool y4) (.bool y5) (.int .i64 H) from rfl]
          have qs0_25 := sets13_own (v0 := .bool x0) (v1 := .bool x1) (v2 := .bool x2) (v3 := .bool x3) (v4 := .bool x4) (v5 := .bool x5) (v6 := .bool y0) (v7 := .bool y1) (v8 := .bool y2) (v9 := .bool y3) (v10 := .bool y4) (v11 := .bool y5) (v12 := .int .i64 H) b0_25
          have far : ∀ k T cs, Own W25 k T cs → k ≠ Y0.heap.size → Own (sets13 W25 (Y0.heap.size) (.bool x0) (.bool x1) (.bool x2) (.bool x3) (.bool x4) (.bool x5) (.bool y0) (.bool y1) (.bool y2) (.bool y3) (.bool y4) (.bool y5) (.int .i64 H)) k T cs := fun _ _ _ h hk => sets13_far h hk
          have oAs0_25 := far _ _ _ oA25 (by omega)
          have oBs0_25 := far _ _ _ oB25 (by omega)
          have oXs0_25 := far _ _ _ oX25 (by omega)
          have oYs0_25 := far _ _ _ oY25 (by omega)
          have r1s0_25 := far _ _ _ b1_25 (by omega)
          have bbs0_25 := sets13_below (g := Y0.heap.size) (v0 := .bool x0) (v1 := .bool x1) (v2 := .bool x2) (v3 := .bool x3) (v4 := .bool x4) (v5 := .bool x5) (v6 := .bool y0) (v7 := .bool y1) (v8 := .bool y2) (v9 := .bool y3) (v10 := .bool y4) (v11 := .bool y5) (v12 := .int .i64 H) bb25 (by omega)
          clear far z0 y0_ z1 y1_ z2 y2_ z3 y3_ z4 y4_ z5 y5_ z6 y6_ z7 y7_ z8 y8_ z9 y9_ z10 y10_ z11 y11_ z12 y12_ b0_25 b1_25
          generalize hges0_25 : sets13 W25 (Y0.heap.size) (.bool x0) (.bool x1) (.bool x2) (.bool x3) (.bool x4) (.bool x5) (.bool y0) (.bool y1) (.bool y2) (.bool y3) (.bool y4) (.bool y5) (.int .i64 H) = V0_25 at *
          clear hges0_25
          refine hK.out _ _ ⟨⟨oAs0_25, oBs0_25⟩, oXs0_25, oYs0_25⟩ (fun hHeld2 => ?_)
          clear hK K hHeld
          have hHeld := hHeld2
          clear hHeld2
          try simp only [Act.put, List.getElem_toArray, List.getElem_cons_zero, List.getElem_cons_succ, List.setIfInBounds_toArray, List.set_cons_zero, List.set_cons_succ]
          refine wpAnyH_ready (rs := [9]) (by kernel_rfl) (by simp) ?_
          refine (AllReadyH.cons rfl (fun K hK => ?_) AllReadyH.nil)
          have z0 := r1s0_25.frozen 0
          have z1 := r1s0_25.frozen 1
          have z2 := r1s0_25.frozen 2
          have z3 := r1s0_25.frozen 3
          have z4 := r1s0_25.frozen 4
          have z5 := r1s0_25.frozen 5
          have z6 := r1s0_25.frozen 6
          have z7 := r1s0_25.frozen 7
          have z8 := r1s0_25.frozen 8
          have z9 := r1s0_25.frozen 9
          have z10 := r1s0_25.frozen 10
          have z11 := r1s0_25.frozen 11
          have z12 := r1s0_25.frozen 12
          obtain ⟨y0_, y1_, y2_, y3_, y4_, y5_, y6_, y7_, y8_, y9_, y10_, y11_, y12_⟩ := own_13 r1s0_25
          go_simp
          rw [show (((((((((((((V0_25.setCell ⟨W17.heap.size, 0, none⟩ (.bool y0)).setCell ⟨W17.heap.size, 1, none⟩ (.bool y1)).setCell ⟨W17.heap.size, 2, none⟩ (.bool y2)).setCell ⟨W17.heap.size, 3, none⟩ (.bool y3)).setCell ⟨W17.heap.size, 4, none⟩ (.bool y4)).setCell ⟨W17.heap.size, 5, none⟩ (.bool y5)).setCell ⟨W17.heap.size, 6, none⟩ (.bool x0)).setCell ⟨W17.heap.size, 7, none⟩ (.bool x1)).setCell ⟨W17.heap.size, 8, none⟩ (.bool x2)).setCell ⟨W17.heap.size, 9, none⟩ (.bool x3)).setCell ⟨W17.heap.size, 10, none⟩ (.bool x4)).setCell ⟨W17.heap.size, 11, none⟩ (.bool x5)).setCell ⟨W17.heap.size, 12, none⟩ (.int .i64 H)) = sets13 V0_25 (W17.heap.size) (.bool y0) (.bool y1) (.bool y2) (.bool y3) (.bool y4) (.bool y5) (.bool x0) (.bool x1) (.bool x2) (.bool x3) (.bool x4) (.bool x5) (.int .i64 H) from rfl]
          have qs1_25 := sets13_own (v0 := .bool y0) (v1 := .bool y1) (v2 := .bool y2) (v3 := .bool y3) (v4 := .bool y4) (v5 := .bool y5) (v6 := .bool x0) (v7 := .bool x1) (v8 := .bool x2) (v9 := .bool x3) (v10 := .bool x4) (v11 := .bool x5) (v12 := .int .i64 H) r1s0_25
          have far : ∀ k T cs, Own V0_25 k T cs → k ≠ W17.heap.size → Own (sets13 V0_25 (W17.heap.size) (.bool y0) (.bool y1) (.bool y2) (.bool y3) (.bool y4) (.bool y5) (.bool x0) (.bool x1) (.bool x2) (.bool x3) (.bool x4) (.bool x5) (.int .i64 H)) k T cs := fun _ _ _ h hk => sets13_far h hk
          have oAs1_25 := far _ _ _ oAs0_25 (by omega)
          have oBs1_25 := far _ _ _ oBs0_25 (by omega)
          have oXs1_25 := far _ _ _ oXs0_25 (by omega)
          have oYs1_25 := far _ _ _ oYs0_25 (by omega)
          have r0s1_25 := far _ _ _ qs0_25 (by omega)
          have bbs1_25 := sets13_below (g := W17.heap.size) (v0 := .bool y0) (v1 := .bool y1) (v2 := .bool y2) (v3 := .bool y3) (v4 := .bool y4) (v5 := .bool y5) (v6 := .bool x0) (v7 := .bool x1) (v8 := .bool x2) (v9 := .bool x3) (v10 := .bool x4) (v11 := .bool x5) (v12 := .int .i64 H) bbs0_25 (by omega)
          clear far z0 y0_ z1 y1_ z2 y2_ z3 y3_ z4 y4_ z5 y5_ z6 y6_ z7 y7_ z8 y8_ z9 y9_ z10 y10_ z11 y11_ z12 y12_ qs0_25 r1s0_25
          generalize hges1_25 : sets13 V0_25 (W17.heap.size) (.bool y0) (.bool y1) (.bool y2) (.bool y3) (.bool y4) (.bool y5) (.bool x0) (.bool x1) (.bool x2) (.bool x3) (.bool x4) (.bool x5) (.int .i64 H) = V1_25 at *
          clear hges1_25
          refine hK.out _ _ ⟨⟨oAs1_25, oBs1_25⟩, oXs1_25, oYs1_25⟩ (fun hHeld2 => ?_)
          clear hK K hHeld
          have hHeld := hHeld2
          clear hHeld2
          try simp only [Act.put, List.getElem_toArray, List.getElem_cons_zero, List.getElem_cons_succ, List.setIfInBounds_toArray, List.set_cons_zero, List.set_cons_succ]
          refine wpAnyH_done (by kernel_rfl) ?_ _
          try refine NoPanic.normal ?_
          go_wp2_with fail
          go_meet
          exact ⟨Y0.heap.size, W17.heap.size, rfl, rfl, r0s1_25, qs1_25, bbs1_25⟩
      · go_simp
        have hx26 := bl_alloc (bl_refl Y0) (.cells #[.bool false, .bool false, .bool false, .bool false, .bool false, .bool false, .bool false, .bool false, .bool false, .bool false, .bool false, .bool false, .int .i64 0] 75)
        have b1_26 := Own.new Y0 75 #[.bool false, .bool false, .bool false, .bool false, .bool false, .bool false, .bool false, .bool false, .bool false, .bool false, .bool false, .bool false, .int .i64 0]
        have hlo26 := bb0.size
        have hloA26 := oA0.lt
        have hloB26 := oB0.lt
        have hloX26 := oX0.lt
        have hloY26 := oY0.lt
        have oA26 := oA0.step hx26
        have oB26 := oB0.step hx26
        have oX26 := oX0.step hx26
        have oY26 := oY0.step hx26
        have bb26 := bl_trans bb0 hx26
        generalize hgx26 : (Y0.alloc (.cells #[.bool false, .bool false, .bool false, .bool false, .bool false, .bool false, .bool false, .bool false, .bool false, .bool false, .bool false, .bool false, .int .i64 0] 75)) = W26 at *
        clear hgx26
        refine hK.out _ _ ⟨⟨oA26, oB26⟩, oX26, oY26⟩ (fun hHeld2 => ?_)
        clear hK K hHeld
        have hHeld := hHeld2
        clear hHeld2
        try simp only [Act.put, List.getElem_toArray, List.getElem_cons_zero, List.getElem_cons_succ, List.setIfInBounds_toArray, List.set_cons_zero, List.set_cons_succ]
        refine wpAnyH_ready (rs := [2, 6]) (by kernel_rfl) (by simp) ?_
        refine (AllReadyH.cons rfl (fun K hK => ?_) (AllReadyH.cons rfl (fun K hK => ?_) AllReadyH.nil))
        · go_simp
          go_at_call 45
          refine (hO1.out W26 bb26).mono ?_
          rintro e W27 ⟨rfl, hx27⟩
          have oA27 := oA26.step hx27
          have oB27 := oB26.step hx27
          have oX27 := oX26.step hx27
          have oY27 := oY26.step hx27
          have b1_27 := b1_26.step hx27
          have bb27 := bl_trans bb26 hx27
          refine hK.out _ _ ⟨⟨oA27, oB27⟩, oX27, oY27⟩ (fun hHeld2 => ?_)
          clear hK K hHeld
          have hHeld := hHeld2
          clear hHeld2
          try simp only [Act.put, List.getElem_toArray, List.getElem_cons_zero, List.getElem_cons_succ, List.setIfInBounds_toArray, List.set_cons_zero, List.set_cons_succ]
          refine wpAnyH_ready (rs := [5, 6]) (by kernel_rfl) (by simp) ?_
          refine (AllReadyH.cons rfl (fun K hK => ?_) (AllReadyH.cons rfl (fun K hK => ?_) AllReadyH.nil))
          · go_simp
            go_at_call 45
            refine (hO2.out W27 bb27).mono ?_
            rintro e W28 ⟨rfl, hx28⟩
            have oA28 := oA27.step hx28
            have oB28 := oB27.step hx28
            have oX28 := oX27.step hx28
            have oY28 := oY27.step hx28
            have b1_28 := b1_27.step hx28
            have bb28 := bl_trans bb27 hx28
            refine hK.out _ _ ⟨⟨oA28, oB28⟩, oX28, oY28⟩ (fun hHeld2 => ?_)
            clear hK K hHeld
            have hHeld := hHeld2
            clear hHeld2
            try simp only [Act.put, List.getElem_toArray, List.getElem_cons_zero, List.getElem_cons_succ, List.setIfInBounds_toArray, List.set_cons_zero, List.set_cons_succ]
            refine wpAnyH_ready (rs := [6]) (by kernel_rfl) (by simp) ?_
            refine (AllReadyH.cons rfl (fun K hK => ?_) AllReadyH.nil)
            go_simp
            have hx29 := bl_alloc (bl_refl W28) (.cells #[.bool false, .bool false, .bool false, .bool false, .bool false, .bool false, .bool false, .bool false, .bool false, .bool false, .bool false, .bool false, .int .i64 0] 75)
            have b0_29 := Own.new W28 75 #[.bool false, .bool false, .bool false, .bool false, .bool false, .bool false, .bool false, .bool false, .bool false, .bool false, .bool false, .bool false, .int .i64 0]
            have hne29_1 : Y0.heap.size ≠ W28.heap.size := by have := b1_28.lt; omega
            have hlo29 := bb28.size
            have hloA29 := oA28.lt
            have hloB29 := oB28.lt
            have hloX29 := oX28.lt
            have hloY29 := oY28.lt
            have oA29 := oA28.step hx29
            have oB29 := oB28.step hx29
            have oX29 := oX28.step hx29
            have oY29 := oY28.step hx29
            have b1_29 := b1_28.step hx29
            have bb29 := bl_trans bb28 hx29
            generalize hgx29 : (W28.alloc (.cells #[.bool false, .bool false, .bool false, .bool false, .bool false, .bool false, .bool false, .bool false, .bool false, .bool false, .bool false, .bool false, .int .i64 0] 75)) = W29 at *
            clear hgx29
            refine hK.out _ _ ⟨⟨oA29, oB29⟩, oX29, oY29⟩ (fun hHeld2 => ?_)
            clear hK K hHeld
            have hHeld := hHeld2
            clear hHeld2
            try simp only [Act.put, List.getElem_toArray, List.getElem_cons_zero, List.getElem_cons_succ, List.setIfInBounds_toArray, List.set_cons_zero, List.set_cons_succ]
            refine wpAnyH_ready (rs := [8]) (by kernel_rfl) (by simp) ?_
            refine (AllReadyH.cons rfl (fun K hK => ?_) AllReadyH.nil)
            have z0 := b0_29.frozen 0
            have z1 := b0_29.frozen 1
            have z2 := b0_29.frozen 2
            have z3 := b0_29.frozen 3
            have z4 := b0_29.frozen 4
            have z5 := b0_29.frozen 5
            have z6 := b0_29.frozen 6
            have z7 := b0_29.frozen 7
            have z8 := b0_29.frozen 8
            have z9 := b0_29.frozen 9
            have z10 := b0_29.frozen 10
            have z11 := b0_29.frozen 11
            have z12 := b0_29.frozen 12
            obtain ⟨y0_, y1_, y2_, y3_, y4_, y5_, y6_, y7_, y8_, y9_, y10_, y11_, y12_⟩ := own_13 b0_29
            go_simp
            rw [show (((((((((((((W29.setCell ⟨W28.heap.size, 0, none⟩ (.bool x0)).setCell ⟨W28.heap.size, 1, none⟩ (.bool x1)).setCell ⟨W28.heap.size, 2, none⟩ (.bool x2)).setCell ⟨W28.heap.size, 3, none⟩ (.bool x3)).setCell ⟨W28.heap.size, 4, none⟩ (.bool x4)).setCell ⟨W28.heap.size, 5, none⟩ (.bool x5)).setCell ⟨W28.heap.size, 6, none⟩ (.bool y0)).setCell ⟨W28.heap.size, 7, none⟩ (.bool y1)).setCell ⟨W28.heap.size, 8, none⟩ (.bool y2)).setCell ⟨W28.heap.size, 9, none⟩ (.bool y3)).setCell ⟨W28.heap.size, 10, none⟩ (.bool y4)).setCell ⟨W28.heap.size, 11, none⟩ (.bool y5)).setCell ⟨W28.heap.size, 12, none⟩ (.int .i64 H)) = sets13 W29 (W28.heap.size) (.bool x0) (.bool x1) (.bool x2) (.bool x3) (.bool x4) (.bool x5) (.bool y0) (.bool y1) (.bool y2) (.bool y3) (.bool y4) (.bool y5) (.int .i64 H) from rfl]
            have qs0_29 := sets13_own (v0 := .bool x0) (v1 := .bool x1) (v2 := .bool x2) (v3 := .bool x3) (v4 := .bool x4) (v5 := .bool x5) (v6 := .bool y0) (v7 := .bool y1) (v8 := .bool y2) (v9 := .bool y3) (v10 := .bool y4) (v11 := .bool y5) (v12 := .int .i64 H) b0_29
            have far : ∀ k T cs, Own W29 k T cs → k ≠ W28.heap.size → Own (sets13 W29 (W28.heap.size) (.bool x0) (.bool x1) (.bool x2) (.bool x3) (.bool x4) (.bool x5) (.bool y0) (.bool y1) (.bool y2) (.bool y3) (.bool y4) (.bool y5) (.int .i64 H)) k T cs := fun _ _ _ h hk => sets13_far h hk
            have oAs0_29 := far _ _ _ oA29 (by omega)
            have oBs0_29 := far _ _ _ oB29 (by omega)
            have oXs0_29 := far _ _ _ oX29 (by omega)
            have oYs0_29 := far _ _ _ oY29 (by omega)
            have r1s0_29 := far _ _ _ b1_29 (by omega)
            have bbs0_29 := sets13_below (g := W28.heap.size) (v0 := .bool x0) (v1 := .bool x1) (v2 := .bool x2) (v3 := .bool x3) (v4 := .bool x4) (v5 := .bool x5) (v6 := .bool y0) (v7 := .bool y1) (v8 := .bool y2) (v9 := .bool y3) (v10 := .bool y4) (v11 := .bool y5) (v12 := .int .i64 H) bb29 (by omega)
            clear far z0 y0_ z1 y1_ z2 y2_ z3 y3_ z4 y4_ z5 y5_ z6 y6_ z7 y7_ z8 y8_ z9 y9_ z10 y10_ z11 y11_ z12 y12_ b0_29 b1_29
            generalize hges0_29 : sets13 W29 (W28.heap.size) (.bool x0) (.bool x1) (.bool x2) (.bool x3) (.bool x4) (.bool x5) (.bool y0) (.bool y1) (.bool y2) (.bool y3) (.bool y4) (.bool y5) (.int .i64 H) = V0_29 at *
            clear hges0_29
            refine hK.out _ _ ⟨⟨oAs0_29, oBs0_29⟩, oXs0_29, oYs0_29⟩ (fun hHeld2 => ?_)
            clear hK K hHeld
            have hHeld := hHeld2
            clear hHeld2
            try simp only [Act.put, List.getElem_toArray, List.getElem_cons_zero, List.getElem_cons_succ, List.setIfInBounds_toArray, List.set_cons_zero, List.set_cons_succ]
            refine wpAnyH_ready (rs := [9]) (by kernel_rfl) (by simp) ?_
            refine (AllReadyH.cons rfl (fun K hK => ?_) AllReadyH.nil)
            have z0 := r1s0_29.frozen 0
            have z1 := r1s0_29.frozen 1
            have z2 := r1s0_29.frozen 2
            have z3 := r1s0_29.frozen 3
            have z4 := r1s0_29.frozen 4
            have z5 := r1s0_29.frozen 5
            have z6 := r1s0_29.frozen 6
            have z7 := r1s0_29.frozen 7
            have z8 := r1s0_29.frozen 8
            have z9 := r1s0_29.frozen 9
            have z10 := r1s0_29.frozen 10
            have z11 := r1s0_29.frozen 11
            have z12 := r1s0_29.frozen 12
            obtain ⟨y0_, y1_, y2_, y3_, y4_, y5_, y6_, y7_, y8_, y9_, y10_, y11_, y12_⟩ := own_13 r1s0_29
            go_simp
            rw [show (((((((((((((V0_29.setCell ⟨Y0.heap.size, 0, none⟩ (.bool y0)).setCell ⟨Y0.heap.size, 1, none⟩ (.bool y1)).setCell ⟨Y0.heap.size, 2, none⟩ (.bool y2)).setCell ⟨Y0.heap.size, 3, none⟩ (.bool y3)).setCell ⟨Y0.heap.size, 4, none⟩ (.bool y4)).setCell ⟨Y0.heap.size, 5, none⟩ (.bool y5)).setCell ⟨Y0.heap.size, 6, none⟩ (.bool x0)).setCell ⟨Y0.heap.size, 7, none⟩ (.bool x1)).setCell ⟨Y0.heap.size, 8, none⟩ (.bool x2)).setCell ⟨Y0.heap.size, 9, none⟩ (.bool x3)).setCell ⟨Y0.heap.size, 10, none⟩ (.bool x4)).setCell ⟨Y0.heap.size, 11, none⟩ (.bool x5)).setCell ⟨Y0.heap.size, 12, none⟩ (.int .i64 H)) = sets13 V0_29 (Y0.heap.size) (.bool y0) (.bool y1) (.bool y2) (.bool y3) (.bool y4) (.bool y5) (.bool x0) (.bool x1) (.bool x2) (.bool x3) (.bool x4) (.bool x5) (.int .i64 H) from rfl]
            have qs1_29 := sets13_own (v0 := .bool y0) (v1 := .bool y1) (v2 := .bool y2) (v3 := .bool y3) (v4 := .bool y4) (v5 := .bool y5) (v6 := .bool x0) (v7 := .bool x1) (v8 := .bool x2) (v9 := .bool x3) (v10 := .bool x4) (v11 := .bool x5) (v12 := .int .i64 H) r1s0_29
            have far : ∀ k T cs, Own V0_29 k T cs → k ≠ Y0.heap.size → Own (sets13 V0_29 (Y0.heap.size) (.bool y0) (.bool y1) (.bool y2) (.bool y3) (.bool y4) (.bool y5) (.bool x0) (.bool x1) (.bool x2) (.bool x3) (.bool x4) (.bool x5) (.int .i64 H)) k T cs := fun _ _ _ h hk => sets13_far h hk
            have oAs1_29 := far _ _ _ oAs0_29 (by omega)
            have oBs1_29 := far _ _ _ oBs0_29 (by omega)
            have oXs1_29 := far _ _ _ oXs0_29 (by omega)
            have oYs1_29 := far _ _ _ oYs0_29 (by omega)
            have r0s1_29 := far _ _ _ qs0_29 (by omega)
            have bbs1_29 := sets13_below (g := Y0.heap.size) (v0 := .bool y0) (v1 := .bool y1) (v2 := .bool y2) (v3 := .bool y3) (v4 := .bool y4) (v5 := .bool y5) (v6 := .bool x0) (v7 := .bool x1) (v8 := .bool x2) (v9 := .bool x3) (v10 := .bool x4) (v11 := .bool x5) (v12 := .int .i64 H) bbs0_29 (by omega)
            clear far z0 y0_ z1 y1_ z2 y2_ z3 y3_ z4 y4_ z5 y5_ z6 y6_ z7 y7_ z8 y8_ z9 y9_ z10 y10_ z11 y11_ z12 y12_ qs0_29 r1s0_29
            generalize hges1_29 : sets13 V0_29 (Y0.heap.size) (.bool y0) (.bool y1) (.bool y2) (.bool y3) (.bool y4) (.bool y5) (.bool x0) (.bool x1) (.bool x2) (.bool x3) (.bool x4) (.bool x5) (.int .i64 H) = V1_29 at *
            clear hges1_29
            refine hK.out _ _ ⟨⟨oAs1_29, oBs1_29⟩, oXs1_29, oYs1_29⟩ (fun hHeld2 => ?_)
            clear hK K hHeld
            have hHeld := hHeld2
            clear hHeld2
            try simp only [Act.put, List.getElem_toArray, List.getElem_cons_zero, List.getElem_cons_succ, List.setIfInBounds_toArray, List.set_cons_zero, List.set_cons_succ]
            refine wpAnyH_done (by kernel_rfl) ?_ _
            try refine NoPanic.normal ?_
            go_wp2_with fail
            go_meet
            exact ⟨W28.heap.size, Y0.heap.size, rfl, rfl, r0s1_29, qs1_29, bbs1_29⟩
          · go_simp
            have hx30 := bl_alloc (bl_refl W27) (.cells #[.bool false, .bool false, .bool false, .bool false, .bool false, .bool false, .bool false, .bool false, .bool false, .bool false, .bool false, .bool false, .int .i64 0] 75)
            have b0_30 := Own.new W27 75 #[.bool false, .bool false, .bool false, .bool false, .bool false, .bool false, .bool false, .bool false, .bool false, .bool false, .bool false, .bool false, .int .i64 0]
            have hne30_1 : Y0.heap.size ≠ W27.heap.size := by have := b1_27.lt; omega
            have hlo30 := bb27.size
            have hloA30 := oA27.lt
            have hloB30 := oB27.lt
            have hloX30 := oX27.lt
            have hloY30 := oY27.lt
            have oA30 := oA27.step hx30
            have oB30 := oB27.step hx30
            have oX30 := oX27.step hx30
            have oY30 := oY27.step hx30
            have b1_30 := b1_27.step hx30
            have bb30 := bl_trans bb27 hx30
            generalize hgx30 : (W27.alloc (.cells #[.bool false, .bool false, .bool false, .bool false, .bool false, .bool false, .bool false, .bool false, .bool false, .bool false, .bool false, .bool false, .int .i64 0] 75)) = W30 at *
            clear hgx30
            refine hK.out _ _ ⟨⟨oA30, oB30⟩, oX30, oY30⟩ (fun hHeld2 => ?_)
            clear hK K hHeld
            have hHeld := hHeld2
            clear hHeld2
            try simp only [Act.put, List.getElem_toArray, List.getElem_cons_zero, List.getElem_cons_succ, List.setIfInBounds_toArray, List.set_cons_zero, List.set_cons_succ]
            refine wpAnyH_ready (rs := [5]) (by kernel_rfl) (by simp) ?_
            refine (AllReadyH.cons rfl (fun K hK => ?_) AllReadyH.nil)
            go_simp
            go_at_call 45
            refine (hO2.out W30 bb30).mono ?_
            rintro e W31 ⟨rfl, hx31⟩
            have oA31 := oA30.step hx31
            have oB31 := oB30.step hx31
            have oX31 := oX30.step hx31
            have oY31 := oY30.step hx31
            have b0_31 := b0_30.step hx31
            have b1_31 := b1_30.step hx31
            have bb31 := bl_trans bb30 hx31
            refine hK.out _ _ ⟨⟨oA31, oB31⟩, oX31, oY31⟩ (fun hHeld2 => ?_)
            clear hK K hHeld
            have hHeld := hHeld2
            clear hHeld2
            try simp only [Act.put, List.getElem_toArray, List.getElem_cons_zero, List.getElem_cons_succ, List.setIfInBounds_toArray, List.set_cons_zero, List.set_cons_succ]
            refine wpAnyH_ready (rs := [8]) (by kernel_rfl) (by simp) ?_
            refine (AllReadyH.cons rfl (fun K hK => ?_) AllReadyH.nil)
            have z0 := b0_31.frozen 0
            have z1 := b0_31.frozen 1
            have z2 := b0_31.frozen 2
            have z3 := b0_31.frozen 3
            have z4 := b0_31.frozen 4
            have z5 := b0_31.frozen 5
            have z6 := b0_31.frozen 6
            have z7 := b0_31.frozen 7
            have z8 := b0_31.frozen 8
            have z9 := b0_31.frozen 9
            have z10 := b0_31.frozen 10
            have z11 := b0_31.frozen 11
            have z12 := b0_31.frozen 12
            obtain ⟨y0_, y1_, y2_, y3_, y4_, y5_, y6_, y7_, y8_, y9_, y10_, y11_, y12_⟩ := own_13 b0_31
            go_simp
            rw [show (((((((((((((W31.setCell ⟨W27.heap.size, 0, none⟩ (.bool x0)).setCell ⟨W27.heap.size, 1, none⟩ (.bool x1)).setCell ⟨W27.heap.size, 2, none⟩ (.bool x2)).setCell ⟨W27.heap.size, 3, none⟩ (.bool x3)).setCell ⟨W27.heap.size, 4, none⟩ (.bool x4)).setCell ⟨W27.heap.size, 5, none⟩ (.bool x5)).setCell ⟨W27.heap.size, 6, none⟩ (.bool y0)).setCell ⟨W27.heap.size, 7, none⟩ (.bool y1)).setCell ⟨W27.heap.size, 8, none⟩ (.bool y2)).setCell ⟨W27.heap.size, 9, none⟩ (.bool y3)).setCell ⟨W27.heap.size, 10, none⟩ (.bool y4)).setCell ⟨W27.heap.size, 11, none⟩ (.bool y5)).setCell ⟨W27.heap.size, 12, none⟩ (.int .i64 H)) = sets13 W31 (W27.heap.size) (.bool x0) (.bool x1) (.bool x2) (.bool x3) (.bool x4) (.bool x5) (.bool y0) (.bool y1) (.bool y2) (.bool y3) (.bool y4) (.bool y5) (.int .i64 H) from rfl]
            have qs0_31 := sets13_own (v0 := .bool x0) (v1 := .bool x1) (v2 := .bool x2) (v3 := .bool x3) (v4 := .bool x4) (v5 := .bool x5) (v6 := .bool y0) (v7 := .bool y1) (v8 := .bool y2) (v9 := .bool y3) (v10 := .bool y4) (v11 := .bool y5) (v12 := .int .i64 H) b0_31
            have far : ∀ k T cs, Own W31 k T cs → k ≠ W27.heap.size → Own (sets13 W31 (W27.heap.size) (.bool x0) (.bool x1) (.bool x2) (.bool x3) (.bool x4) (.bool x5) (.bool y0) (.bool y1) (.bool y2) (.bool y3) (.bool y4) (.bool y5) (.int .i64 H)) k T cs := fun _ _ _ h hk => sets13_far h hk
            have oAs0_31 := far _ _ _ oA31 (by omega)
            have oBs0_31 := far _ _ _ oB31 (by omega)
            have oXs0_31 := far _ _ _ oX31 (by omega)
            have oYs0_31 := far _ _ _ oY31 (by omega)
            have r1s0_31 := far _ _ _ b1_31 (by omega)
            have bbs0_31 := sets13_below (g := W27.heap.size) (v0 := .bool x0) (v1 := .bool x1) (v2 := .bool x2) (v3 := .bool x3) (v4 := .bool x4) (v5 := .bool x5) (v6 := .bool y0) (v7 := .bool y1) (v8 := .bool y2) (v9 := .bool y3) (v10 := .bool y4) (v11 := .bool y5) (v12 := .int .i64 H) bb31 (by omega)
            clear far z0 y0_ z1 y1_ z2 y2_ z3 y3_ z4 y4_ z5 y5_ z6 y6_ z7 y7_ z8 y8_ z9 y9_ z10 y10_ z11 y11_ z12 y12_ b0_31 b1_31
            generalize hges0_31 : sets13 W31 (W27.heap.size) (.bool x0) (.bool x1) (.bool x2) (.bool x3) (.bool x4) (.bool x5) (.bool y0) (.bool y1) (.bool y2) (.bool y3) (.bool y4) (.bool y5) (.int .i64 H) = V0_31 at *
            clear hges0_31
            refine hK.out _ _ ⟨⟨oAs0_31, oBs0_31⟩, oXs0_31, oYs0_31⟩ (fun hHeld2 => ?_)
            clear hK K hHeld
            have hHeld := hHeld2
            clear hHeld2
            try simp only [Act.put, List.getElem_toArray, List.getElem_cons_zero, List.getElem_cons_succ, List.setIfInBounds_toArray, List.set_cons_zero, List.set_cons_succ]
            refine wpAnyH_ready (rs := [9]) (by kernel_rfl) (by simp) ?_
            refine (AllReadyH.cons rfl (fun K hK => ?_) AllReadyH.nil)
            have z0 := r1s0_31.frozen 0
            have z1 := r1s0_31.frozen 1
            have z2 := r1s0_31.frozen 2
            have z3 := r1s0_31.frozen 3
            have z4 := r1s0_31.frozen 4
            have z5 := r1s0_31.frozen 5
            have z6 := r1s0_31.frozen 6
            have z7 := r1s0_31.frozen 7
            have z8 := r1s0_31.frozen 8
            have z9 := r1s0_31.frozen 9
            have z10 := r1s0_31.frozen 10
            have z11 := r1s0_31.frozen 11
            have z12 := r1s0_31.frozen 12
            obtain ⟨y0_, y1_, y2_, y3_, y4_, y5_, y6_, y7_, y8_, y9_, y10_, y11_, y12_⟩ := own_13 r1s0_31
            go_simp
            rw [show (((((((((((((V0_31.setCell ⟨Y0.heap.size, 0, none⟩ (.bool y0)).setCell ⟨Y0.heap.size, 1, none⟩ (.bool y1)).setCell ⟨Y0.heap.size, 2, none⟩ (.bool y2)).setCell ⟨Y0.heap.size, 3, none⟩ (.bool y3)).setCell ⟨Y0.heap.size, 4, none⟩ (.bool y4)).setCell ⟨Y0.heap.size, 5, none⟩ (.bool y5)).setCell ⟨Y0.heap.size, 6, none⟩ (.bool x0)).setCell ⟨Y0.heap.size, 7, none⟩ (.bool x1)).setCell ⟨Y0.heap.size, 8, none⟩ (.bool x2)).setCell ⟨Y0.heap.size, 9, none⟩ (.bool x3)).setCell ⟨Y0.heap.size, 10, none⟩ (.bool x4)).setCell ⟨Y0.heap.size, 11, none⟩ (.bool x5)).setCell ⟨Y0.heap.size, 12, none⟩ (.int .i64 H)) = sets13 V0_31 (Y0.heap.size) (.bool y0) (.bool y1) (.bool y2) (.bool y3) (.bool y4) (.bool y5) (.bool x0) (.bool x1) (.bool x2) (.bool x3) (.bool x4) (.bool x5) (.int .i64 H) from rfl]
            have qs1_31 := sets13_own (v0 := .bool y0) (v1 := .bool y1) (v2 := .bool y2) (v3 := .bool y3) (v4 := .bool y4) (v5 := .bool y5) (v6 := .bool x0) (v7 := .bool x1) (v8 := .bool x2) (v9 := .bool x3) (v10 := .bool x4) (v11 := .bool x5) (v12 := .int .i64 H) r1s0_31
            have far : ∀ k T cs, Own V0_31 k T cs → k ≠ Y0.heap.size → Own (sets13 V0_31 (Y0.heap.size) (.bool y0) (.bool y1) (.bool y2) (.bool y3) (.bool y4) (.bool y5) (.bool x0) (.bool x1) (.bool x2) (.bool x3) (.bool x4) (.bool x5) (.int .i64 H)) k T cs := fun _ _ _ h hk => sets13_far h hk
            have oAs1_31 := far _ _ _ oAs0_31 (by omega)
            have oBs1_31 := far _ _ _ oBs0_31 (by omega)
            have oXs1_31 := far _ _ _ oXs0_31 (by omega)
            have oYs1_31 := far _ _ _ oYs0_31 (by omega)
            have r0s1_31 := far _ _ _ qs0_31 (by omega)
            have bbs1_31 := sets13_below (g := Y0.heap.size) (v0 := .bool y0) (v1 := .bool y1) (v2 := .bool y2) (v3 := .bool y3) (v4 := .bool y4) (v5 := .bool y5) (v6 := .bool x0) (v7 := .bool x1) (v8 := .bool x2) (v9 := .bool x3) (v10 := .bool x4) (v11 := .bool x5) (v12 := .int .i64 H) bbs0_31 (by omega)
            clear far z0 y0_ z1 y1_ z2 y2_ z3 y3_ z4 y4_ z5 y5_ z6 y6_ z7 y7_ z8 y8_ z9 y9_ z10 y10_ z11 y11_ z12 y12_ qs0_31 r1s0_31
            generalize hges1_31 : sets13 V0_31 (Y0.heap.size) (.bool y0) (.bool y1) (.bool y2) (.bool y3) (.bool y4) (.bool y5) (.bool x0) (.bool x1) (.bool x2) (.bool x3) (.bool x4) (.bool x5) (.int .i64 H) = V1_31 at *
            clear hges1_31
            refine hK.out _ _ ⟨⟨oAs1_31, oBs1_31⟩, oXs1_31, oYs1_31⟩ (fun hHeld2 => ?_)
            clear hK K hHeld
            have hHeld := hHeld2
            clear hHeld2
            try simp only [Act.put, List.getElem_toArray, List.getElem_cons_zero, List.getElem_cons_succ, List.setIfInBounds_toArray, List.set_cons_zero, List.set_cons_succ]
            refine wpAnyH_done (by kernel_rfl) ?_ _
            try refine NoPanic.normal ?_
            go_wp2_with fail
            go_meet
            exact ⟨W27.heap.size, Y0.heap.size, rfl, rfl, r0s1_31, qs1_31, bbs1_31⟩
        · go_simp
          have hx32 := bl_alloc (bl_refl W26) (.cells #[.bool false, .bool false, .bool false, .bool false, .bool false, .bool false, .bool false, .bool false, .bool false, .bool false, .bool false, .bool false, .int .i64 0] 75)
          have b0_32 := Own.new W26 75 #[.bool false, .bool false, .bool false, .bool false, .bool false, .bool false, .bool false, .bool false, .bool false, .bool false, .bool false, .bool false, .int .i64 0]
          have hne32_1 : Y0.heap.size ≠ W26.heap.size := by have := b1_26.lt; omega
          have hlo32 := bb26.size
          have hloA32 := oA26.lt
          have hloB32 := oB26.lt
          have hloX32 := oX26.lt
          have hloY32 := oY26.lt
          have oA32 := oA26.step hx32
          have oB32 := oB26.step hx32
          have oX32 := oX26.step hx32
          have oY32 := oY26.step hx32
          have b1_32 := b1_26.step hx32
          have bb32 := bl_trans bb26 hx32
          generalize hgx32 : (W26.alloc (.cells #[.bool false, .bool false, .bool false, .bool false, .bool false, .bool false, .bool false, .bool false, .bool false, .bool false, .bool false, .bool false, .int .i64 0] 75)) = W32 at *
          clear hgx32
          refine hK.out _ _ ⟨⟨oA32, oB32⟩, oX32, oY32⟩ (fun hHeld2 => ?_)
          clear hK K hHeld
          have hHeld := hHeld2
          clear hHeld2
          try simp only [Act.put, List.getElem_toArray, List.getElem_cons_zero, List.getElem_cons_succ, List.setIfInBounds_toArray, List.set_cons_zero, List.set_cons_succ]
          refine wpAnyH_ready (rs := [2]) (by kernel_rfl) (by simp) ?_
          refine (AllReadyH.cons rfl (fun K hK => ?_) AllReadyH.nil)
          go_simp
          go_at_call 45
          refine (hO1.out W32 bb32).mono ?_
          rintro e W33 ⟨rfl, hx33⟩
          have oA33 := oA32.step hx33
          have oB33 := oB32.step hx33
          have oX33 := oX32.step hx33
          have oY33 := oY32.step hx33
          have b0_33 := b0_32.step hx33
          have b1_33 := b1_32.step hx33
          have bb33 := bl_trans bb32 hx33
          refine hK.out _ _ ⟨⟨oA33, oB33⟩, oX33, oY33⟩ (fun hHeld2 => ?_)
          clear hK K hHeld
          have hHeld := hHeld2
          clear hHeld2
          try simp only [Act.put, List.getElem_toArray, List.getElem_cons_zero, List.getElem_cons_succ, List.setIfInBounds_toArray, List.set_cons_zero, List.set_cons_succ]
          refine wpAnyH_ready (rs := [5]) (by kernel_rfl) (by simp) ?_
          refine (AllReadyH.cons rfl (fun K hK => ?_) AllReadyH.nil)
          go_simp
          go_at_call 45
          refine (hO2.out W33 bb33).mono ?_
          rintro e W34 ⟨rfl, hx34⟩
          have oA34 := oA33.step hx34
          have oB34 := oB33.step hx34
          have oX34 := oX33.step hx34
          have oY34 := oY33.step hx34
          have b0_34 := b0_33.step hx34
          have b1_34 := b1_33.step hx34
          have bb34 := bl_trans bb33 hx34
          refine hK.out _ _ ⟨⟨oA34, oB34⟩, oX34, oY34⟩ (fun hHeld2 => ?_)
          clear hK K hHeld
          have hHeld := hHeld2
          clear hHeld2
          try simp only [Act.put, List.getElem_toArray, List.getElem_cons_zero, List.getElem_cons_succ, List.setIfInBounds_toArray, List.set_cons_zero, List.set_cons_succ]
          refine wpAnyH_ready (rs := [8]) (by kernel_rfl) (by simp) ?_
          refine (AllReadyH.cons rfl (fun K hK => ?_) AllReadyH.nil)
          have z0 := b0_34.frozen 0
          have z1 := b0_34.frozen 1
          have z2 := b0_34.frozen 2
          have z3 := b0_34.frozen 3
          have z4 := b0_34.frozen 4
          have z5 := b0_34.frozen 5
          have z6 := b0_34.frozen 6
          have z7 := b0_34.frozen 7
          have z8 := b0_34.frozen 8
          have z9 := b0_34.frozen 9
          have z10 := b0_34.frozen 10
          have z11 := b0_34.frozen 11
          have z12 := b0_34.frozen 12
          obtain ⟨y0_, y1_, y2_, y3_, y4_, y5_, y6_, y7_, y8_, y9_, y10_, y11_, y12_⟩ := own_13 b0_34
          go_simp
          rw [show (((((((((((((W34.setCell ⟨W26.heap.size, 0, none⟩ (.bool x0)).setCell ⟨W26.heap.size, 1, none⟩ (.bool x1)).setCell ⟨W26.heap.size, 2, none⟩ (.bool x2)).setCell ⟨W26.heap.size, 3, none⟩ (.bool x3)).setCell ⟨W26.heap.size, 4, none⟩ (.bool x4)).setCell ⟨W26.heap.size, 5, none⟩ (.bool x5)).setCell ⟨W26.heap.size, 6, none⟩ (.bool y0)).setCell ⟨W26.heap.size, 7, none⟩ (.bool y1)).setCell ⟨W26.heap.size, 8, none⟩ (.bool y2)).setCell ⟨W26.heap.size, 9, none⟩ (.bool y3)).setCell ⟨W26.heap.size, 10, none⟩ (.bool y4)).setCell ⟨W26.heap.size, 11, none⟩ (.bool y5)).setCell ⟨W26.heap.size, 12, none⟩ (.int .i64 H)) = sets13 W34 (W26.heap.size) (.bool x0) (.bool x1) (.bool x2) (.bool x3) (.bool x4) (.bool x5) (.bool y0) (.bool y1) (.bool y2) (.bool y3) (.bool y4) (.bool y5) (.int .i64 H) from rfl]
          have qs0_34 := sets13_own (v0 := .bool x0) (v1 := .bool x1) (v2 := .bool x2) (v3 := .bool x3) (v4 := .bool x4) (v5 := .bool x5) (v6 := .bool y0) (v7 := .bool y1) (v8 := .bool y2) (v9 := .bool y3) (v10 := .bool y4) (v11 := .bool y5) (v12 := .int .i64 H) b0_34
          have far : ∀ k T cs, Own W34 k T cs → k ≠ W26.heap.size → Own (sets13 W34 (W26.heap.size) (.bool x0) (.bool x1) (.bool x2) (.bool x3) (.bool x4) (.bool x5) (.bool y0) (.bool y1) (.bool y2) (.bool y3) (.bool y4) (.bool y5) (.int .i64 H)) k T cs := fun _ _ _ h hk => sets13_far h hk
          have oAs0_34 := far _ _ _ oA34 (by omega)
          have oBs0_34 := far _ _ _ oB34 (by omega)
          have oXs0_34 := far _ _ _ oX34 (by omega)
          have oYs0_34 := far _ _ _ oY34 (by omega)
          have r1s0_34 := far _ _ _ b1_34 (by omega)
          have bbs0_34 := sets13_below (g := W26.heap.size) (v0 := .bool x0) (v1 := .bool x1) (v2 := .bool x2) (v3 := .bool x3) (v4 := .bool x4) (v5 := .bool x5) (v6 := .bool y0) (v7 := .bool y1) (v8 := .bool y2) (v9 := .bool y3) (v10 := .bool y4) (v11 := .bool y5) (v12 := .int .i64 H) bb34 (by omega)
          clear far z0 y0_ z1 y1_ z2 y2_ z3 y3_ z4 y4_ z5 y5_ z6 y6_ z7 y7_ z8 y8_ z9 y9_ z10 y10_ z11 y11_ z12 y12_ b0_34 b1_34
          generalize hges0_34 : sets13 W34 (W26.heap.size) (.bool x0) (.bool x1) (.bool x2) (.bool x3) (.bool x4) (.bool x5) (.bool y0) (.bool y1) (.bool y2) (.bool y3) (.bool y4) (.bool y5) (.int .i64 H) = V0_34 at *
          clear hges0_34
          refine hK.out _ _ ⟨⟨oAs0_34, oBs0_34⟩, oXs0_34, oYs0_34⟩ (fun hHeld2 => ?_)
          clear hK K hHeld
          have hHeld := hHeld2
          clear hHeld2
          try simp only [Act.put, List.getElem_toArray, List.getElem_cons_zero, List.getElem_cons_succ, List.setIfInBounds_toArray, List.set_cons_zero, List.set_cons_succ]
          refine wpAnyH_ready (rs := [9]) (by kernel_rfl) (by simp) ?_
          refine (AllReadyH.cons rfl (fun K hK => ?_) AllReadyH.nil)
          have z0 := r1s0_34.frozen 0
          have z1 := r1s0_34.frozen 1
          have z2 := r1s0_34.frozen 2
          have z3 := r1s0_34.frozen 3
          have z4 := r1s0_34.frozen 4
          have z5 := r1s0_34.frozen 5
          have z6 := r1s0_34.frozen 6
          have z7 := r1s0_34.frozen 7
          have z8 := r1s0_34.frozen 8
          have z9 := r1s0_34.frozen 9
          have z10 := r1s0_34.frozen 10
          have z11 := r1s0_34.frozen 11
          have z12 := r1s0_34.frozen 12
          obtain ⟨y0_, y1_, y2_, y3_, y4_, y5_, y6_, y7_, y8_, y9_, y10_, y11_, y12_⟩ := own_13 r1s0_34
          go_simp
          rw [show (((((((((((((V0_34.setCell ⟨Y0.heap.size, 0, none⟩ (.bool y0)).setCell ⟨Y0.heap.size, 1, none⟩ (.bool y1)).setCell ⟨Y0.heap.size, 2, none⟩ (.bool y2)).setCell ⟨Y0.heap.size, 3, none⟩ (.bool y3)).setCell ⟨Y0.heap.size, 4, none⟩ (.bool y4)).setCell ⟨Y0.heap.size, 5, none⟩ (.bool y5)).setCell ⟨Y0.heap.size, 6, none⟩ (.bool x0)).setCell ⟨Y0.heap.size, 7, none⟩ (.bool x1)).setCell ⟨Y0.heap.size, 8, none⟩ (.bool x2)).setCell ⟨Y0.heap.size, 9, none⟩ (.bool x3)).setCell ⟨Y0.heap.size, 10, none⟩ (.bool x4)).setCell ⟨Y0.heap.size, 11, none⟩ (.bool x5)).setCell ⟨Y0.heap.size, 12, none⟩ (.int .i64 H)) = sets13 V0_34 (Y0.heap.size) (.bool y0) (.bool y1) (.bool y2) (.bool y3) (.bool y4) (.bool y5) (.bool x0) (.bool x1) (.bool x2) (.bool x3) (.bool x4) (.bool x5) (.int .i64 H) from rfl]
          have qs1_34 := sets13_own (v0 := .bool y0) (v1 := .bool y1) (v2 := .bool y2) (v3 := .bool y3) (v4 := .bool y4) (v5 := .bool y5) (v6 := .bool x0) (v7 := .bool x1) (v8 := .bool x2) (v9 := .bool x3) (v10 := .bool x4) (v11 := .bool x5) (v12 := .int .i64 H) r1s0_34
          have far : ∀ k T cs, Own V0_34 k T cs → k ≠ Y0.heap.size → Own (sets13 V0_34 (Y0.heap.size) (.bool y0) (.bool y1) (.bool y2) (.bool y3) (.bool y4) (.bool y5) (.bool x0) (.bool x1) (.bool x2) (.bool x3) (.bool x4) (.bool x5) (.int .i64 H)) k T cs := fun _ _ _ h hk => sets13_far h hk
          have oAs1_34 := far _ _ _ oAs0_34 (by omega)
          have oBs1_34 := far _ _ _ oBs0_34 (by omega)
          have oXs1_34 := far _ _ _ oXs0_34 (by omega)
          have oYs1_34 := far _ _ _ oYs0_34 (by omega)
          have r0s1_34 := far _ _ _ qs0_34 (by omega)
          have bbs1_34 := sets13_below (g := Y0.heap.size) (v0 := .bool y0) (v1 := .bool y1) (v2 := .bool y2) (v3 := .bool y3) (v4 := .bool y4) (v5 := .bool y5) (v6 := .bool x0) (v7 := .bool x1) (v8 := .bool x2) (v9 := .bool x3) (v10 := .bool x4) (v11 := .bool x5) (v12 := .int .i64 H) bbs0_34 (by omega)
          clear far z0 y0_ z1 y1_ z2 y2_ z3 y3_ z4 y4_ z5 y5_ z6 y6_ z7 y7_ z8 y8_ z9 y9_ z10 y10_ z11 y11_ z12 y12_ qs0_34 r1s0_34
          generalize hges1_34 : sets13 V0_34 (Y0.heap.size) (.bool y0) (.bool y1) (.bool y2) (.bool y3) (.bool y4) (.bool y5) (.bool x0) (.bool x1) (.bool x2) (.bool x3) (.bool x4) (.bool x5) (.int .i64 H) = V1_34 at *
          clear hges1_34
          refine hK.out _ _ ⟨⟨oAs1_34, oBs1_34⟩, oXs1_34, oYs1_34⟩ (fun hHeld2 => ?_)
          clear hK K hHeld
          have hHeld := hHeld2
          clear hHeld2
          try simp only [Act.put, List.getElem_toArray, List.getElem_cons_zero, List.getElem_cons_succ, List.setIfInBounds_toArray, List.set_cons_zero, List.set_cons_succ]
          refine wpAnyH_done (by kernel_rfl) ?_ _
          try refine NoPanic.normal ?_
          go_wp2_with fail
          go_meet
          exact ⟨W26.heap.size, Y0.heap.size, rfl, rfl, r0s1_34, qs1_34, bbs1_34⟩
    case rest =>
    obtain ⟨wd, hwd⟩ : ∃ z, z = wc := ⟨_, rfl⟩
    subst hwd
    obtain ⟨g7, g8, rfl, rfl, o7, o8, hbx⟩ := hcut
    have hbd := bl_trans hb4 hbx
    have oA4 := oA3.step hbx
    have oB4 := oB3.step hbx
    have o54 := o5.step hbx
    have o64 := o6.step hbx
    clear oA3 oB3 o5 o6 hb4
    go_upto_region 5 with fail
    go_cut [9] (fun v9 wx => GivW wd #[.bool x0, .bool x1, .bool x2, .bool x3, .bool x4, .bool x5, .bool y0, .bool y1, .bool y2, .bool y3, .bool y4, .bool y5, .int .i64 H] v9 wx)
    case first =>
      refine wp_region_held_drew (S := (fun X => Own X w.heap.size 41 #[.int .u32 p, .int .i64 q, .int .u32 r, .slice A n c] ∧ Own X (w.heap.size + 1) 41 #[.int .u32 p', .int .i64 q', .int .u32 r', .slice A' n' c'])) (by kernel_rfl) ⟨oA4.drew, oB4.drew⟩ (fun hHeld => ?_)
      have oA0 := oA4.drew
      have oB0 := oB4.drew
      have bb0 : Below wd.heap.size wd wd.drew := bl_drewN (bl_refl wd) 1
      generalize wd.drew = Y0 at *
      refine wpAnyH_take (i := 0) (v := ?_) rfl (by kernel_rfl) (by kernel_rfl) (by kernel_rfl) (fun _ _ _ h => h) (Or.inl ⟨by rfl, ?_⟩) (by assumption) ?_
      rotate_left
      · (intro W hSw; have s0 : Own W w.heap.size 41 #[.int .u32 p, .int .i64 q, .int .u32 r, .slice A n c] := hSw.1; have s1 : Own W (w.heap.size + 1) 41 #[.int .u32 p', .int .i64 q', .int .u32 r', .slice A' n' c'] := hSw.2; obtain ⟨e0, e1, e2, e3⟩ := own_end s0; go_simp; try with_reducible rfl)
      simp only [Act.put, List.getElem_toArray, List.getElem_cons_zero, List.setIfInBounds_toArray, List.set_cons_zero, List.set_cons_succ]
      refine wpAnyH_take (i := 1) (v := ?_) rfl (by kernel_rfl) (by kernel_rfl) (by kernel_rfl) (fun _ _ _ h => h) (Or.inl ⟨by rfl, ?_⟩) (by assumption) ?_
      rotate_left
      · (intro W hSw; have s0 : Own W w.heap.size 41 #[.int .u32 p, .int .i64 q, .int .u32 r, .slice A n c] := hSw.1; have s1 : Own W (w.heap.size + 1) 41 #[.int .u32 p', .int .i64 q', .int .u32 r', .slice A' n' c'] := hSw.2; obtain ⟨e0, e1, e2, e3⟩ := own_end s1; go_simp; try with_reducible rfl)
      simp only [Act.put, List.getElem_toArray, List.getElem_cons_zero, List.getElem_cons_succ, List.setIfInBounds_toArray, List.set_cons_zero, List.set_cons_succ]
      refine wpAnyH_take (i := 3) (v := ?_) rfl (by kernel_rfl) (by kernel_rfl) (by kernel_rfl) (fun _ _ _ h => h) (Or.inl ⟨by rfl, ?_⟩) (by assumption) ?_
      rotate_left
      · (intro W hSw; have s0 : Own W w.heap.size 41 #[.int .u32 p, .int .i64 q, .int .u32 r, .slice A n c] := hSw.1; have s1 : Own W (w.heap.size + 1) 41 #[.int .u32 p', .int .i64 q', .int .u32 r', .slice A' n' c'] := hSw.2; obtain ⟨e0, e1, e2, e3⟩ := own_end s1; go_simp; try with_reducible rfl)
      simp only [Act.put, List.getElem_toArray, List.getElem_cons_zero, List.getElem_cons_succ, List.setIfInBounds_toArray, List.set_cons_zero, List.set_cons_succ]
      refine wpAnyH_take (i := 4) (v := ?_) rfl (by kernel_rfl) (by kernel_rfl) (by kernel_rfl) (fun _ _ _ h => h) (Or.inl ⟨by rfl, ?_⟩) (by assumption) ?_
      rotate_left
      · (intro W hSw; have s0 : Own W w.heap.size 41 #[.int .u32 p, .int .i64 q, .int .u32 r, .slice A n c] := hSw.1; have s1 : Own W (w.heap.size + 1) 41 #[.int .u32 p', .int .i64 q', .int .u32 r', .slice A' n' c'] := hSw.2; obtain ⟨e0, e1, e2, e3⟩ := own_end s0; go_simp; try with_reducible rfl)
      simp only [Act.put, List.getElem_toArray, List.getElem_cons_zero, List.getElem_cons_succ, List.setIfInBounds_toArray, List.set_cons_zero, List.set_cons_succ]
      refine wpAnyH_take (i := 6) (v := ?_) rfl (by kernel_rfl) (by kernel_rfl) (by kernel_rfl) (fun _ _ _ h => h) (Or.inl ⟨by rfl, ?_⟩) (by assumption) ?_
      rotate_left
      · (intro W hSw; have s0 : Own W w.heap.size 41 #[.int .u32 p, .int .i64 q, .int .u32 r, .slice A n c] := hSw.1; have s1 : Own W (w.heap.size + 1) 41 #[.int .u32 p', .int .i64 q', .int .u32 r', .slice A' n' c'] := hSw.2; obtain ⟨e0, e1, e2, e3⟩ := own_end s0; go_simp; try with_reducible rfl)
      simp only [Act.put, List.getElem_toArray, List.getElem_cons_zero, List.getElem_cons_succ, List.setIfInBounds_toArray, List.set_cons_zero, List.set_cons_succ]
      refine wpAnyH_take (i := 7) (v := ?_) rfl (by kernel_rfl) (by kernel_rfl) (by kernel_rfl) (fun _ _ _ h => h) (Or.inl ⟨by rfl, ?_⟩) (by assumption) ?_
      rotate_left
      · (intro W hSw; have s0 : Own W w.heap.size 41 #[.int .u32 p, .int .i64 q, .int .u32 r, .slice A n c] := hSw.1; have s1 : Own W (w.heap.size + 1) 41 #[.int .u32 p', .int .i64 q', .int .u32 r', .slice A' n' c'] := hSw.2; obtain ⟨e0, e1, e2, e3⟩ := own_end s1; go_simp; try with_reducible rfl)
      simp only [Act.put, List.getElem_toArray, List.getElem_cons_zero, List.getElem_cons_succ, List.setIfInBounds_toArray, List.set_cons_zero, List.set_cons_succ]
      refine wpAnyH_ready (rs := [2, 10]) (by kernel_rfl) (by simp) ?_
      refine (AllReadyH.cons rfl (fun K hK => ?_) (AllReadyH.cons rfl (fun K hK => ?_) AllReadyH.nil))
      · go_simp
        go_at_call 40
        refine (hOa.out Y0 (bl_trans hbx bb0)).mono ?_
        rintro e W1 ⟨rfl, hx1⟩
        have oA1 := oA0.step hx1
        have oB1 := oB0.step hx1
        have bb1 := bl_trans bb0 hx1
        refine hK.out _ _ ⟨oA1, oB1⟩ (fun hHeld2 => ?_)
        clear hK K hHeld
        have hHeld := hHeld2
        clear hHeld2
        try simp only [Act.put, List.getElem_toArray, List.getElem_cons_zero, List.getElem_cons_succ, List.setIfInBounds_toArray, List.set_cons_zero, List.set_cons_succ]
        refine wpAnyH_ready (rs := [5, 10]) (by kernel_rfl) (by simp) ?_
        refine (AllReadyH.cons rfl (fun K hK => ?_) (AllReadyH.cons rfl (fun K hK => ?_) AllReadyH.nil))
        · go_simp
          go_at_call 40
          refine (hOb.out W1 (bl_trans hbx bb1)).mono ?_
          rintro e W2 ⟨rfl, hx2⟩
          have oA2 := oA1.step hx2
          have oB2 := oB1.step hx2
          have bb2 := bl_trans bb1 hx2
          refine hK.out _ _ ⟨oA2, oB2⟩ (fun hHeld2 => ?_)
          clear hK K hHeld
          have hHeld := hHeld2
          clear hHeld2
          try simp only [Act.put, List.getElem_toArray, List.getElem_cons_zero, List.getElem_cons_succ, List.setIfInBounds_toArray, List.set_cons_zero, List.set_cons_succ]
          refine wpAnyH_ready (rs := [8, 10]) (by kernel_rfl) (by simp) ?_
          refine (AllReadyH.cons rfl (fun K hK => ?_) (AllReadyH.cons rfl (fun K hK => ?_) AllReadyH.nil))
          · go_simp
            go_at_call 46
            refine (hHr.out W2).mono ?_
            rintro e W3 ⟨rfl, hx3⟩
            have oA3 := oA2.step hx3
            have oB3 := oB2.step hx3
            have bb3 := bl_trans bb2 hx3
            refine hK.out _ _ ⟨oA3, oB3⟩ (fun hHeld2 => ?_)
            clear hK K hHeld
            have hHeld := hHeld2
            clear hHeld2
            try simp only [Act.put, List.getElem_toArray, List.getElem_cons_zero, List.getElem_cons_succ, List.setIfInBounds_toArray, List.set_cons_zero, List.set_cons_succ]
            refine wpAnyH_take (i := 9) (v := ?_) rfl (by kernel_rfl) (by kernel_rfl) (by kernel_rfl) (fun _ _ _ h => h) (Or.inl ⟨by rfl, ?_⟩) (by assumption) ?_
            rotate_left
            · (intro W hSw; skip; go_simp; try with_reducible rfl)
            simp only [Act.put, List.getElem_toArray, List.getElem_cons_zero, List.getElem_cons_succ, List.setIfInBounds_toArray, List.set_cons_zero, List.set_cons_succ]
            refine wpAnyH_ready (rs := [10]) (by kernel_rfl) (by simp) ?_
            refine (AllReadyH.cons rfl (fun K hK => ?_) AllReadyH.nil)
            go_simp
            have hx4 := bl_alloc (bl_refl W3) (.cells #[.bool false, .bool false, .bool false, .bool false, .bool false, .bool false, .bool false, .bool false, .bool false, .bool false, .bool false, .bool false, .int .i64 0] 75)
            have b0_4 := Own.new W3 75 #[.bool false, .bool false, .bool false, .bool false, .bool false, .bool false, .bool false, .bool false, .bool false, .bool false, .bool false, .bool false, .int .i64 0]
            have hlo4 := bb3.size
            have hloA4 := oA3.lt
            have hloB4 := oB3.lt
            have oA4 := oA3.step hx4
            have oB4 := oB3.step hx4
            have bb4 := bl_trans bb3 hx4
            generalize hgx4 : (W3.alloc (.cells #[.bool false, .bool false, .bool false, .bool false, .bool false, .bool false, .bool false, .bool false, .bool false, .bool false, .bool false, .bool false, .int .i64 0] 75)) = W4 at *
            clear hgx4
            refine hK.out _ _ ⟨oA4, oB4⟩ (fun hHeld2 => ?_)
            clear hK K hHeld
            have hHeld := hHeld2
            clear hHeld2
            try simp only [Act.put, List.getElem_toArray, List.getElem_cons_zero, List.getElem_cons_succ, List.setIfInBounds_toArray, List.set_cons_zero, List.set_cons_succ]
            refine wpAnyH_ready (rs := [11]) (by kernel_rfl) (by simp) ?_
            refine (AllReadyH.cons rfl (fun K hK => ?_) AllReadyH.nil)
            have z0 := b0_4.frozen 0
            have z1 := b0_4.frozen 1
            have z2 := b0_4.frozen 2
            have z3 := b0_4.frozen 3
            have z4 := b0_4.frozen 4
            have z5 := b0_4.frozen 5
            have z6 := b0_4.frozen 6
            have z7 := b0_4.frozen 7
            have z8 := b0_4.frozen 8
            have z9 := b0_4.frozen 9
            have z10 := b0_4.frozen 10
            have z11 := b0_4.frozen 11
            have z12 := b0_4.frozen 12
            obtain ⟨y0_, y1_, y2_, y3_, y4_, y5_, y6_, y7_, y8_, y9_, y10_, y11_, y12_⟩ := own_13 b0_4
            go_simp
            rw [show (((((((((((((W4.setCell ⟨W3.heap.size, 0, none⟩ (.bool x0)).setCell ⟨W3.heap.size, 1, none⟩ (.bool x1)).setCell ⟨W3.heap.size, 2, none⟩ (.bool x2)).setCell ⟨W3.heap.size, 3, none⟩ (.bool x3)).setCell ⟨W3.heap.size, 4, none⟩ (.bool x4)).setCell ⟨W3.heap.size, 5, none⟩ (.bool x5)).setCell ⟨W3.heap.size, 6, none⟩ (.bool y0)).setCell ⟨W3.heap.size, 7, none⟩ (.bool y1)).setCell ⟨W3.heap.size, 8, none⟩ (.bool y2)).setCell ⟨W3.heap.size, 9, none⟩ (.bool y3)).setCell ⟨W3.heap.size, 10, none⟩ (.bool y4)).setCell ⟨W3.heap.size, 11, none⟩ (.bool y5)).setCell ⟨W3.heap.size, 12, none⟩ (.int .i64 H)) = sets13 W4 (W3.heap.size) (.bool x0) (.bool x1) (.bool x2) (.bool x3) (.bool x4) (.bool x5) (.bool y0) (.bool y1) (.bool y2) (.bool y3) (.bool y4) (.bool y5) (.int .i64 H) from rfl]
            have qs0_4 := sets13_own (v0 := .bool x0) (v1 := .bool x1) (v2 := .bool x2) (v3 := .bool x3) (v4 := .bool x4) (v5 := .bool x5) (v6 := .bool y0) (v7 := .bool y1) (v8 := .bool y2) (v9 := .bool y3) (v10 := .bool y4) (v11 := .bool y5) (v12 := .int .i64 H) b0_4
            have far : ∀ k T cs, Own W4 k T cs → k ≠ W3.heap.size → Own (sets13 W4 (W3.heap.size) (.bool x0) (.bool x1) (.bool x2) (.bool x3) (.bool x4) (.bool x5) (.bool y0) (.bool y1) (.bool y2) (.bool y3) (.bool y4) (.bool y5) (.int .i64 H)) k T cs := fun _ _ _ h hk => sets13_far h hk
            have oAs0_4 := far _ _ _ oA4 (by omega)
            have oBs0_4 := far _ _ _ oB4 (by omega)
            have bbs0_4 := sets13_below (g := W3.heap.size) (v0 := .bool x0) (v1 := .bool x1) (v2 := .bool x2) (v3 := .bool x3) (v4 := .bool x4) (v5 := .bool x5) (v6 := .bool y0) (v7 := .bool y1) (v8 := .bool y2) (v9 := .bool y3) (v10 := .bool y4) (v11 := .bool y5) (v12 := .int .i64 H) bb4 (by omega)
            clear far z0 y0_ z1 y1_ z2 y2_ z3 y3_ z4 y4_ z5 y5_ z6 y6_ z7 y7_ z8 y8_ z9 y9_ z10 y10_ z11 y11_ z12 y12_ b0_4
            generalize hges0_4 : sets13 W4 (W3.heap.size) (.bool x0) (.bool x1) (.bool x2) (.bool x3) (.bool x4) (.bool x5) (.bool y0) (.bool y1) (.bool y2) (.bool y3) (.bool y4) (.bool y5) (.int .i64 H) = V0_4 at *
            clear hges0_4
            refine hK.out _ _ ⟨oAs0_4, oBs0_4⟩ (fun hHeld2 => ?_)
            clear hK K hHeld
            have hHeld := hHeld2
            clear hHeld2
            try simp only [Act.put, List.getElem_toArray, List.getElem_cons_zero, List.getElem_cons_succ, List.setIfInBounds_toArray, List.set_cons_zero, List.set_cons_succ]
            refine wpAnyH_done (by kernel_rfl) ?_ _
            try refine NoPanic.normal ?_
            go_wp2_with fail
            go_meet
            exact ⟨W3.heap.size, rfl, qs0_4, bbs0_4⟩
          · go_simp
            have hx5 := bl_alloc (bl_refl W2) (.cells #[.bool false, .bool false, .bool false, .bool false, .bool false, .bool false, .bool false, .bool false, .bool false, .bool false, .bool false, .bool false, .int .i64 0] 75)
            have b0_5 := Own.new W2 75 #[.bool false, .bool false, .bool false, .bool false, .bool false, .bool false, .bool false, .bool false, .bool false, .bool false, .bool false, .bool false, .int .i64 0]
            have hlo5 := bb2.size
            have hloA5 := oA2.lt
            have hloB5 := oB2.lt
            have oA5 := oA2.step hx5
            have oB5 := oB2.step hx5
            have bb5 := bl_trans bb2 hx5
            generalize hgx5 : (W2.alloc (.cells #[.bool false, .bool false, .bool false, .bool false, .bool false, .bool false, .bool false, .bool false, .bool false, .bool false, .bool false, .bool false, .int .i64 0] 75)) = W5 at *
            clear hgx5
            refine hK.out _ _ ⟨oA5, oB5⟩ (fun hHeld2 => ?_)
            clear hK K hHeld
            have hHeld := hHeld2
            clear hHeld2
            try simp only [Act.put, List.getElem_toArray, List.getElem_cons_zero, List.getElem_cons_succ, List.setIfInBounds_toArray, List.set_cons_zero, List.set_cons_succ]
            refine wpAnyH_ready (rs := [8]) (by kernel_rfl) (by simp) ?_
            refine (AllReadyH.cons rfl (fun K hK => ?_) AllReadyH.nil)
            go_simp
            go_at_call 46
            refine (hHr.out W5).mono ?_
            rintro e W6 ⟨rfl, hx6⟩
            have oA6 := oA5.step hx6
            have oB6 := oB5.step hx6
            have b0_6 := b0_5.step hx6
            have bb6 := bl_trans bb5 hx6
            refine hK.out _ _ ⟨oA6, oB6⟩ (fun hHeld2 => ?_)
            clear hK K hHeld
            have hHeld := hHeld2
            clear hHeld2
            try simp only [Act.put, List.getElem_toArray, List.getElem_cons_zero, List.getElem_cons_succ, List.setIfInBounds_toArray, List.set_cons_zero, List.set_cons_succ]
            refine wpAnyH_take (i := 9) (v := ?_) rfl (by kernel_rfl) (by kernel_rfl) (by kernel_rfl) (fun _ _ _ h => h) (Or.inl ⟨by rfl, ?_⟩) (by assumption) ?_
            rotate_left
            · (intro W hSw; skip; go_simp; try with_reducible rfl)
            simp only [Act.put, List.getElem_toArray, List.getElem_cons_zero, List.getElem_cons_succ, List.setIfInBounds_toArray, List.set_cons_zero, List.set_cons_succ]
            refine wpAnyH_ready (rs := [11]) (by kernel_rfl) (by simp) ?_
            refine (AllReadyH.cons rfl (fun K hK => ?_) AllReadyH.nil)
            have z0 := b0_6.frozen 0
            have z1 := b0_6.frozen 1
            have z2 := b0_6.frozen 2
            have z3 := b0_6.frozen 3
            have z4 := b0_6.frozen 4
            have z5 := b0_6.frozen 5
            have z6 := b0_6.frozen 6
            have z7 := b0_6.frozen 7
            have z8 := b0_6.frozen 8
            have z9 := b0_6.frozen 9
            have z10 := b0_6.frozen 10
            have z11 := b0_6.frozen 11
            have z12 := b0_6.frozen 12
            obtain ⟨y0_, y1_, y2_, y3_, y4_, y5_, y6_, y7_, y8_, y9_, y10_, y11_, y12_⟩ := own_13 b0_6
            go_simp
            rw [show (((((((((((((W6.setCell ⟨W2.heap.size, 0, none⟩ (.bool x0)).setCell ⟨W2.heap.size, 1, none⟩ (.bool x1)).setCell ⟨W2.heap.size, 2, none⟩ (.bool x2)).setCell ⟨W2.heap.size, 3, none⟩ (.bool x3)).setCell ⟨W2.heap.size, 4, none⟩ (.bool x4)).setCell ⟨W2.heap.size, 5, none⟩ (.bool x5)).setCell ⟨W2.heap.size, 6, none⟩ (.bool y0)).setCell ⟨W2.heap.size, 7, none⟩ (.bool y1)).setCell ⟨W2.heap.size, 8, none⟩ (.bool y2)).setCell ⟨W2.heap.size, 9, none⟩ (.bool y3)).setCell ⟨W2.heap.size, 10, none⟩ (.bool y4)).setCell ⟨W2.heap.size, 11, none⟩ (.bool y5)).setCell ⟨W2.heap.size, 12, none⟩ (.int .i64 H)) = sets13 W6 (W2.heap.size) (.bool x0) (.bool x1) (.bool x2) (.bool x3) (.bool x4) (.bool x5) (.bool y0) (.bool y1) (.bool y2) (.bool y3) (.bool y4) (.bool y5) (.int .i64 H) from rfl]
            have qs0_6 := sets13_own (v0 := .bool x0) (v1 := .bool x1) (v2 := .bool x2) (v3 := .bool x3) (v4 := .bool x4) (v5 := .bool x5) (v6 := .bool y0) (v7 := .bool y1) (v8 := .bool y2) (v9 := .bool y3) (v10 := .bool y4) (v11 := .bool y5) (v12 := .int .i64 H) b0_6
            have far : ∀ k T cs, Own W6 k T cs → k ≠ W2.heap.size → Own (sets13 W6 (W2.heap.size) (.bool x0) (.bool x1) (.bool x2) (.bool x3) (.bool x4) (.bool x5) (.bool y0) (.bool y1) (.bool y2) (.bool y3) (.bool y4) (.bool y5) (.int .i64 H)) k T cs := fun _ _ _ h hk => sets13_far h hk
            have oAs0_6 := far _ _ _ oA6 (by omega)
            have oBs0_6 := far _ _ _ oB6 (by omega)
            have bbs0_6 := sets13_below (g := W2.heap.size) (v0 := .bool x0) (v1 := .bool x1) (v2 := .bool x2) (v3 := .bool x3) (v4 := .bool x4) (v5 := .bool x5) (v6 := .bool y0) (v7 := .bool y1) (v8 := .bool y2) (v9 := .bool y3) (v10 := .bool y4) (v11 := .bool y5) (v12 := .int .i64 H) bb6 (by omega)
            clear far z0 y0_ z1 y1_ z2 y2_ z3 y3_ z4 y4_ z5 y5_ z6 y6_ z7 y7_ z8 y8_ z9 y9_ z10 y10_ z11 y11_ z12 y12_ b0_6
            generalize hges0_6 : sets13 W6 (W2.heap.size) (.bool x0) (.bool x1) (.bool x2) (.bool x3) (.bool x4) (.bool x5) (.bool y0) (.bool y1) (.bool y2) (.bool y3) (.bool y4) (.bool y5) (.int .i64 H) = V0_6 at *
            clear hges0_6
            refine hK.out _ _ ⟨oAs0_6, oBs0_6⟩ (fun hHeld2 => ?_)
            clear hK K hHeld
            have hHeld := hHeld2
            clear hHeld2
            try simp only [Act.put, List.getElem_toArray, List.getElem_cons_zero, List.getElem_cons_succ, List.setIfInBounds_toArray, List.set_cons_zero, List.set_cons_succ]
            refine wpAnyH_done (by kernel_rfl) ?_ _
            try refine NoPanic.normal ?_
            go_wp2_with fail
            go_meet
            exact ⟨W2.heap.size, rfl, qs0_6, bbs0_6⟩
        · go_simp
          have hx7 := bl_alloc (bl_refl W1) (.cells #[.bool false, .bool false, .bool false, .bool false, .bool false, .bool false, .bool false, .bool false, .bool false, .bool false, .bool false, .bool false, .int .i64 0] 75)
          have b0_7 := Own.new W1 75 #[.bool false, .bool false, .bool false, .bool false, .bool false, .bool false, .bool false, .bool false, .bool false, .bool false, .bool false, .bool false, .int .i64 0]
          have hlo7 := bb1.size
          have hloA7 := oA1.lt
          have hloB7 := oB1.lt
          have oA7 := oA1.step hx7
          have oB7 := oB1.step hx7
          have bb7 := bl_trans bb1 hx7
          generalize hgx7 : (W1.alloc (.cells #[.bool false, .bool false, .bool false, .bool false, .bool false, .bool false, .bool false, .bool false, .bool false, .bool false, .bool false, .bool false, .int .i64 0] 75)) = W7 at *
          clear hgx7
          refine hK.out _ _ ⟨oA7, oB7⟩ (fun hHeld2 => ?_)
          clear hK K hHeld
          have hHeld := hHeld2
          clear hHeld2
          try simp only [Act.put, List.getElem_toArray, List.getElem_cons_zero, List.getElem_cons_succ, List.setIfInBounds_toArray, List.set_cons_zero, List.set_cons_succ]
          refine wpAnyH_ready (rs := [5]) (by kernel_rfl) (by simp) ?_
          refine (AllReadyH.cons rfl (fun K hK => ?_) AllReadyH.nil)
          go_simp
          go_at_call 40
          refine (hOb.out W7 (bl_trans hbx bb7)).mono ?_
          rintro e W8 ⟨rfl, hx8⟩
          have oA8 := oA7.step hx8
          have oB8 := oB7.step hx8
          have b0_8 := b0_7.step hx8
          have bb8 := bl_trans bb7 hx8
          refine hK.out _ _ ⟨oA8, oB8⟩ (fun hHeld2 => ?_)
          clear hK K hHeld
          have hHeld := hHeld2
          clear hHeld2
          try simp only [Act.put, List.getElem_toArray, List.getElem_cons_zero, List.getElem_cons_succ, List.setIfInBounds_toArray, List.set_cons_zero, List.set_cons_succ]
          refine wpAnyH_ready (rs := [8]) (by kernel_rfl) (by simp) ?_
          refine (AllReadyH.cons rfl (fun K hK => ?_) AllReadyH.nil)
          go_simp
          go_at_call 46
          refine (hHr.out W8).mono ?_
          rintro e W9 ⟨rfl, hx9⟩
          have oA9 := oA8.step hx9
          have oB9 := oB8.step hx9
          have b0_9 := b0_8.step hx9
          have bb9 := bl_trans bb8 hx9
          refine hK.out _ _ ⟨oA9, oB9⟩ (fun hHeld2 => ?_)
          clear hK K hHeld
          have hHeld := hHeld2
          clear hHeld2
          try simp only [Act.put, List.getElem_toArray, List.getElem_cons_zero, List.getElem_cons_succ, List.setIfInBounds_toArray, List.set_cons_zero, List.set_cons_succ]
          refine wpAnyH_take (i := 9) (v := ?_) rfl (by kernel_rfl) (by kernel_rfl) (by kernel_rfl) (fun _ _ _ h => h) (Or.inl ⟨by rfl, ?_⟩) (by assumption) ?_
          rotate_left
          · (intro W hSw; skip; go_simp; try with_reducible rfl)
          simp only [Act.put, List.getElem_toArray, List.getElem_cons_zero, List.getElem_cons_succ, List.setIfInBounds_toArray, List.set_cons_zero, List.set_cons_succ]
          refine wpAnyH_ready (rs := [11]) (by kernel_rfl) (by simp) ?_
          refine (AllReadyH.cons rfl (fun K hK => ?_) AllReadyH.nil)
          have z0 := b0_9.frozen 0
          have z1 := b0_9.frozen 1
          have z2 := b0_9.frozen 2
          have z3 := b0_9.frozen 3
          have z4 := b0_9.frozen 4
          have z5 := b0_9.frozen 5
          have z6 := b0_9.frozen 6
          have z7 := b0_9.frozen 7
          have z8 := b0_9.frozen 8
          have z9 := b0_9.frozen 9
          have z10 := b0_9.frozen 10
          have z11 := b0_9.frozen 11
          have z12 := b0_9.frozen 12
          obtain ⟨y0_, y1_, y2_, y3_, y4_, y5_, y6_, y7_, y8_, y9_, y10_, y11_, y12_⟩ := own_13 b0_9
          go_simp
          rw [show (((((((((((((W9.setCell ⟨W1.heap.size, 0, none⟩ (.bool x0)).setCell ⟨W1.heap.size, 1, none⟩ (.bool x1)).setCell ⟨W1.heap.size, 2, none⟩ (.bool x2)).setCell ⟨W1.heap.size, 3, none⟩ (.bool x3)).setCell ⟨W1.heap.size, 4, none⟩ (.bool x4)).setCell ⟨W1.heap.size, 5, none⟩ (.bool x5)).setCell ⟨W1.heap.size, 6, none⟩ (.bool y0)).setCell ⟨W1.heap.size, 7, none⟩ (.bool y1)).setCell ⟨W1.heap.size, 8, none⟩ (.bool y2)).setCell ⟨W1.heap.size, 9, none⟩ (.bool y3)).setCell ⟨W1.heap.size, 10, none⟩ (.bool y4)).setCell ⟨W1.heap.size, 11, none⟩ (.bool y5)).setCell ⟨W1.heap.size, 12, none⟩ (.int .i64 H)) = sets13 W9 (W1.heap.size) (.bool x0) (.bool x1) (.bool x2) (.bool x3) (.bool x4) (.bool x5) (.bool y0) (.bool y1) (.bool y2) (.bool y3) (.bool y4) (.bool y5) (.int .i64 H) from rfl]
          have qs0_9 := sets13_own (v0 := .bool x0) (v1 := .bool x1) (v2 := .bool x2) (v3 := .bool x3) (v4 := .bool x4) (v5 := .bool x5) (v6 := .bool y0) (v7 := .bool y1) (v8 := .bool y2) (v9 := .bool y3) (v10 := .bool y4) (v11 := .bool y5) (v12 := .int .i64 H) b0_9
          have far : ∀ k T cs, Own W9 k T cs → k ≠ W1.heap.size → Own (sets13 W9 (W1.heap.size) (.bool x0) (.bool x1) (.bool x2) (.bool x3) (.bool x4) (.bool x5) (.bool y0) (.bool y1) (.bool y2) (.bool y3) (.bool y4) (.bool y5) (.int .i64 H)) k T cs := fun _ _ _ h hk => sets13_far h hk
          have oAs0_9 := far _ _ _ oA9 (by omega)
          have oBs0_9 := far _ _ _ oB9 (by omega)
          have bbs0_9 := sets13_below (g := W1.heap.size) (v0 := .bool x0) (v1 := .bool x1) (v2 := .bool x2) (v3 := .bool x3) (v4 := .bool x4) (v5 := .bool x5) (v6 := .bool y0) (v7 := .bool y1) (v8 := .bool y2) (v9 := .bool y3) (v10 := .bool y4) (v11 := .bool y5) (v12 := .int .i64 H) bb9 (by omega)
          clear far z0 y0_ z1 y1_ z2 y2_ z3 y3_ z4 y4_ z5 y5_ z6 y6_ z7 y7_ z8 y8_ z9 y9_ z10 y10_ z11 y11_ z12 y12_ b0_9
          generalize hges0_9 : sets13 W9 (W1.heap.size) (.bool x0) (.bool x1) (.bool x2) (.bool x3) (.bool x4) (.bool x5) (.bool y0) (.bool y1) (.bool y2) (.bool y3) (.bool y4) (.bool y5) (.int .i64 H) = V0_9 at *
          clear hges0_9
          refine hK.out _ _ ⟨oAs0_9, oBs0_9⟩ (fun hHeld2 => ?_)
          clear hK K hHeld
          have hHeld := hHeld2
          clear hHeld2
          try simp only [Act.put, List.getElem_toArray, List.getElem_cons_zero, List.getElem_cons_succ, List.setIfInBounds_toArray, List.set_cons_zero, List.set_cons_succ]
          refine wpAnyH_done (by kernel_rfl) ?_ _
          try refine NoPanic.normal ?_
          go_wp2_with fail
          go_meet
          exact ⟨W1.heap.size, rfl, qs0_9, bbs0_9⟩
      · go_simp
        have hx10 := bl_alloc (bl_refl Y0) (.cells #[.bool false, .bool false, .bool false, .bool false, .bool false, .bool false, .bool false, .bool false, .bool false, .bool false, .bool false, .bool false, .int .i64 0] 75)
        have b0_10 := Own.new Y0 75 #[.bool false, .bool false, .bool false, .bool false, .bool false, .bool false, .bool false, .bool false, .bool false, .bool false, .bool false, .bool false, .int .i64 0]
        have hlo10 := bb0.size
        have hloA10 := oA0.lt
        have hloB10 := oB0.lt
        have oA10 := oA0.step hx10
        have oB10 := oB0.step hx10
        have bb10 := bl_trans bb0 hx10
        generalize hgx10 : (Y0.alloc (.cells #[.bool false, .bool false, .bool false, .bool false, .bool false, .bool false, .bool false, .bool false, .bool false, .bool false, .bool false, .bool false, .int .i64 0] 75)) = W10 at *
        clear hgx10
        refine hK.out _ _ ⟨oA10, oB10⟩ (fun hHeld2 => ?_)
        clear hK K hHeld
        have hHeld := hHeld2
        clear hHeld2
        try simp only [Act.put, List.getElem_toArray, List.getElem_cons_zero, List.getElem_cons_succ, List.setIfInBounds_toArray, List.set_cons_zero, List.set_cons_succ]
        refine wpAnyH_ready (rs := [2]) (by kernel_rfl) (by simp) ?_
        refine (AllReadyH.cons rfl (fun K hK => ?_) AllReadyH.nil)
        go_simp
        go_at_call 40
        refine (hOa.out W10 (bl_trans hbx bb10)).mono ?_
        rintro e W11 ⟨rfl, hx11⟩
        have oA11 := oA10.step hx11
        have oB11 := oB10.step hx11
        have b0_11 := b0_10.step hx11
        have bb11 := bl_trans bb10 hx11
        refine hK.out _ _ ⟨oA11, oB11⟩ (fun hHeld2 => ?_)
        clear hK K hHeld
        have hHeld := hHeld2
        clear hHeld2
        try simp only [Act.put, List.getElem_toArray, List.getElem_cons_zero, List.getElem_cons_succ, List.setIfInBounds_toArray, List.set_cons_zero, List.set_cons_succ]
        refine wpAnyH_ready (rs := [5]) (by kernel_rfl) (by simp) ?_
        refine (AllReadyH.cons rfl (fun K hK => ?_) AllReadyH.nil)
        go_simp
        go_at_call 40
        refine (hOb.out W11 (bl_trans hbx bb11)).mono ?_
        rintro e W12 ⟨rfl, hx12⟩
        have oA12 := oA11.step hx12
        have oB12 := oB11.step hx12
        have b0_12 := b0_11.step hx12
        have bb12 := bl_trans bb11 hx12
        refine hK.out _ _ ⟨oA12, oB12⟩ (fun hHeld2 => ?_)
        clear hK K hHeld
        have hHeld := hHeld2
        clear hHeld2
        try simp only [Act.put, List.getElem_toArray, List.getElem_cons_zero, List.getElem_cons_succ, List.setIfInBounds_toArray, List.set_cons_zero, List.set_cons_succ]
        refine wpAnyH_ready (rs := [8]) (by kernel_rfl) (by simp) ?_
        refine (AllReadyH.cons rfl (fun K hK => ?_) AllReadyH.nil)
        go_simp
        go_at_call 46
        refine (hHr.out W12).mono ?_
        rintro e W13 ⟨rfl, hx13⟩
        have oA13 := oA12.step hx13
        have oB13 := oB12.step hx13
        have b0_13 := b0_12.step hx13
        have bb13 := bl_trans bb12 hx13
        refine hK.out _ _ ⟨oA13, oB13⟩ (fun hHeld2 => ?_)
        clear hK K hHeld
        have hHeld := hHeld2
        clear hHeld2
        try simp only [Act.put, List.getElem_toArray, List.getElem_cons_zero, List.getElem_cons_succ, List.setIfInBounds_toArray, List.set_cons_zero, List.set_cons_succ]
        refine wpAnyH_take (i := 9) (v := ?_) rfl (by kernel_rfl) (by kernel_rfl) (by kernel_rfl) (fun _ _ _ h => h) (Or.inl ⟨by rfl, ?_⟩) (by assumption) ?_
        rotate_left
        · (intro W hSw; skip; go_simp; try with_reducible rfl)
        simp only [Act.put, List.getElem_toArray, List.getElem_cons_zero, List.getElem_cons_succ, List.setIfInBounds_toArray, List.set_cons_zero, List.set_cons_succ]
        refine wpAnyH_ready (rs := [11]) (by kernel_rfl) (by simp) ?_
        refine (AllReadyH.cons rfl (fun K hK => ?_) AllReadyH.nil)
        have z0 := b0_13.frozen 0
        have z1 := b0_13.frozen 1
        have z2 := b0_13.frozen 2
        have z3 := b0_13.frozen 3
        have z4 := b0_13.frozen 4
        have z5 := b0_13.frozen 5
        have z6 := b0_13.frozen 6
        have z7 := b0_13.frozen 7
        have z8 := b0_13.frozen 8
        have z9 := b0_13.frozen 9
        have z10 := b0_13.frozen 10
        have z11 := b0_13.frozen 11
        have z12 := b0_13.frozen 12
        obtain ⟨y0_, y1_, y2_, y3_, y4_, y5_, y6_, y7_, y8_, y9_, y10_, y11_, y12_⟩ := own_13 b0_13
        go_simp
        rw [show (((((((((((((W13.setCell ⟨Y0.heap.size, 0, none⟩ (.bool x0)).setCell ⟨Y0.heap.size, 1, none⟩ (.bool x1)).setCell ⟨Y0.heap.size, 2, none⟩ (.bool x2)).setCell ⟨Y0.heap.size, 3, none⟩ (.bool x3)).setCell ⟨Y0.heap.size, 4, none⟩ (.bool x4)).setCell ⟨Y0.heap.size, 5, none⟩ (.bool x5)).setCell ⟨Y0.heap.size, 6, none⟩ (.bool y0)).setCell ⟨Y0.heap.size, 7, none⟩ (.bool y1)).setCell ⟨Y0.heap.size, 8, none⟩ (.bool y2)).setCell ⟨Y0.heap.size, 9, none⟩ (.bool y3)).setCell ⟨Y0.heap.size, 10, none⟩ (.bool y4)).setCell ⟨Y0.heap.size, 11, none⟩ (.bool y5)).setCell ⟨Y0.heap.size, 12, none⟩ (.int .i64 H)) = sets13 W13 (Y0.heap.size) (.bool x0) (.bool x1) (.bool x2) (.bool x3) (.bool x4) (.bool x5) (.bool y0) (.bool y1) (.bool y2) (.bool y3) (.bool y4) (.bool y5) (.int .i64 H) from rfl]
        have qs0_13 := sets13_own (v0 := .bool x0) (v1 := .bool x1) (v2 := .bool x2) (v3 := .bool x3) (v4 := .bool x4) (v5 := .bool x5) (v6 := .bool y0) (v7 := .bool y1) (v8 := .bool y2) (v9 := .bool y3) (v10 := .bool y4) (v11 := .bool y5) (v12 := .int .i64 H) b0_13
        have far : ∀ k T cs, Own W13 k T cs → k ≠ Y0.heap.size → Own (sets13 W13 (Y0.heap.size) (.bool x0) (.bool x1) (.bool x2) (.bool x3) (.bool x4) (.bool x5) (.bool y0) (.bool y1) (.bool y2) (.bool y3) (.bool y4) (.bool y5) (.int .i64 H)) k T cs := fun _ _ _ h hk => sets13_far h hk
        have oAs0_13 := far _ _ _ oA13 (by omega)
        have oBs0_13 := far _ _ _ oB13 (by omega)
        have bbs0_13 := sets13_below (g := Y0.heap.size) (v0 := .bool x0) (v1 := .bool x1) (v2 := .bool x2) (v3 := .bool x3) (v4 := .bool x4) (v5 := .bool x5) (v6 := .bool y0) (v7 := .bool y1) (v8 := .bool y2) (v9 := .bool y3) (v10 := .bool y4) (v11 := .bool y5) (v12 := .int .i64 H) bb13 (by omega)
        clear far z0 y0_ z1 y1_ z2 y2_ z3 y3_ z4 y4_ z5 y5_ z6 y6_ z7 y7_ z8 y8_ z9 y9_ z10 y10_ z11 y11_ z12 y12_ b0_13
        generalize hges0_13 : sets13 W13 (Y0.heap.size) (.bool x0) (.bool x1) (.bool x2) (.bool x3) (.bool x4) (.bool x5) (.bool y0) (.bool y1) (.bool y2) (.bool y3) (.bool y4) (.bool y5) (.int .i64 H) = V0_13 at *
        clear hges0_13
        refine hK.out _ _ ⟨oAs0_13, oBs0_13⟩ (fun hHeld2 => ?_)
        clear hK K hHeld
        have hHeld := hHeld2
        clear hHeld2
        try simp only [Act.put, List.getElem_toArray, List.getElem_cons_zero, List.getElem_cons_succ, List.setIfInBounds_toArray, List.set_cons_zero, List.set_cons_succ]
        refine wpAnyH_done (by kernel_rfl) ?_ _
        try refine NoPanic.normal ?_
        go_wp2_with fail
        go_meet
        exact ⟨Y0.heap.size, rfl, qs0_13, bbs0_13⟩
    case rest =>
    obtain ⟨we, hwe⟩ : ∃ z, z = wc := ⟨_, rfl⟩
    subst hwe
    obtain ⟨g9, rfl, o9, hby⟩ := hcut
    have hbe := bl_trans hbd hby
    have hbz := bl_trans hbx hby
    have o55 := o54.step hby
    have o65 := o64.step hby
    have o75 := o7.step hby
    have o85 := o8.step hby
    clear oA4 oB4 o54 o64 o7 o8 hbd hbx hby
    go_upto_region 6 with fail
    refine wp_region_held_drew (S := (fun X => (Own X g5 47 #[.int .u32 p, .int .i64 q, .int .u32 r, .slice A1 n c1] ∧ Own X g6 47 #[.int .u32 p', .int .i64 q', .int .u32 r', .slice A3 n' c3]) ∧ Own X g7 75 #[.bool x0, .bool x1, .bool x2, .bool x3, .bool x4, .bool x5, .bool y0, .bool y1, .bool y2, .bool y3, .bool y4, .bool y5, .int .i64 H] ∧ Own X g8 75 #[.bool y0, .bool y1, .bool y2, .bool y3, .bool y4, .bool y5, .bool x0, .bool x1, .bool x2, .bool x3, .bool x4, .bool x5, .int .i64 H] ∧ Own X g9 75 #[.bool x0, .bool x1, .bool x2, .bool x3, .bool x4, .bool x5, .bool y0, .bool y1, .bool y2, .bool y3, .bool y4, .bool y5, .int .i64 H])) (by kernel_rfl) ⟨⟨o55.drew, o65.drew⟩, o75.drew, o85.drew, o9.drew⟩ (fun hHeld => ?_)
    have hd50 := bl_drewN hbe 1
    have hz50 := bl_drewN hbz 1
    have oX50 := o55.drew
    have oY50 := o65.drew
    have oS50 := o75.drew
    have oT50 := o85.drew
    have oU50 := o9.drew
    clear o55 o65 o75 o85 o9 hbe hbz
    refine wpAnyH_ready (rs := [0]) (by kernel_rfl) (by simp) ?_
    refine (AllReadyH.cons rfl (fun K hK => ?_) AllReadyH.nil)
    go_simp
    go_at_call 38
    refine (hAl.out _ hz50).mono ?_
    rintro e w51 ⟨rfl, hc51⟩
    have hd51 := bl_trans hd50 hc51
    have oX51 := oX50.step hc51
    have oY51 := oY50.step hc51
    have oS51 := oS50.step hc51
    have oT51 := oT50.step hc51
    have oU51 := oU50.step hc51
    clear oX50 oY50 oS50 oT50 oU50
    refine hK.out _ _ ⟨⟨oX51, oY51⟩, oS51, oT51, oU51⟩ (fun hHeld2 => ?_)
    clear hK K hHeld
    have hHeld := hHeld2
    clear hHeld2
    try simp only [Act.put, List.getElem_toArray, List.getElem_cons_zero, List.getElem_cons_succ, List.setIfInBounds_toArray, List.set_cons_zero, List.set_cons_succ]
    refine wpAnyH_take (i := 1) (v := ?_) rfl (by kernel_rfl) (by kernel_rfl) (by kernel_rfl) (fun _ _ _ h => h) (Or.inl ⟨by rfl, ?_⟩) (by assumption) ?_
    rotate_left
    · (intro W hSw; skip; go_simp; try with_reducible rfl)
    simp only [Act.put, List.getElem_toArray, List.getElem_cons_zero, List.getElem_cons_succ, List.setIfInBounds_toArray, List.set_cons_zero, List.set_cons_succ]
    refine wpAnyH_take (i := 2) (v := ?_) rfl (by kernel_rfl) (by kernel_rfl) (by kernel_rfl) (fun _ _ _ h => h) (Or.inl ⟨by rfl, ?_⟩) (by assumption) ?_
    rotate_left
    · (intro W hSw; have s0 : Own W g5 47 #[.int .u32 p, .int .i64 q, .int .u32 r, .slice A1 n c1] := hSw.1.1; have s1 : Own W g6 47 #[.int .u32 p', .int .i64 q', .int .u32 r', .slice A3 n' c3] := hSw.1.2; have s2 : Own W g7 75 #[.bool x0, .bool x1, .bool x2, .bool x3, .bool x4, .bool x5, .bool y0, .bool y1, .bool y2, .bool y3, .bool y4, .bool y5, .int .i64 H] := hSw.2.1; have s3 : Own W g8 75 #[.bool y0, .bool y1, .bool y2, .bool y3, .bool y4, .bool y5, .bool x0, .bool x1, .bool x2, .bool x3, .bool x4, .bool x5, .int .i64 H] := hSw.2.2.1; have s4 : Own W g9 75 #[.bool x0, .bool x1, .bool x2, .bool x3, .bool x4, .bool x5, .bool y0, .bool y1, .bool y2, .bool y3, .bool y4, .bool y5, .int .i64 H] := hSw.2.2.2; obtain ⟨e0, e1, e2, e3, e4, e5, e6, e7, e8, e9, e10, e11, e12⟩ := own_13 s2; go_simp; try with_reducible rfl)
    simp only [Act.put, List.getElem_toArray, List.getElem_cons_zero, List.getElem_cons_succ, List.setIfInBounds_toArray, List.set_cons_zero, List.set_cons_succ]
    refine wpAnyH_take (i := 3) (v := ?_) rfl (by kernel_rfl) (by kernel_rfl) (by kernel_rfl) (fun _ _ _ h => h) (Or.inl ⟨by rfl, ?_⟩) (by assumption) ?_
    rotate_left
    · (intro W hSw; have s0 : Own W g5 47 #[.int .u32 p, .int .i64 q, .int .u32 r, .slice A1 n c1] := hSw.1.1; have s1 : Own W g6 47 #[.int .u32 p', .int .i64 q', .int .u32 r', .slice A3 n' c3] := hSw.1.2; have s2 : Own W g7 75 #[.bool x0, .bool x1, .bool x2, .bool x3, .bool x4, .bool x5, .bool y0, .bool y1, .bool y2, .bool y3, .bool y4, .bool y5, .int .i64 H] := hSw.2.1; have s3 : Own W g8 75 #[.bool y0, .bool y1, .bool y2, .bool y3, .bool y4, .bool y5, .bool x0, .bool x1, .bool x2, .bool x3, .bool x4, .bool x5, .int .i64 H] := hSw.2.2.1; have s4 : Own W g9 75 #[.bool x0, .bool x1, .bool x2, .bool x3, .bool x4, .bool x5, .bool y0, .bool y1, .bool y2, .bool y3, .bool y4, .bool y5, .int .i64 H] := hSw.2.2.2; obtain ⟨e0, e1, e2, e3, e4, e5, e6, e7, e8, e9, e10, e11, e12⟩ := own_13 s4; go_simp; try with_reducible rfl)
    simp only [Act.put, List.getElem_toArray, List.getElem_cons_zero, List.getElem_cons_succ, List.setIfInBounds_toArray, List.set_cons_zero, List.set_cons_succ]
    refine wpAnyH_take (i := 4) (v := ?_) rfl (by kernel_rfl) (by kernel_rfl) (by kernel_rfl) (fun _ _ _ h => h) (Or.inl ⟨by rfl, ?_⟩) (by assumption) ?_
    rotate_left
    · (intro W hSw; have heX := HEX.out W; go_simp; try with_reducible rfl)
    simp only [Act.put, List.getElem_toArray, List.getElem_cons_zero, List.getElem_cons_succ, List.setIfInBounds_toArray, List.set_cons_zero, List.set_cons_succ]
    refine wpAnyH_take (i := 5) (v := ?_) rfl (by kernel_rfl) (by kernel_rfl) (by kernel_rfl) (fun _ _ _ h => h) (Or.inl ⟨by rfl, ?_⟩) (by assumption) ?_
    rotate_left
    · (intro W hSw; skip; go_simp; try with_reducible rfl)
    simp only [Act.put, List.getElem_toArray, List.getElem_cons_zero, List.getElem_cons_succ, List.setIfInBounds_toArray, List.set_cons_zero, List.set_cons_succ]
    refine wpAnyH_take (i := 6) (v := ?_) rfl (by kernel_rfl) (by kernel_rfl) (by kernel_rfl) (fun _ _ _ h => h) (Or.inl ⟨by rfl, ?_⟩) (by assumption) ?_
    rotate_left
    · (intro W hSw; skip; go_simp; try with_reducible rfl)
    simp only [Act.put, List.getElem_toArray, List.getElem_cons_zero, List.getElem_cons_succ, List.setIfInBounds_toArray, List.set_cons_zero, List.set_cons_succ]
    refine wpAnyH_take (i := 7) (v := ?_) rfl (by kernel_rfl) (by kernel_rfl) (by kernel_rfl) (fun _ _ _ h => h) (Or.inl ⟨by rfl, ?_⟩) (by assumption) ?_
    rotate_left
    · (intro W hSw; have s0 : Own W g5 47 #[.int .u32 p, .int .i64 q, .int .u32 r, .slice A1 n c1] := hSw.1.1; have s1 : Own W g6 47 #[.int .u32 p', .int .i64 q', .int .u32 r', .slice A3 n' c3] := hSw.1.2; have s2 : Own W g7 75 #[.bool x0, .bool x1, .bool x2, .bool x3, .bool x4, .bool x5, .bool y0, .bool y1, .bool y2, .bool y3, .bool y4, .bool y5, .int .i64 H] := hSw.2.1; have s3 : Own W g8 75 #[.bool y0, .bool y1, .bool y2, .bool y3, .bool y4, .bool y5, .bool x0, .bool x1, .bool x2, .bool x3, .bool x4, .bool x5, .int .i64 H] := hSw.2.2.1; have s4 : Own W g9 75 #[.bool x0, .bool x1, .bool x2, .bool x3, .bool x4, .bool x5, .bool y0, .bool y1, .bool y2, .bool y3, .bool y4, .bool y5, .int .i64 H] := hSw.2.2.2; obtain ⟨e0, e1, e2, e3, e4, e5, e6, e7, e8, e9, e10, e11, e12⟩ := own_13 s3; go_simp; try with_reducible rfl)
    simp only [Act.put, List.getElem_toArray, List.getElem_cons_zero, List.getElem_cons_succ, List.setIfInBounds_toArray, List.set_cons_zero, List.set_cons_succ]
    refine wpAnyH_take (i := 8) (v := ?_) rfl (by kernel_rfl) (by kernel_rfl) (by kernel_rfl) (fun _ _ _ h => h) (Or.inl ⟨by rfl, ?_⟩) (by assumption) ?_
    rotate_left
    · (intro W hSw; skip; go_simp; try with_reducible rfl)
    simp only [Act.put, List.getElem_toArray, List.getElem_cons_zero, List.getElem_cons_succ, List.setIfInBounds_toArray, List.set_cons_zero, List.set_cons_succ]
    refine wpAnyH_take (i := 9) (v := ?_) rfl (by kernel_rfl) (by kernel_rfl) (by kernel_rfl) (fun _ _ _ h => h) (Or.inl ⟨by rfl, ?_⟩) (by assumption) ?_
    rotate_left
    · (intro W hSw; have s0 : Own W g5 47 #[.int .u32 p, .int .i64 q, .int .u32 r, .slice A1 n c1] := hSw.1.1; have s1 : Own W g6 47 #[.int .u32 p', .int .i64 q', .int .u32 r', .slice A3 n' c3] := hSw.1.2; have s2 : Own W g7 75 #[.bool x0, .bool x1, .bool x2, .bool x3, .bool x4, .bool x5, .bool y0, .bool y1, .bool y2, .bool y3, .bool y4, .bool y5, .int .i64 H] := hSw.2.1; have s3 : Own W g8 75 #[.bool y0, .bool y1, .bool y2, .bool y3, .bool y4, .bool y5, .bool x0, .bool x1, .bool x2, .bool x3, .bool x4, .bool x5, .int .i64 H] := hSw.2.2.1; have s4 : Own W g9 75 #[.bool x0, .bool x1, .bool x2, .bool x3, .bool x4, .bool x5, .bool y0, .bool y1, .bool y2, .bool y3, .bool y4, .bool y5, .int .i64 H] := hSw.2.2.2; obtain ⟨e0, e1, e2, e3, e4, e5, e6, e7, e8, e9, e10, e11, e12⟩ := own_13 s4; go_simp; try with_reducible rfl)
    simp only [Act.put, List.getElem_toArray, List.getElem_cons_zero, List.getElem_cons_succ, List.setIfInBounds_toArray, List.set_cons_zero, List.set_cons_succ]
    refine wpAnyH_take (i := 10) (v := ?_) rfl (by kernel_rfl) (by kernel_rfl) (by kernel_rfl) (fun _ _ _ h => h) (Or.inl ⟨by rfl, ?_⟩) (by assumption) ?_
    rotate_left
    · (intro W hSw; skip; go_simp; try with_reducible rfl)
    simp only [Act.put, List.getElem_toArray, List.getElem_cons_zero, List.getElem_cons_succ, List.setIfInBounds_toArray, List.set_cons_zero, List.set_cons_succ]
    refine wpAnyH_take (i := 11) (v := ?_) rfl (by kernel_rfl) (by kernel_rfl) (by kernel_rfl) (fun _ _ _ h => h) (Or.inl ⟨by rfl, ?_⟩) (by assumption) ?_
    rotate_left
    · (intro W hSw; have s0 : Own W g5 47 #[.int .u32 p, .int .i64 q, .int .u32 r, .slice A1 n c1] := hSw.1.1; have s1 : Own W g6 47 #[.int .u32 p', .int .i64 q', .int .u32 r', .slice A3 n' c3] := hSw.1.2; have s2 : Own W g7 75 #[.bool x0, .bool x1, .bool x2, .bool x3, .bool x4, .bool x5, .bool y0, .bool y1, .bool y2, .bool y3, .bool y4, .bool y5, .int .i64 H] := hSw.2.1; have s3 : Own W g8 75 #[.bool y0, .bool y1, .bool y2, .bool y3, .bool y4, .bool y5, .bool x0, .bool x1, .bool x2, .bool x3, .bool x4, .bool x5, .int .i64 H] := hSw.2.2.1; have s4 : Own W g9 75 #[.bool x0, .bool x1, .bool x2, .bool x3, .bool x4, .bool x5, .bool y0, .bool y1, .bool y2, .bool y3, .bool y4, .bool y5, .int .i64 H] := hSw.2.2.2; obtain ⟨e0, e1, e2, e3, e4, e5, e6, e7, e8, e9, e10, e11, e12⟩ := own_13 s4; go_simp; try with_reducible rfl)
    simp only [Act.put, List.getElem_toArray, List.getElem_cons_zero, List.getElem_cons_succ, List.setIfInBounds_toArray, List.set_cons_zero, List.set_cons_succ]
    refine wpAnyH_take (i := 12) (v := ?_) rfl (by kernel_rfl) (by kernel_rfl) (by kernel_rfl) (fun _ _ _ h => h) (Or.inl ⟨by rfl, ?_⟩) (by assumption) ?_
    rotate_left
    · (intro W hSw; skip; go_simp; try with_reducible rfl)
    simp only [Act.put, List.getElem_toArray, List.getElem_cons_zero, List.getElem_cons_succ, List.setIfInBounds_toArray, List.set_cons_zero, List.set_cons_succ]
    refine wpAnyH_take (i := 13) (v := ?_) rfl (by kernel_rfl) (by kernel_rfl) (by kernel_rfl) (fun _ _ _ h => h) (Or.inl ⟨by rfl, ?_⟩) (by assumption) ?_
    rotate_left
    · (intro W hSw; have s0 : Own W g5 47 #[.int .u32 p, .int .i64 q, .int .u32 r, .slice A1 n c1] := hSw.1.1; have s1 : Own W g6 47 #[.int .u32 p', .int .i64 q', .int .u32 r', .slice A3 n' c3] := hSw.1.2; have s2 : Own W g7 75 #[.bool x0, .bool x1, .bool x2, .bool x3, .bool x4, .bool x5, .bool y0, .bool y1, .bool y2, .bool y3, .bool y4, .bool y5, .int .i64 H] := hSw.2.1; have s3 : Own W g8 75 #[.bool y0, .bool y1, .bool y2, .bool y3, .bool y4, .bool y5, .bool x0, .bool x1, .bool x2, .bool x3, .bool x4, .bool x5, .int .i64 H] := hSw.2.2.1; have s4 : Own W g9 75 #[.bool x0, .bool x1, .bool x2, .bool x3, .bool x4, .bool x5, .bool y0, .bool y1, .bool y2, .bool y3, .bool y4, .bool y5, .int .i64 H] := hSw.2.2.2; obtain ⟨e0, e1, e2, e3, e4, e5, e6, e7, e8, e9, e10, e11, e12⟩ := own_13 s4; go_simp; try with_reducible rfl)
    simp only [Act.put, List.getElem_toArray, List.getElem_cons_zero, List.getElem_cons_succ, List.setIfInBounds_toArray, List.set_cons_zero, List.set_cons_succ]
    refine wpAnyH_take (i := 14) (v := ?_) rfl (by kernel_rfl) (by kernel_rfl) (by kernel_rfl) (fun _ _ _ h => h) (Or.inl ⟨by rfl, ?_⟩) (by assumption) ?_
    rotate_left
    · (intro W hSw; skip; go_simp; try with_reducible rfl)
    simp only [Act.put, List.getElem_toArray, List.getElem_cons_zero, List.getElem_cons_succ, List.setIfInBounds_toArray, List.set_cons_zero, List.set_cons_succ]
    refine wpAnyH_take (i := 15) (v := ?_) rfl (by kernel_rfl) (by kernel_rfl) (by kernel_rfl) (fun _ _ _ h => h) (Or.inl ⟨by rfl, ?_⟩) (by assumption) ?_
    rotate_left
    · (intro W hSw; have heY := HEY.out W; go_simp; try with_reducible rfl)
    simp only [Act.put, List.getElem_toArray, List.getElem_cons_zero, List.getElem_cons_succ, List.setIfInBounds_toArray, List.set_cons_zero, List.set_cons_succ]
    refine wpAnyH_take (i := 16) (v := ?_) rfl (by kernel_rfl) (by kernel_rfl) (by kernel_rfl) (fun _ _ _ h => h) (Or.inl ⟨by rfl, ?_⟩) (by assumption) ?_
    rotate_left
    · (intro W hSw; skip; go_simp; try with_reducible rfl)
    simp only [Act.put, List.getElem_toArray, List.getElem_cons_zero, List.getElem_cons_succ, List.setIfInBounds_toArray, List.set_cons_zero, List.set_cons_succ]
    refine wpAnyH_take (i := 17) (v := ?_) rfl (by kernel_rfl) (by kernel_rfl) (by kernel_rfl) (fun _ _ _ h => h) (Or.inl ⟨by rfl, ?_⟩) (by assumption) ?_
    rotate_left
    · (intro W hSw; skip; go_simp; try with_reducible rfl)
    simp only [Act.put, List.getElem_toArray, List.getElem_cons_zero, List.getElem_cons_succ, List.setIfInBounds_toArray, List.set_cons_zero, List.set_cons_succ]
    refine wpAnyH_take (i := 18) (v := ?_) rfl (by kernel_rfl) (by kernel_rfl) (by kernel_rfl) (fun _ _ _ h => h) (Or.inl ⟨by rfl, ?_⟩) (by assumption) ?_
    rotate_left
    · (intro W hSw; have s0 : Own W g5 47 #[.int .u32 p, .int .i64 q, .int .u32 r, .slice A1 n c1] := hSw.1.1; have s1 : Own W g6 47 #[.int .u32 p', .int .i64 q', .int .u32 r', .slice A3 n' c3] := hSw.1.2; have s2 : Own W g7 75 #[.bool x0, .bool x1, .bool x2, .bool x3, .bool x4, .bool x5, .bool y0, .bool y1, .bool y2, .bool y3, .bool y4, .bool y5, .int .i64 H] := hSw.2.1; have s3 : Own W g8 75 #[.bool y0, .bool y1, .bool y2, .bool y3, .bool y4, .bool y5, .bool x0, .bool x1, .bool x2, .bool x3, .bool x4, .bool x5, .int .i64 H] := hSw.2.2.1; have s4 : Own W g9 75 #[.bool x0, .bool x1, .bool x2, .bool x3, .bool x4, .bool x5, .bool y0, .bool y1, .bool y2, .bool y3, .bool y4, .bool y5, .int .i64 H] := hSw.2.2.2; obtain ⟨e0, e1, e2, e3⟩ := own_end s0; go_simp; try with_reducible rfl)
    simp only [Act.put, List.getElem_toArray, List.getElem_cons_zero, List.getElem_cons_succ, List.setIfInBounds_toArray, List.set_cons_zero, List.set_cons_succ]
    refine wpAnyH_take (i := 19) (v := ?_) rfl (by kernel_rfl) (by kernel_rfl) (by kernel_rfl) (fun _ _ _ h => h) (Or.inl ⟨by rfl, ?_⟩) (by assumption) ?_
    rotate_left
    · (intro W hSw; have s0 : Own W g5 47 #[.int .u32 p, .int .i64 q, .int .u32 r, .slice A1 n c1] := hSw.1.1; have s1 : Own W g6 47 #[.int .u32 p', .int .i64 q', .int .u32 r', .slice A3 n' c3] := hSw.1.2; have s2 : Own W g7 75 #[.bool x0, .bool x1, .bool x2, .bool x3, .bool x4, .bool x5, .bool y0, .bool y1, .bool y2, .bool y3, .bool y4, .bool y5, .int .i64 H] := hSw.2.1; have s3 : Own W g8 75 #[.bool y0, .bool y1, .bool y2, .bool y3, .bool y4, .bool y5, .bool x0, .bool x1, .bool x2, .bool x3, .bool x4, .bool x5, .int .i64 H] := hSw.2.2.1; have s4 : Own W g9 75 #[.bool x0, .bool x1, .bool x2, .bool x3, .bool x4, .bool x5, .bool y0, .bool y1, .bool y2, .bool y3, .bool y4, .bool y5, .int .i64 H] := hSw.2.2.2; obtain ⟨e0, e1, e2, e3⟩ := own_end s1; go_simp; try with_reducible rfl)
    simp only [Act.put, List.getElem_toArray, List.getElem_cons_zero, List.getElem_cons_succ, List.setIfInBounds_toArray, List.set_cons_zero, List.set_cons_succ]
    refine wpAnyH_take (i := 21) (v := ?_) rfl (by kernel_rfl) (by kernel_rfl) (by kernel_rfl) (fun _ _ _ h => h) (Or.inl ⟨by rfl, ?_⟩) (by assumption) ?_
    rotate_left
    · (intro W hSw; skip; go_simp; try with_reducible rfl)
    simp only [Act.put, List.getElem_toArray, List.getElem_cons_zero, List.getElem_cons_succ, List.setIfInBounds_toArray, List.set_cons_zero, List.set_cons_succ]
    refine wpAnyH_take (i := 22) (v := ?_) rfl (by kernel_rfl) (by kernel_rfl) (by kernel_rfl) (fun _ _ _ h => h) (Or.inl ⟨by rfl, ?_⟩) (by assumption) ?_
    rotate_left
    · (intro W hSw; have s0 : Own W g5 47 #[.int .u32 p, .int .i64 q, .int .u32 r, .slice A1 n c1] := hSw.1.1; have s1 : Own W g6 47 #[.int .u32 p', .int .i64 q', .int .u32 r', .slice A3 n' c3] := hSw.1.2; have s2 : Own W g7 75 #[.bool x0, .bool x1, .bool x2, .bool x3, .bool x4, .bool x5, .bool y0, .bool y1, .bool y2, .bool y3, .bool y4, .bool y5, .int .i64 H] := hSw.2.1; have s3 : Own W g8 75 #[.bool y0, .bool y1, .bool y2, .bool y3, .bool y4, .bool y5, .bool x0, .bool x1, .bool x2, .bool x3, .bool x4, .bool x5, .int .i64 H] := hSw.2.2.1; have s4 : Own W g9 75 #[.bool x0, .bool x1, .bool x2, .bool x3, .bool x4, .bool x5, .bool y0, .bool y1, .bool y2, .bool y3, .bool y4, .bool y5, .int .i64 H] := hSw.2.2.2; obtain ⟨e0, e1, e2, e3, e4, e5, e6, e7, e8, e9, e10, e11, e12⟩ := own_13 s4; go_simp; try with_reducible rfl)
    simp only [Act.put, List.getElem_toArray, List.getElem_cons_zero, List.getElem_cons_succ, List.setIfInBounds_toArray, List.set_cons_zero, List.set_cons_succ]
    refine wpAnyH_ready (rs := [20]) (by kernel_rfl) (by simp) ?_
    refine (AllReadyH.cons rfl (fun K hK => ?_) AllReadyH.nil)
    go_simp
    go_at_call 44
    refine (hHn.out _).mono ?_
    rintro e w52 ⟨rfl, hc52⟩
    have hd52 := bl_trans hd51 hc52
    have oX52 := oX51.step hc52
    have oY52 := oY51.step hc52
    have oS52 := oS51.step hc52
    have oT52 := oT51.step hc52
    have oU52 := oU51.step hc52
    clear oX51 oY51 oS51 oT51 oU51
    refine hK.out _ _ ⟨⟨oX52, oY52⟩, oS52, oT52, oU52⟩ (fun hHeld2 => ?_)
    clear hK K hHeld
    have hHeld := hHeld2
    clear hHeld2
    try simp only [Act.put, List.getElem_toArray, List.getElem_cons_zero, List.getElem_cons_succ, List.setIfInBounds_toArray, List.set_cons_zero, List.set_cons_succ]
    refine wpAnyH_take (i := 23) (v := ?_) rfl (by kernel_rfl) (by kernel_rfl) (by kernel_rfl) (fun _ _ _ h => h) (Or.inl ⟨by rfl, ?_⟩) (by assumption) ?_
    rotate_left
    · (intro W hSw; skip; go_simp; try with_reducible rfl)
    simp only [Act.put, List.getElem_toArray, List.getElem_cons_zero, List.getElem_cons_succ, List.setIfInBounds_toArray, List.set_cons_zero, List.set_cons_succ]
    refine wpAnyH_take (i := 24) (v := ?_) rfl (by kernel_rfl) (by kernel_rfl) (by kernel_rfl) (fun _ _ _ h => h) (Or.inl ⟨by rfl, ?_⟩) (by assumption) ?_
    rotate_left
    · (intro W hSw; skip; go_simp; try with_reducible rfl)
    simp only [Act.put, List.getElem_toArray, List.getElem_cons_zero, List.getElem_cons_succ, List.setIfInBounds_toArray, List.set_cons_zero, List.set_cons_succ]
    refine wpAnyH_take (i := 25) (v := ?_) rfl (by kernel_rfl) (by kernel_rfl) (by kernel_rfl) (fun _ _ _ h => h) (Or.inl ⟨by rfl, ?_⟩) (by assumption) ?_
    rotate_left
    · (intro W hSw; skip; go_simp; try with_reducible rfl)
    simp only [Act.put, List.getElem_toArray, List.getElem_cons_zero, List.getElem_cons_succ, List.setIfInBounds_toArray, List.set_cons_zero, List.set_cons_succ]
    refine wpAnyH_done (by kernel_rfl) ?_ _
    go_wp2
    go_ret
    exact ⟨rfl, hd52⟩
end Go.Proofs.YtniheakafkakhaaDoor

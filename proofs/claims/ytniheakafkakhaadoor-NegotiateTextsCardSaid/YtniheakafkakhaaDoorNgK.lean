/- NegotiateTexts: the walk -/
import Derived.Test.YtniheakafkakhaaDoorNgM2
namespace Go.Proofs.YtniheakafkakhaaDoor
open Go.RowKit Go.Sort
theorem holdK_ok {q q' : Int} (h : 0 ≤ q ∧ q ≤ 65535) (h' : 0 ≤ q' ∧ q' ≤ 65535) : 0 ≤ holdK q q' ∧ holdK q q' ≤ 65535 := by
  unfold holdK
  split
  · omega
  · split
    · omega
    · omega
set_option maxRecDepth 100000 in
set_option maxHeartbeats 12800000 in
theorem ngtxt_all (p q r : Int) (A : Option Addr) (n c : Nat) (p' q' r' : Int) (A' : Option Addr) (n' c' : Nat) (ss ts : List Cp) (w : World) (hf : Fams w) (hT : Tens w) (h : Caps w w.heap.size A n ss) (h' : Caps w w.heap.size A' n' ts) (hm : n ≤ maxLen) (hm' : n' ≤ maxLen) :
    Calls Tryd.prog 10 #[.agg #[.int .u32 p, .int .i64 q, .int .u32 r, .slice A n c], .agg #[.int .u32 p', .int .i64 q', .int .u32 r', .slice A' n' c']] w fun e w' => e = .returned (.bool true) ∧ Below w.heap.size w w' := by
  have HCa := Lib.hid h
  have HCb := Lib.hid h'
  have HF := Lib.hid hf
  have HNa := Lib.hid h.1
  have HNb := Lib.hid h'.1
  have HMa := Lib.hid hm
  have HMb := Lib.hid hm'
  obtain ⟨X, hX, oA, oB, hbX, hXs⟩ := two_boxesN w #[.int .u32 p, .int .i64 q, .int .u32 r, .slice A n c] #[.int .u32 p', .int .i64 q', .int .u32 r', .slice A' n' c'] 41 41
  clear h h' hm hm' hf
  have oR := Own.new X 41 #[.int .u32 p, .int .i64 q, .int .u32 r, .slice A n c, .int .u32 p', .int .i64 q', .int .u32 r', .slice A' n' c']
  have hbR := bl_alloc hbX (.cells #[.int .u32 p, .int .i64 q, .int .u32 r, .slice A n c, .int .u32 p', .int .i64 q', .int .u32 r', .slice A' n' c'] 41)
  have hbX1 := bl_alloc (bl_refl X) (.cells #[.int .u32 p, .int .i64 q, .int .u32 r, .slice A n c, .int .u32 p', .int .i64 q', .int .u32 r', .slice A' n' c'] 41)
  have hR := Lib.hid (right22_any p q r A n c p' q' r' A' n' c' ss ts X.heap.size _ (HCa.out.step hbR) (HCb.out.step hbR) HMa.out HMb.out oR)
  obtain ⟨a0, a1, a2, a3⟩ := own_end oA
  obtain ⟨b0, b1, b2, b3⟩ := own_end oB
  go_enter Tryd.func10, Tryd.ntmps10
  go_upto_region 1 with fail
  rw [← hX]
  clear hX hXs
  go_wp2_with fail
  refine hR.out.mono ?_
  rintro e w2 ⟨D, rfl, hD, hb2⟩
  have hb3 := bl_trans hbR hb2
  have oA2 := (oA.step hbX1).step hb2
  have oB2 := (oB.step hbX1).step hb2
  clear hR oR hbX1 a0 a1 a2 a3 b0 b1 b2 b3 oA oB hbX hbR hb2
  cases D
  · go_wp2_with fail
    refine (alive22_any _ (HF.out.below hb3)).mono ?_
    rintro e w3 ⟨rfl, hb4⟩
    have hb5 := bl_trans hb3 hb4
    go_wp2
    go_ret
    exact ⟨rfl, hb5⟩
  · obtain ⟨hRa, hRb⟩ := hD rfl
    have hna : n ≤ 40 := by rw [HNa.out]; exact (fewCp_of hRa.1).1
    have hnb : n' ≤ 40 := by rw [HNb.out]; exact (fewCp_of hRb.1).1
    have HSa := Lib.hid (fewCp_of hRa.1).2
    have HSb := Lib.hid (fewCp_of hRb.1).2
    have hq := Lib.hid (holdB_ok hRa.2)
    have hq' := Lib.hid (holdB_ok hRb.2)
    have HCa2 := Lib.hid (HCa.out.step hb3)
    have HCb2 := Lib.hid (HCb.out.step hb3)
    have HF2 := Lib.hid (HF.out.below hb3)
    have HT2 := Lib.hid (hT.below hb3)
    clear hT
    have hsz := hb3.size
    clear hRa hRb hD HCa HCb HF HNa HNb HMa HMb
    have hH := Lib.hid (holdK_ok hq.out hq'.out)
    obtain ⟨x0, x1, x2, x3, x4, x5, ex⟩ : ∃ x0 x1 x2 x3 x4 x5, towK (ss.map cpK) (ts.map cpK) = #[.bool x0, .bool x1, .bool x2, .bool x3, .bool x4, .bool x5] := ⟨_, _, _, _, _, _, rfl⟩
    obtain ⟨y0, y1, y2, y3, y4, y5, ey⟩ : ∃ y0 y1 y2 y3 y4 y5, towK (ts.map cpK) (ss.map cpK) = #[.bool y0, .bool y1, .bool y2, .bool y3, .bool y4, .bool y5] := ⟨_, _, _, _, _, _, rfl⟩
    have hDz : (decB (holdK q q')).size ≤ 100 := Nat.le_trans (decB_size (n := holdK q q') (by have := hH.out; omega)) (by omega)
    have hAl : Hid (∀ W, Below w2.heap.size w2 W → Calls Tryd.prog 38 #[] W fun e w' => e = .returned (.bool true) ∧ Below W.heap.size W w') := Lib.hid fun W hb => alive22_any W (HF2.out.below hb)
    have hTx : Hid (∀ W, Below w2.heap.size w2 W → Calls Tryd.prog 51 #[.agg #[.int .u32 p, .int .i64 q, .int .u32 r, .slice A n c], .agg #[.int .u32 p', .int .i64 q', .int .u32 r', .slice A' n' c']] W fun e w' => e = .returned (.string (ngTxt (oTxt x0 x1 x2 x3 x4 x5) (oTxt y0 y1 y2 y3 y4 y5) (decB (holdK q q')))) ∧ Below W.heap.size W w') := Lib.hid fun W hb => rtext22_any p q r A n c p' q' r' A' n' c' ss ts W (HCa2.out.step hb) (HCb2.out.step hb) (by omega) (by omega) (fun s hs => Nat.le_trans (HSa.out s hs) (by omega)) (fun s hs => Nat.le_trans (HSb.out s hs) (by omega)) x0 x1 x2 x3 x4 x5 y0 y1 y2 y3 y4 y5 ex ey _ hDz (fun V _ => rdecimal_any _ hH.out.1 (by have := hH.out; omega) V)
    have hNt : Hid (∀ (W : World) (A1 : Option Addr) (c1 : Nat) (A3 : Option Addr) (c3 : Nat), Below w2.heap.size w2 W → Caps W W.heap.size A1 n ss → Caps W W.heap.size A3 n' ts → Calls Tryd.prog 50 #[.agg #[.int .u32 p, .int .i64 q, .int .u32 r, .slice A1 n c1], .agg #[.int .u32 p', .int .i64 q', .int .u32 r', .slice A3 n' c3]] W fun e w' => e = .returned (.string (ngTxt (oTxt x0 x1 x2 x3 x4 x5) (oTxt y0 y1 y2 y3 y4 y5) (decB (holdK q q')))) ∧ Below W.heap.size W w') := Lib.hid fun W A1 c1 A3 c3 hb g1 g3 => ntext_any p q r A1 n c1 p' q' r' A3 n' c3 ss ts W g1 g3 (by omega) (by omega) (fun s hs => Nat.le_trans (HSa.out s hs) (by omega)) (fun s hs => Nat.le_trans (HSb.out s hs) (by omega)) (HF2.out.below hb) x0 x1 x2 x3 x4 x5 y0 y1 y2 y3 y4 y5 ex ey _ hDz (fun V hV => itoa_any _ hH.out.1 (by have := hH.out; omega) V (HT2.out.below (bl_trans hb hV)))
    generalize ngTxt (oTxt x0 x1 x2 x3 x4 x5) (oTxt y0 y1 y2 y3 y4 y5) (decB (holdK q q')) = Z at *
    clear ex ey hDz hH hq hq' HF2 HT2
    go_upto_region 3 with fail
    refine wp_region_held_drew (S := (fun X => Own X w.heap.size 41 #[.int .u32 p, .int .i64 q, .int .u32 r, .slice A n c] ∧ Own X (w.heap.size + 1) 41 #[.int .u32 p', .int .i64 q', .int .u32 r', .slice A' n' c'])) (by kernel_rfl) ⟨oA2.drew, oB2.drew⟩ (fun hHeld => ?_)
    have oA0 := oA2.drew
    have oB0 := oB2.drew
    have hb0 := bl_drewN hb3 1
    have bb0 := bl_drewN (bl_refl w2) 1
    clear oA2 oB2 hb3
    refine wpAnyH_ready (rs := [0]) (by kernel_rfl) (by simp) ?_
    refine (AllReadyH.cons rfl (fun K hK => ?_) AllReadyH.nil)
    go_simp
    go_at_call 38
    refine (hAl.out _ bb0).mono ?_
    rintro e w3 ⟨rfl, hc1⟩
    have hb1 := bl_trans hb0 hc1
    have bb1 := bl_trans bb0 hc1
    have oA1 := oA0.step hc1
    have oB1 := oB0.step hc1
    clear oA0 oB0
    refine hK.out _ _ ⟨oA1, oB1⟩ (fun hHeld2 => ?_)
    clear hK K hHeld
    have hHeld := hHeld2
    clear hHeld2
    try simp only [Act.put, List.getElem_toArray, List.getElem_cons_zero, List.getElem_cons_succ, List.setIfInBounds_toArray, List.set_cons_zero, List.set_cons_succ]
    refine wpAnyH_take (i := 1) (v := ?_) rfl (by kernel_rfl) (by kernel_rfl) (by kernel_rfl) (fun _ _ _ h => h) (Or.inl ⟨by rfl, ?_⟩) (by assumption) ?_
    rotate_left
    · (intro W hSw; skip; go_simp; try with_reducible rfl)
    simp only [Act.put, List.getElem_toArray, List.getElem_cons_zero, List.getElem_cons_succ, List.setIfInBounds_toArray, List.set_cons_zero, List.set_cons_succ]
    refine wpAnyH_take (i := 2) (v := ?_) rfl (by kernel_rfl) (by kernel_rfl) (by kernel_rfl) (fun _ _ _ h => h) (Or.inl ⟨by rfl, ?_⟩) (by assumption) ?_
    rotate_left
    · (intro W hSw; have s0 : Own W w.heap.size 41 #[.int .u32 p, .int .i64 q, .int .u32 r, .slice A n c] := hSw.1; have s1 : Own W (w.heap.size + 1) 41 #[.int .u32 p', .int .i64 q', .int .u32 r', .slice A' n' c'] := hSw.2; obtain ⟨e0, e1, e2, e3⟩ := own_end s0; obtain ⟨d0, d1, d2, d3⟩ := own_end s1; go_simp; try with_reducible rfl)
    simp only [Act.put, List.getElem_toArray, List.getElem_cons_zero, List.getElem_cons_succ, List.setIfInBounds_toArray, List.set_cons_zero, List.set_cons_succ]
    refine wpAnyH_take (i := 4) (v := ?_) rfl (by kernel_rfl) (by kernel_rfl) (by kernel_rfl) (fun _ _ _ h => h) (Or.inl ⟨by rfl, ?_⟩) (by assumption) ?_
    rotate_left
    · (intro W hSw; have s0 : Own W w.heap.size 41 #[.int .u32 p, .int .i64 q, .int .u32 r, .slice A n c] := hSw.1; have s1 : Own W (w.heap.size + 1) 41 #[.int .u32 p', .int .i64 q', .int .u32 r', .slice A' n' c'] := hSw.2; obtain ⟨e0, e1, e2, e3⟩ := own_end s0; obtain ⟨d0, d1, d2, d3⟩ := own_end s1; go_simp; try with_reducible rfl)
    simp only [Act.put, List.getElem_toArray, List.getElem_cons_zero, List.getElem_cons_succ, List.setIfInBounds_toArray, List.set_cons_zero, List.set_cons_succ]
    refine wpAnyH_take (i := 7) (v := ?_) rfl (by kernel_rfl) (by kernel_rfl) (by kernel_rfl) (fun _ _ _ h => h) (Or.inl ⟨by rfl, ?_⟩) (by assumption) ?_
    rotate_left
    · (intro W hSw; have s0 : Own W w.heap.size 41 #[.int .u32 p, .int .i64 q, .int .u32 r, .slice A n c] := hSw.1; have s1 : Own W (w.heap.size + 1) 41 #[.int .u32 p', .int .i64 q', .int .u32 r', .slice A' n' c'] := hSw.2; obtain ⟨e0, e1, e2, e3⟩ := own_end s0; obtain ⟨d0, d1, d2, d3⟩ := own_end s1; go_simp; try with_reducible rfl)
    simp only [Act.put, List.getElem_toArray, List.getElem_cons_zero, List.getElem_cons_succ, List.setIfInBounds_toArray, List.set_cons_zero, List.set_cons_succ]
    refine wpAnyH_take (i := 8) (v := ?_) rfl (by kernel_rfl) (by kernel_rfl) (by kernel_rfl) (fun _ _ _ h => h) (Or.inl ⟨by rfl, ?_⟩) (by assumption) ?_
    rotate_left
    · (intro W hSw; have s0 : Own W w.heap.size 41 #[.int .u32 p, .int .i64 q, .int .u32 r, .slice A n c] := hSw.1; have s1 : Own W (w.heap.size + 1) 41 #[.int .u32 p', .int .i64 q', .int .u32 r', .slice A' n' c'] := hSw.2; obtain ⟨e0, e1, e2, e3⟩ := own_end s0; obtain ⟨d0, d1, d2, d3⟩ := own_end s1; go_simp; try with_reducible rfl)
    simp only [Act.put, List.getElem_toArray, List.getElem_cons_zero, List.getElem_cons_succ, List.setIfInBounds_toArray, List.set_cons_zero, List.set_cons_succ]
    refine wpAnyH_ready (rs := [3]) (by kernel_rfl) (by simp) ?_
    refine (AllReadyH.cons rfl (fun K hK => ?_) AllReadyH.nil)
    go_simp
    go_at_call 25
    refine (given17_any p q r A n c ss w3 (HCa2.out.step bb1) (by omega)).mono ?_
    rintro e w4 ⟨A1, c1, rfl, hC1, hc2⟩
    have hb2 := bl_trans hb1 hc2
    have bb2 := bl_trans bb1 hc2
    have oA2 := oA1.step hc2
    have oB2 := oB1.step hc2
    clear oA1 oB1
    refine hK.out _ _ ⟨oA2, oB2⟩ (fun hHeld2 => ?_)
    clear hK K hHeld
    have hHeld := hHeld2
    clear hHeld2
    try simp only [Act.put, List.getElem_toArray, List.getElem_cons_zero, List.getElem_cons_succ, List.setIfInBounds_toArray, List.set_cons_zero, List.set_cons_succ]
    refine wpAnyH_ready (rs := [5]) (by kernel_rfl) (by simp) ?_
    refine (AllReadyH.cons rfl (fun K hK => ?_) AllReadyH.nil)
    go_simp
    go_at_call 25
    refine (given17_any p' q' r' A' n' c' ts w4 (HCb2.out.step bb2) (by omega)).mono ?_
    rintro e w5 ⟨A3, c3, rfl, hC3, hc3⟩
    have hb3 := bl_trans hb2 hc3
    have bb3 := bl_trans bb2 hc3
    have oA3 := oA2.step hc3
    have oB3 := oB2.step hc3
    clear oA2 oB2
    replace hC1 := hC1.step hc3
    refine hK.out _ _ ⟨oA3, oB3⟩ (fun hHeld2 => ?_)
    clear hK K hHeld
    have hHeld := hHeld2
    clear hHeld2
    try simp only [Act.put, List.getElem_toArray, List.getElem_cons_zero, List.getElem_cons_succ, List.setIfInBounds_toArray, List.set_cons_zero, List.set_cons_succ]
    refine wpAnyH_ready (rs := [6]) (by kernel_rfl) (by simp) ?_
    refine (AllReadyH.cons rfl (fun K hK => ?_) AllReadyH.nil)
    go_simp
    go_at_call 50
    refine (hNt.out _ _ _ _ _ bb3 hC1 hC3).mono ?_
    rintro e w6 ⟨rfl, hc4⟩
    have hb4 := bl_trans hb3 hc4
    have bb4 := bl_trans bb3 hc4
    have oA4 := oA3.step hc4
    have oB4 := oB3.step hc4
    clear oA3 oB3
    refine hK.out _ _ ⟨oA4, oB4⟩ (fun hHeld2 => ?_)
    clear hK K hHeld
    have hHeld := hHeld2
    clear hHeld2
    try simp only [Act.put, List.getElem_toArray, List.getElem_cons_zero, List.getElem_cons_succ, List.setIfInBounds_toArray, List.set_cons_zero, List.set_cons_succ]
    refine wpAnyH_ready (rs := [9]) (by kernel_rfl) (by simp) ?_
    refine (AllReadyH.cons rfl (fun K hK => ?_) AllReadyH.nil)
    go_simp
    go_at_call 51
    refine (hTx.out _ bb4).mono ?_
    rintro e w7 ⟨rfl, hc5⟩
    have hb5 := bl_trans hb4 hc5
    have bb5 := bl_trans bb4 hc5
    have oA5 := oA4.step hc5
    have oB5 := oB4.step hc5
    clear oA4 oB4
    refine hK.out _ _ ⟨oA5, oB5⟩ (fun hHeld2 => ?_)
    clear hK K hHeld
    have hHeld := hHeld2
    clear hHeld2
    try simp only [Act.put, List.getElem_toArray, List.getElem_cons_zero, List.getElem_cons_succ, List.setIfInBounds_toArray, List.set_cons_zero, List.set_cons_succ]
    refine wpAnyH_take (i := 10) (v := ?_) rfl (by kernel_rfl) (by kernel_rfl) (by kernel_rfl) (fun _ _ _ h => h) (Or.inl ⟨by rfl, ?_⟩) (by assumption) ?_
    rotate_left
    · (intro W hSw; skip; go_simp; try with_reducible rfl)
    simp only [Act.put, List.getElem_toArray, List.getElem_cons_zero, List.getElem_cons_succ, List.setIfInBounds_toArray, List.set_cons_zero, List.set_cons_succ]
    refine wpAnyH_take (i := 11) (v := ?_) rfl (by kernel_rfl) (by kernel_rfl) (by kernel_rfl) (fun _ _ _ h => h) (Or.inl ⟨by rfl, ?_⟩) (by assumption) ?_
    rotate_left
    · (intro W hSw; skip; go_simp; try with_reducible rfl)
    simp only [Act.put, List.getElem_toArray, List.getElem_cons_zero, List.getElem_cons_succ, List.setIfInBounds_toArray, List.set_cons_zero, List.set_cons_succ]
    refine wpAnyH_take (i := 12) (v := ?_) rfl (by kernel_rfl) (by kernel_rfl) (by kernel_rfl) (fun _ _ _ h => h) (Or.inl ⟨by rfl, ?_⟩) (by assumption) ?_
    rotate_left
    · (intro W hSw; skip; go_simp; try with_reducible rfl)
    simp only [Act.put, List.getElem_toArray, List.getElem_cons_zero, List.getElem_cons_succ, List.setIfInBounds_toArray, List.set_cons_zero, List.set_cons_succ]
    refine wpAnyH_done (by kernel_rfl) ?_ _
    go_wp2
    go_ret
    exact ⟨rfl, hb5⟩
end Go.Proofs.YtniheakafkakhaaDoor

/- OpenParses: the walk -/
import Derived.Test.YtniheakafkakhaaOqM2
namespace Go.Proofs.Ytniheakafkakhaa
open Go.RowKit Go.Sort
set_option maxRecDepth 100000 in
set_option maxHeartbeats 12800000 in
theorem oppar_all (A : Option Addr) (n c : Nat) (bs : List Int) (w : World) (hx : Bytes w w.heap.size A n bs) (hc : n ≤ c ∧ c ≤ 9223372036854775807) :
    Calls Try.prog 3 #[.slice A n c] w fun e w' => e = .returned (.bool true) ∧ Below w.heap.size w w' := by
  have hnl := hx.1
  by_cases h6 : n ≤ 600
  rotate_left
  · have g6 : (600 : Int) < (n : Int) := by omega
    clear hnl h6 hc hx
    go_enter Try.func3, Try.ntmps3
    go_wp2_with fail
    refine (alive17_any _).mono ?_
    rintro e w3 ⟨rfl, hb4⟩
    go_wp2
    go_ret
    exact ⟨rfl, hb4⟩
  · have g6 : ¬ ((600 : Int) < (n : Int)) := by omega
    have hby : byteC bs := hx.2.1
    obtain ⟨⟨⟨a, hd, id, N⟩, k, cd, s, t, ds⟩, hQ⟩ : ∃ Q, oAns (oParse bs) = Q := ⟨_, rfl⟩
    have hP1 := Lib.hid ((oparse_any A n c bs w hx (by omega)).mono (fun e w' h => h.res hQ hby))
    have hP2 := Lib.hid (fun (W : World) (k2 : Below w.heap.size w W) => (ropen_any A n c bs W ((hx.below k2).more k2.size) hc (by omega)).mono (fun e w' h => h.res hQ hby))
    clear hnl h6 hc hx hby hQ
    go_enter Try.func3, Try.ntmps3
    go_upto_region 3 with fail
    go_cut [3, 4] (fun v3 v4 wx => PBx 27 a hd id N k cd s t ds w v3 v4 wx)
    case first =>
      go_wp2_with fail
      refine (hP1.out).mono ?_
      rintro e w1 ⟨A1, c1, L1, D1, dn1, dc1, rfl, hC1, hk1, hl1, hB1, hb1⟩
      have HC1 := Lib.hid hC1
      have HK1 := Lib.hid hk1
      have HL1 := Lib.hid hl1
      have HB1 := Lib.hid hB1
      have Hb1 := Lib.hid hb1
      clear hC1 hk1 hl1 hB1 hb1
      obtain ⟨X1, hX1, oR, oV, hbX, hXs⟩ := two_boxesN w1 #[.int .u32 a, .int .i64 hd, .int .u32 id, .slice A1 L1.length c1] #[.int .i64 k, .int .i64 cd, .int .i64 s, .slice D1 dn1 dc1, .int .i64 t] 27 29
      clear hXs
      dsimp only
      repeat (first | go_values | go_skip | go_guarded | go_step | go_upon)
      go_meet
      rw [← hX1]
      exact ⟨w1.heap.size, w1.heap.size + 1, A1, c1, L1, D1, dn1, dc1, rfl, rfl, oR, oV, HC1.out.step hbX, HK1.out, HL1.out, HB1.out.stp hbX, bl_trans Hb1.out hbX⟩
    case rest =>
    obtain ⟨wa, hwa⟩ : ∃ z, z = wc := ⟨_, rfl⟩
    subst hwa
    obtain ⟨g1, g2, A1, c1, L1, D1, dn1, dc1, rfl, rfl, o1, o2, hC1, hk1, hl1, hB1, hb1⟩ := hcut
    have hP3 := Lib.hid (hP2.out wa hb1)
    have HC1 := Lib.hid hC1
    have HK1 := Lib.hid hk1
    have HL1 := Lib.hid hl1
    have HB1 := Lib.hid hB1
    clear hP1 hP2 hC1 hk1 hl1 hB1
    go_upto_region 4 with fail
    go_cut [5, 6] (fun v5 v6 wx => PBx 34 a hd id N k cd s t ds wa v5 v6 wx)
    case first =>
      clear o1 o2 HC1 HK1 HL1 HB1 hb1
      go_wp2_with fail
      refine (hP3.out).mono ?_
      rintro e w1 ⟨A1, c1, L1, D1, dn1, dc1, rfl, hC1, hk1, hl1, hB1, hb1⟩
      have HC1 := Lib.hid hC1
      have HK1 := Lib.hid hk1
      have HL1 := Lib.hid hl1
      have HB1 := Lib.hid hB1
      have Hb1 := Lib.hid hb1
      clear hC1 hk1 hl1 hB1 hb1
      obtain ⟨X1, hX1, oR, oV, hbX, hXs⟩ := two_boxesN w1 #[.int .u32 a, .int .i64 hd, .int .u32 id, .slice A1 L1.length c1] #[.int .i64 k, .int .i64 cd, .int .i64 s, .slice D1 dn1 dc1, .int .i64 t] 34 29
      clear hXs
      dsimp only
      repeat (first | go_values | go_skip | go_guarded | go_step | go_upon)
      go_meet
      rw [← hX1]
      exact ⟨w1.heap.size, w1.heap.size + 1, A1, c1, L1, D1, dn1, dc1, rfl, rfl, oR, oV, HC1.out.step hbX, HK1.out, HL1.out, HB1.out.stp hbX, bl_trans Hb1.out hbX⟩
    case rest =>
    obtain ⟨wb, hwb⟩ : ∃ z, z = wc := ⟨_, rfl⟩
    subst hwb
    obtain ⟨g3, g4, A2, c2, L2, D2, dn2, dc2, rfl, rfl, o3, o4, hC2, hk2, hl2, hB2, hb2⟩ := hcut
    have hb3 := bl_trans hb1 hb2
    have o12 := o1.step hb2
    have o22 := o2.step hb2
    have HCA := Lib.hid (HC1.out.step hb2)
    have HBA := Lib.hid (HB1.out.stp hb2)
    have HCB := Lib.hid hC2
    have HBB := Lib.hid hB2
    have HKK := Lib.hid (HK1.out.trans hk2.symm)
    have HLB := Lib.hid hl2
    clear o1 o2 hb1 hb2 hC2 hk2 hl2 hB2 HC1 HB1 HK1 hP3
    go_upto_region 5 with fail
    refine wp_region_held_drew (S := (fun X => (Own X g1 27 #[.int .u32 a, .int .i64 hd, .int .u32 id, .slice A1 L1.length c1] ∧ Own X g2 29 #[.int .i64 k, .int .i64 cd, .int .i64 s, .slice D1 dn1 dc1, .int .i64 t]) ∧ Own X g3 34 #[.int .u32 a, .int .i64 hd, .int .u32 id, .slice A2 L2.length c2] ∧ Own X g4 29 #[.int .i64 k, .int .i64 cd, .int .i64 s, .slice D2 dn2 dc2, .int .i64 t])) (by kernel_rfl) ⟨⟨o12.drew, o22.drew⟩, o3.drew, o4.drew⟩ (fun hHeld => ?_)
    have hd10 := bl_drewN hb3 1
    have hv10 := bl_drewN (bl_refl wb) 1
    have oA10 := o12.drew
    have oB10 := o22.drew
    have oC10 := o3.drew
    have oD10 := o4.drew
    clear o12 o22 o3 o4 hb3
    refine wpAnyH_ready (rs := [0]) (by kernel_rfl) (by simp) ?_
    refine (AllReadyH.cons rfl (fun K hK => ?_) AllReadyH.nil)
    go_simp
    go_at_call 6
    refine (alive17_any _).mono ?_
    rintro e w3 ⟨rfl, hc11⟩
    have hd11 := bl_trans hd10 hc11
    have hv11 := bl_trans hv10 hc11
    have oA11 := oA10.step hc11
    have oB11 := oB10.step hc11
    have oC11 := oC10.step hc11
    have oD11 := oD10.step hc11
    clear oA10 oB10 oC10 oD10
    refine hK.out _ _ ⟨⟨oA11, oB11⟩, oC11, oD11⟩ (fun hHeld2 => ?_)
    clear hK K hHeld
    have hHeld := hHeld2
    clear hHeld2
    try simp only [Act.put, List.getElem_toArray, List.getElem_cons_zero, List.getElem_cons_succ, List.setIfInBounds_toArray, List.set_cons_zero, List.set_cons_succ]
    refine wpAnyH_take (i := 1) (v := ?_) rfl (by kernel_rfl) (by kernel_rfl) (by kernel_rfl) (fun _ _ _ h => h) (Or.inl ⟨by rfl, ?_⟩) (by assumption) ?_
    rotate_left
    · (intro W hSw; skip; go_simp; try with_reducible rfl)
    simp only [Act.put, List.getElem_toArray, List.getElem_cons_zero, List.getElem_cons_succ, List.setIfInBounds_toArray, List.set_cons_zero, List.set_cons_succ]
    refine wpAnyH_take (i := 2) (v := ?_) rfl (by kernel_rfl) (by kernel_rfl) (by kernel_rfl) (fun _ _ _ h => h) (Or.inl ⟨by rfl, ?_⟩) (by assumption) ?_
    rotate_left
    · (intro W hSw; have s1 : Own W g1 27 #[.int .u32 a, .int .i64 hd, .int .u32 id, .slice A1 L1.length c1] := hSw.1.1; have s2 : Own W g2 29 #[.int .i64 k, .int .i64 cd, .int .i64 s, .slice D1 dn1 dc1, .int .i64 t] := hSw.1.2; have s3 : Own W g3 34 #[.int .u32 a, .int .i64 hd, .int .u32 id, .slice A2 L2.length c2] := hSw.2.1; have s4 : Own W g4 29 #[.int .i64 k, .int .i64 cd, .int .i64 s, .slice D2 dn2 dc2, .int .i64 t] := hSw.2.2; obtain ⟨e0, e1, e2, e3, e4⟩ := own_5 s2; go_simp; try with_reducible rfl)
    simp only [Act.put, List.getElem_toArray, List.getElem_cons_zero, List.getElem_cons_succ, List.setIfInBounds_toArray, List.set_cons_zero, List.set_cons_succ]
    refine wpAnyH_take (i := 3) (v := ?_) rfl (by kernel_rfl) (by kernel_rfl) (by kernel_rfl) (fun _ _ _ h => h) (Or.inl ⟨by rfl, ?_⟩) (by assumption) ?_
    rotate_left
    · (intro W hSw; have s1 : Own W g1 27 #[.int .u32 a, .int .i64 hd, .int .u32 id, .slice A1 L1.length c1] := hSw.1.1; have s2 : Own W g2 29 #[.int .i64 k, .int .i64 cd, .int .i64 s, .slice D1 dn1 dc1, .int .i64 t] := hSw.1.2; have s3 : Own W g3 34 #[.int .u32 a, .int .i64 hd, .int .u32 id, .slice A2 L2.length c2] := hSw.2.1; have s4 : Own W g4 29 #[.int .i64 k, .int .i64 cd, .int .i64 s, .slice D2 dn2 dc2, .int .i64 t] := hSw.2.2; obtain ⟨e0, e1, e2, e3, e4⟩ := own_5 s4; go_simp; try with_reducible rfl)
    simp only [Act.put, List.getElem_toArray, List.getElem_cons_zero, List.getElem_cons_succ, List.setIfInBounds_toArray, List.set_cons_zero, List.set_cons_succ]
    refine wpAnyH_ready (rs := [4]) (by kernel_rfl) (by simp) ?_
    refine (AllReadyH.cons rfl (fun K hK => ?_) AllReadyH.nil)
    go_simp
    go_at_call 9
    refine (vsame_same k cd s t D1 D2 dn1 dn2 dc1 dc2 ds _ (HBA.out.stp hv11) (HBB.out.stp hv11)).mono ?_
    rintro e w4 ⟨rfl, hc12⟩
    have hd12 := bl_trans hd11 hc12
    have hv12 := bl_trans hv11 hc12
    have oA12 := oA11.step hc12
    have oB12 := oB11.step hc12
    have oC12 := oC11.step hc12
    have oD12 := oD11.step hc12
    clear oA11 oB11 oC11 oD11
    refine hK.out _ _ ⟨⟨oA12, oB12⟩, oC12, oD12⟩ (fun hHeld2 => ?_)
    clear hK K hHeld
    have hHeld := hHeld2
    clear hHeld2
    try simp only [Act.put, List.getElem_toArray, List.getElem_cons_zero, List.getElem_cons_succ, List.setIfInBounds_toArray, List.set_cons_zero, List.set_cons_succ]
    refine wpAnyH_take (i := 5) (v := ?_) rfl (by kernel_rfl) (by kernel_rfl) (by kernel_rfl) (fun _ _ _ h => h) (Or.inl ⟨by rfl, ?_⟩) (by assumption) ?_
    rotate_left
    · (intro W hSw; skip; go_simp; try with_reducible rfl)
    simp only [Act.put, List.getElem_toArray, List.getElem_cons_zero, List.getElem_cons_succ, List.setIfInBounds_toArray, List.set_cons_zero, List.set_cons_succ]
    refine wpAnyH_take (i := 6) (v := ?_) rfl (by kernel_rfl) (by kernel_rfl) (by kernel_rfl) (fun _ _ _ h => h) (Or.inl ⟨by rfl, ?_⟩) (by assumption) ?_
    rotate_left
    · (intro W hSw; skip; go_simp; try with_reducible rfl)
    simp only [Act.put, List.getElem_toArray, List.getElem_cons_zero, List.getElem_cons_succ, List.setIfInBounds_toArray, List.set_cons_zero, List.set_cons_succ]
    refine wpAnyH_take (i := 7) (v := ?_) rfl (by kernel_rfl) (by kernel_rfl) (by kernel_rfl) (fun _ _ _ h => h) (Or.inl ⟨by rfl, ?_⟩) (by assumption) ?_
    rotate_left
    · (intro W hSw; have s1 : Own W g1 27 #[.int .u32 a, .int .i64 hd, .int .u32 id, .slice A1 L1.length c1] := hSw.1.1; have s2 : Own W g2 29 #[.int .i64 k, .int .i64 cd, .int .i64 s, .slice D1 dn1 dc1, .int .i64 t] := hSw.1.2; have s3 : Own W g3 34 #[.int .u32 a, .int .i64 hd, .int .u32 id, .slice A2 L2.length c2] := hSw.2.1; have s4 : Own W g4 29 #[.int .i64 k, .int .i64 cd, .int .i64 s, .slice D2 dn2 dc2, .int .i64 t] := hSw.2.2; obtain ⟨e0, e1, e2, e3⟩ := own_end s1; go_simp; try with_reducible rfl)
    simp only [Act.put, List.getElem_toArray, List.getElem_cons_zero, List.getElem_cons_succ, List.setIfInBounds_toArray, List.set_cons_zero, List.set_cons_succ]
    refine wpAnyH_take (i := 9) (v := ?_) rfl (by kernel_rfl) (by kernel_rfl) (by kernel_rfl) (fun _ _ _ h => h) (Or.inl ⟨by rfl, ?_⟩) (by assumption) ?_
    rotate_left
    · (intro W hSw; have s1 : Own W g1 27 #[.int .u32 a, .int .i64 hd, .int .u32 id, .slice A1 L1.length c1] := hSw.1.1; have s2 : Own W g2 29 #[.int .i64 k, .int .i64 cd, .int .i64 s, .slice D1 dn1 dc1, .int .i64 t] := hSw.1.2; have s3 : Own W g3 34 #[.int .u32 a, .int .i64 hd, .int .u32 id, .slice A2 L2.length c2] := hSw.2.1; have s4 : Own W g4 29 #[.int .i64 k, .int .i64 cd, .int .i64 s, .slice D2 dn2 dc2, .int .i64 t] := hSw.2.2; obtain ⟨e0, e1, e2, e3⟩ := own_end s3; go_simp; try with_reducible rfl)
    simp only [Act.put, List.getElem_toArray, List.getElem_cons_zero, List.getElem_cons_succ, List.setIfInBounds_toArray, List.set_cons_zero, List.set_cons_succ]
    refine wpAnyH_ready (rs := [8]) (by kernel_rfl) (by simp) ?_
    refine (AllReadyH.cons rfl (fun K hK => ?_) AllReadyH.nil)
    go_simp
    go_at_call 11
    refine (back17_any a hd id A1 L1.length c1 L1 _ (HCA.out.step hv12) (by have := HL1.out; omega)).mono ?_
    rintro e w5 ⟨A5, c5, rfl, hC5, hc13⟩
    have hd13 := bl_trans hd12 hc13
    have hv13 := bl_trans hv12 hc13
    have oA13 := oA12.step hc13
    have oB13 := oB12.step hc13
    have oC13 := oC12.step hc13
    have oD13 := oD12.step hc13
    clear oA12 oB12 oC12 oD12
    refine hK.out _ _ ⟨⟨oA13, oB13⟩, oC13, oD13⟩ (fun hHeld2 => ?_)
    clear hK K hHeld
    have hHeld := hHeld2
    clear hHeld2
    try simp only [Act.put, List.getElem_toArray, List.getElem_cons_zero, List.getElem_cons_succ, List.setIfInBounds_toArray, List.set_cons_zero, List.set_cons_succ]
    have hsm := Lib.hid (rsame17_any a hd id A5 L1.length c5 a hd id A2 L2.length c2 L1 L2 w5 hC5 (HCB.out.step hv13) (by have := HL1.out; omega) (by have := HLB.out; omega))
    rw [HKK.out] at hsm
    simp only [beq_self_eq_true, decide_true, Bool.and_self] at hsm
    refine wpAnyH_ready (rs := [10]) (by kernel_rfl) (by simp) ?_
    refine (AllReadyH.cons rfl (fun K hK => ?_) AllReadyH.nil)
    go_simp
    go_at_call 10
    refine (hsm.out).mono ?_
    rintro e w6 ⟨rfl, hc14⟩
    have hd14 := bl_trans hd13 hc14
    have hv14 := bl_trans hv13 hc14
    have oA14 := oA13.step hc14
    have oB14 := oB13.step hc14
    have oC14 := oC13.step hc14
    have oD14 := oD13.step hc14
    clear oA13 oB13 oC13 oD13
    refine hK.out _ _ ⟨⟨oA14, oB14⟩, oC14, oD14⟩ (fun hHeld2 => ?_)
    clear hK K hHeld
    have hHeld := hHeld2
    clear hHeld2
    try simp only [Act.put, List.getElem_toArray, List.getElem_cons_zero, List.getElem_cons_succ, List.setIfInBounds_toArray, List.set_cons_zero, List.set_cons_succ]
    refine wpAnyH_take (i := 11) (v := ?_) rfl (by kernel_rfl) (by kernel_rfl) (by kernel_rfl) (fun _ _ _ h => h) (Or.inl ⟨by rfl, ?_⟩) (by assumption) ?_
    rotate_left
    · (intro W hSw; skip; go_simp; try with_reducible rfl)
    simp only [Act.put, List.getElem_toArray, List.getElem_cons_zero, List.getElem_cons_succ, List.setIfInBounds_toArray, List.set_cons_zero, List.set_cons_succ]
    refine wpAnyH_take (i := 12) (v := ?_) rfl (by kernel_rfl) (by kernel_rfl) (by kernel_rfl) (fun _ _ _ h => h) (Or.inl ⟨by rfl, ?_⟩) (by assumption) ?_
    rotate_left
    · (intro W hSw; skip; go_simp; try with_reducible rfl)
    simp only [Act.put, List.getElem_toArray, List.getElem_cons_zero, List.getElem_cons_succ, List.setIfInBounds_toArray, List.set_cons_zero, List.set_cons_succ]
    refine wpAnyH_done (by kernel_rfl) ?_ _
    go_wp2
    go_ret
    exact ⟨rfl, hd14⟩
end Go.Proofs.Ytniheakafkakhaa

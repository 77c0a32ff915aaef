/- OpenSame: the walk -/
import Derived.Test.YtniheakafkakhaaOsA
namespace Go.Proofs.Ytniheakafkakhaa
open Go.RowKit Go.Sort
theorem oForm_le {p q r num : Int} {ss : List Cp} (h : oOk p q r ss = true) : (oFormK num q r (oPar ss)).length ≤ 1000 := by
  unfold oOk at h
  rw [Bool.and_eq_true, Bool.and_eq_true] at h
  have h2 : (cpsForm ss).length ≤ 253 := of_decide_eq_true h.2.1
  have hp : (oPar ss).length ≤ 255 := by
    unfold oPar
    split
    · simp
    · simp; omega
  unfold oFormK
  rw [List.length_append, List.length_append, List.length_append, List.length_append, List.length_append, digitsOf_len, digitsOf_len, digitsOf_len]
  simp
  omega
theorem few_sz {ss : List Cp} (h : fewCp ss = true) : ss.length ≤ 40 ∧ ∀ s ∈ ss, s.n ≤ 300 := by
  unfold fewCp at h
  rw [Bool.and_eq_true, decide_eq_true_iff, List.all_eq_true] at h
  exact ⟨h.2, fun s hs => of_decide_eq_true (h.1 s hs)⟩
set_option maxRecDepth 100000 in
set_option maxHeartbeats 12800000 in
theorem opsame_all (p q r : Int) (A : Option Addr) (n c : Nat) (p' q' r' : Int) (A' : Option Addr) (n' c' : Nat) (ss ts : List Cp) (w : World) (h : Caps w w.heap.size A n ss) (h' : Caps w w.heap.size A' n' ts) (hm : n ≤ maxLen) (hm' : n' ≤ maxLen) (hp : 0 ≤ p ∧ p < 4294967296) (hp' : 0 ≤ p' ∧ p' < 4294967296) (hr : 0 ≤ r ∧ r < 4294967296) (hr' : 0 ≤ r' ∧ r' < 4294967296) :
    Calls Try.prog 5 #[.agg #[.int .u32 p, .int .i64 q, .int .u32 r, .slice A n c], .agg #[.int .u32 p', .int .i64 q', .int .u32 r', .slice A' n' c']] w fun e w' => e = .returned (.bool true) ∧ Below w.heap.size w w' := by
  have HNa := Lib.hid h.1
  have HNb := Lib.hid h'.1
  have HLa : Hid (∀ s ∈ ss, s.n = s.xs.length) := Lib.hid (fun s hs => (h.2.1 s hs).1.1)
  have HLb : Hid (∀ s ∈ ts, s.n = s.xs.length) := Lib.hid (fun s hs => (h'.2.1 s hs).1.1)
  have Hp := Lib.hid hp
  have Hp' := Lib.hid hp'
  have Hr := Lib.hid hr
  have Hr' := Lib.hid hr'
  obtain ⟨X, hX, oA, oB, hbX, hXs⟩ := two_boxesN w #[.int .u32 p, .int .i64 q, .int .u32 r, .slice A n c] #[.int .u32 p', .int .i64 q', .int .u32 r', .slice A' n' c'] 34 34
  have HCa := Lib.hid (h.step hbX)
  have HCb := Lib.hid (h'.step hbX)
  have hFa := Lib.hid (few16_any A n c ss X HCa.out hm)
  have hFb := Lib.hid (few16_any A' n' c' ts X HCb.out hm')
  have hZa : Hid (fewCp ss = true → n ≤ 40 ∧ ∀ s ∈ ss, s.n ≤ 300) := Lib.hid fun hf => by rw [HNa.out]; exact few_sz hf
  have hZb : Hid (fewCp ts = true → n' ≤ 40 ∧ ∀ s ∈ ts, s.n ≤ 300) := Lib.hid fun hf => by rw [HNb.out]; exact few_sz hf
  generalize fewCp ss = fa at *
  generalize fewCp ts = fb at *
  obtain ⟨a0, a1, a2, a3⟩ := own_end oA
  obtain ⟨b0, b1, b2, b3⟩ := own_end oB
  clear h h' hm hm' hp hp' hr hr' hXs
  go_enter Try.func5, Try.ntmps5
  go_upto_region 1 with fail
  rw [← hX]
  clear hX
  go_wp2_with fail
  refine hFa.out.mono ?_
  rintro e w1 ⟨rfl, rfl⟩
  cases fa
  · go_wp2_with fail
    refine (alive17_any _).mono ?_
    rintro e w3 ⟨rfl, hb4⟩
    have hb5 := bl_trans hbX hb4
    go_wp2
    go_ret
    exact ⟨rfl, hb5⟩
  · go_wp2_with fail
    refine hFb.out.mono ?_
    rintro e w1 ⟨rfl, rfl⟩
    cases fb
    · go_wp2_with fail
      refine (alive17_any _).mono ?_
      rintro e w3 ⟨rfl, hb4⟩
      have hb5 := bl_trans hbX hb4
      go_wp2
      go_ret
      exact ⟨rfl, hb5⟩
    · obtain ⟨hna, hsa⟩ := hZa.out (by first | rfl | trivial)
      obtain ⟨hnb, hsb⟩ := hZb.out (by first | rfl | trivial)
      have HSa := Lib.hid hsa
      have HSb := Lib.hid hsb
      have HNa4 := Lib.hid hna
      have HNb4 := Lib.hid hnb
      have hSm := Lib.hid (rsame17_any p q r A n c p' q' r' A' n' c' ss ts X HCa.out HCb.out (by omega) (by omega))
      have hOs : Hid (∀ (W : World) (A1 : Option Addr) (c1 : Nat) (A3 : Option Addr) (c3 : Nat), Caps W W.heap.size A1 n ss → Caps W W.heap.size A3 n' ts → Calls Try.prog 13 #[.agg #[.int .u32 p, .int .i64 q, .int .u32 r, .slice A1 n c1], .agg #[.int .u32 p', .int .i64 q', .int .u32 r', .slice A3 n' c3]] W fun e w' => e = .returned (.bool (p == p' && (q == q' && (r == r' && decide (ss.map cpK = ts.map cpK))))) ∧ Below W.heap.size W w') := Lib.hid fun W A1 c1 A3 c3 g1 g3 => osame17_any p q r A1 n c1 p' q' r' A3 n' c3 ss ts W g1 g3 (by omega) (by omega)
      have hOa : Hid (∀ (W : World) (A1 : Option Addr) (c1 : Nat) (A3 : Option Addr) (c3 : Nat), Caps W W.heap.size A1 n ss → Caps W W.heap.size A3 n ss → Calls Try.prog 13 #[.agg #[.int .u32 p, .int .i64 q, .int .u32 r, .slice A1 n c1], .agg #[.int .u32 p, .int .i64 q, .int .u32 r, .slice A3 n c3]] W fun e w' => e = .returned (.bool true) ∧ Below W.heap.size W w') := Lib.hid fun W A1 c1 A3 c3 g1 g3 => by
        have := osame17_any p q r A1 n c1 p q r A3 n c3 ss ss W g1 g3 (by omega) (by omega)
        rwa [show (p == p && (q == q && (r == r && decide (ss.map cpK = ss.map cpK)))) = true by simp] at this
      have hBy : Hid (oOk p q r ss = true → oOk p' q' r' ts = true → decide (oFormK (oNum p) q r (oPar ss) = oFormK (oNum p') q' r' (oPar ts)) = (p == p' && (q == q' && (r == r' && decide (ss.map cpK = ts.map cpK))))) := Lib.hid fun g g' => oForm_same Hp.out.1 Hp'.out.1 Hr.out Hr'.out HLa.out HLb.out g g'
      have hLe : Hid (oOk p q r ss = true → (oFormK (oNum p) q r (oPar ss)).length ≤ 1000) := Lib.hid oForm_le
      have hLf : Hid (oOk p' q' r' ts = true → (oFormK (oNum p') q' r' (oPar ts)).length ≤ 1000) := Lib.hid oForm_le
      generalize (p == p' && (q == q' && (r == r' && decide (ss.map cpK = ts.map cpK)))) = sm at *
      clear hZa hZb hna hnb hsa hsb HLa HLb HNa HNb hFa hFb
      go_wp2_with fail
      refine hSm.out.mono ?_
      rintro e w2 ⟨rfl, hb2⟩
      have hb3 := bl_trans hbX hb2
      have oA2 := oA.step hb2
      have oB2 := oB.step hb2
      have HCa2 := Lib.hid (HCa.out.step hb2)
      have HCb2 := Lib.hid (HCb.out.step hb2)
      clear hSm oA oB hbX hb2 HCa HCb a0 a1 a2 a3 b0 b1 b2 b3
      go_upto_region 4 with fail
      refine wp_region_held_drew (S := (fun X => Own X w.heap.size 34 #[.int .u32 p, .int .i64 q, .int .u32 r, .slice A n c] ∧ Own X (w.heap.size + 1) 34 #[.int .u32 p', .int .i64 q', .int .u32 r', .slice A' n' c'])) (by kernel_rfl) ⟨oA2.drew, oB2.drew⟩ (fun hHeld => ?_)
      have hd10 := bl_drewN hb3 1
      have hv10 := bl_drewN (bl_refl w2) 1
      have oA10 := oA2.drew
      have oB10 := oB2.drew
      clear oA2 oB2 hb3
      refine wpAnyH_take (i := 0) (v := ?_) rfl (by kernel_rfl) (by kernel_rfl) (by kernel_rfl) (fun _ _ _ h => h) (Or.inl ⟨by rfl, ?_⟩) (by assumption) ?_
      rotate_left
      · (intro W hSw; have s0 : Own W w.heap.size 34 #[.int .u32 p, .int .i64 q, .int .u32 r, .slice A n c] := hSw.1; have s1 : Own W (w.heap.size + 1) 34 #[.int .u32 p', .int .i64 q', .int .u32 r', .slice A' n' c'] := hSw.2; obtain ⟨e0, e1, e2, e3⟩ := own_end s0; go_simp; try with_reducible rfl)
      simp only [Act.put, List.getElem_toArray, List.getElem_cons_zero, List.setIfInBounds_toArray, List.set_cons_zero, List.set_cons_succ]
      refine wpAnyH_take (i := 2) (v := ?_) rfl (by kernel_rfl) (by kernel_rfl) (by kernel_rfl) (fun _ _ _ h => h) (Or.inl ⟨by rfl, ?_⟩) (by assumption) ?_
      rotate_left
      · (intro W hSw; have s0 : Own W w.heap.size 34 #[.int .u32 p, .int .i64 q, .int .u32 r, .slice A n c] := hSw.1; have s1 : Own W (w.heap.size + 1) 34 #[.int .u32 p', .int .i64 q', .int .u32 r', .slice A' n' c'] := hSw.2; obtain ⟨e0, e1, e2, e3⟩ := own_end s1; go_simp; try with_reducible rfl)
      simp only [Act.put, List.getElem_toArray, List.getElem_cons_zero, List.getElem_cons_succ, List.setIfInBounds_toArray, List.set_cons_zero, List.set_cons_succ]
      refine wpAnyH_take (i := 5) (v := ?_) rfl (by kernel_rfl) (by kernel_rfl) (by kernel_rfl) (fun _ _ _ h => h) (Or.inl ⟨by rfl, ?_⟩) (by assumption) ?_
      rotate_left
      · (intro W hSw; skip; go_simp; try with_reducible rfl)
      simp only [Act.put, List.getElem_toArray, List.getElem_cons_zero, List.getElem_cons_succ, List.setIfInBounds_toArray, List.set_cons_zero, List.set_cons_succ]
      refine wpAnyH_ready (rs := [1]) (by kernel_rfl) (by simp) ?_
      refine (AllReadyH.cons rfl (fun K hK => ?_) AllReadyH.nil)
      go_simp
      go_at_call 15
      refine (given17_any p q r A n c ss _ (HCa2.out.step hv10) (by have := HNa4.out; omega)).mono ?_
      rintro e w3 ⟨A1, c1, rfl, hC1, hc11⟩
      have hd11 := bl_trans hd10 hc11
      have hv11 := bl_trans hv10 hc11
      have oA11 := oA10.step hc11
      have oB11 := oB10.step hc11
      clear oA10 oB10
      refine hK.out _ _ ⟨oA11, oB11⟩ (fun hHeld2 => ?_)
      clear hK K hHeld
      have hHeld := hHeld2
      clear hHeld2
      try simp only [Act.put, List.getElem_toArray, List.getElem_cons_zero, List.getElem_cons_succ, List.setIfInBounds_toArray, List.set_cons_zero, List.set_cons_succ]
      refine wpAnyH_ready (rs := [3]) (by kernel_rfl) (by simp) ?_
      refine (AllReadyH.cons rfl (fun K hK => ?_) AllReadyH.nil)
      go_simp
      go_at_call 15
      refine (given17_any p' q' r' A' n' c' ts _ (HCb2.out.step hv11) (by have := HNb4.out; omega)).mono ?_
      rintro e w4 ⟨A3, c3, rfl, hC3, hc12⟩
      have hd12 := bl_trans hd11 hc12
      have hv12 := bl_trans hv11 hc12
      have oA12 := oA11.step hc12
      have oB12 := oB11.step hc12
      clear oA11 oB11
      replace hC1 := hC1.step hc12
      refine hK.out _ _ ⟨oA12, oB12⟩ (fun hHeld2 => ?_)
      clear hK K hHeld
      have hHeld := hHeld2
      clear hHeld2
      try simp only [Act.put, List.getElem_toArray, List.getElem_cons_zero, List.getElem_cons_succ, List.setIfInBounds_toArray, List.set_cons_zero, List.set_cons_succ]
      refine wpAnyH_ready (rs := [4]) (by kernel_rfl) (by simp) ?_
      refine (AllReadyH.cons rfl (fun K hK => ?_) AllReadyH.nil)
      go_simp
      go_at_call 13
      refine (hOs.out _ _ _ _ _ hC1 hC3).mono ?_
      rintro e w5 ⟨rfl, hc13⟩
      have hd13 := bl_trans hd12 hc13
      have hv13 := bl_trans hv12 hc13
      have oA13 := oA12.step hc13
      have oB13 := oB12.step hc13
      clear oA12 oB12
      clear hC1 hC3
      refine hK.out _ _ ⟨oA13, oB13⟩ (fun hHeld2 => ?_)
      clear hK K hHeld
      have hHeld := hHeld2
      clear hHeld2
      try simp only [Act.put, List.getElem_toArray, List.getElem_cons_zero, List.getElem_cons_succ, List.setIfInBounds_toArray, List.set_cons_zero, List.set_cons_succ]
      rcases (show sm = true ∨ sm = false by cases sm <;> simp) with rfl | rfl
      · skip
        refine wpAnyH_take (i := 6) (v := ?_) rfl (by kernel_rfl) (by kernel_rfl) (by kernel_rfl) (fun _ _ _ h => h) (Or.inl ⟨by rfl, ?_⟩) (by assumption) ?_
        rotate_left
        · (intro W hSw; skip; go_simp; try with_reducible rfl)
        simp only [Act.put, List.getElem_toArray, List.getElem_cons_zero, List.getElem_cons_succ, List.setIfInBounds_toArray, List.set_cons_zero, List.set_cons_succ]
        refine wpAnyH_take (i := 7) (v := ?_) rfl (by kernel_rfl) (by kernel_rfl) (by kernel_rfl) (fun _ _ _ h => h) (Or.inl ⟨by rfl, ?_⟩) (by assumption) ?_
        rotate_left
        · (intro W hSw; skip; go_simp; try with_reducible rfl)
        simp only [Act.put, List.getElem_toArray, List.getElem_cons_zero, List.getElem_cons_succ, List.setIfInBounds_toArray, List.set_cons_zero, List.set_cons_succ]
        refine wpAnyH_take (i := 8) (v := ?_) rfl (by kernel_rfl) (by kernel_rfl) (by kernel_rfl) (fun _ _ _ h => h) (Or.inl ⟨by rfl, ?_⟩) (by assumption) ?_
        rotate_left
        · (intro W hSw; have s0 : Own W w.heap.size 34 #[.int .u32 p, .int .i64 q, .int .u32 r, .slice A n c] := hSw.1; have s1 : Own W (w.heap.size + 1) 34 #[.int .u32 p', .int .i64 q', .int .u32 r', .slice A' n' c'] := hSw.2; obtain ⟨e0, e1, e2, e3⟩ := own_end s0; go_simp; try with_reducible rfl)
        simp only [Act.put, List.getElem_toArray, List.getElem_cons_zero, List.getElem_cons_succ, List.setIfInBounds_toArray, List.set_cons_zero, List.set_cons_succ]
        refine wpAnyH_take (i := 10) (v := ?_) rfl (by kernel_rfl) (by kernel_rfl) (by kernel_rfl) (fun _ _ _ h => h) (Or.inl ⟨by rfl, ?_⟩) (by assumption) ?_
        rotate_left
        · (intro W hSw; have s0 : Own W w.heap.size 34 #[.int .u32 p, .int .i64 q, .int .u32 r, .slice A n c] := hSw.1; have s1 : Own W (w.heap.size + 1) 34 #[.int .u32 p', .int .i64 q', .int .u32 r', .slice A' n' c'] := hSw.2; obtain ⟨e0, e1, e2, e3⟩ := own_end s0; go_simp; try with_reducible rfl)
        simp only [Act.put, List.getElem_toArray, List.getElem_cons_zero, List.getElem_cons_succ, List.setIfInBounds_toArray, List.set_cons_zero, List.set_cons_succ]
        refine wpAnyH_ready (rs := [9]) (by kernel_rfl) (by simp) ?_
        refine (AllReadyH.cons rfl (fun K hK => ?_) AllReadyH.nil)
        go_simp
        go_at_call 15
        refine (given17_any p q r A n c ss _ (HCa2.out.step hv13) (by have := HNa4.out; omega)).mono ?_
        rintro e w6 ⟨A5, c5, rfl, hC5, hc14⟩
        have hd14 := bl_trans hd13 hc14
        have hv14 := bl_trans hv13 hc14
        have oA14 := oA13.step hc14
        have oB14 := oB13.step hc14
        clear oA13 oB13
        refine hK.out _ _ ⟨oA14, oB14⟩ (fun hHeld2 => ?_)
        clear hK K hHeld
        have hHeld := hHeld2
        clear hHeld2
        try simp only [Act.put, List.getElem_toArray, List.getElem_cons_zero, List.getElem_cons_succ, List.setIfInBounds_toArray, List.set_cons_zero, List.set_cons_succ]
        refine wpAnyH_ready (rs := [11]) (by kernel_rfl) (by simp) ?_
        refine (AllReadyH.cons rfl (fun K hK => ?_) AllReadyH.nil)
        go_simp
        go_at_call 15
        refine (given17_any p q r A n c ss _ (HCa2.out.step hv14) (by have := HNa4.out; omega)).mono ?_
        rintro e w7 ⟨A7, c7, rfl, hC7, hc15⟩
        have hd15 := bl_trans hd14 hc15
        have hv15 := bl_trans hv14 hc15
        have oA15 := oA14.step hc15
        have oB15 := oB14.step hc15
        clear oA14 oB14
        replace hC5 := hC5.step hc15
        refine hK.out _ _ ⟨oA15, oB15⟩ (fun hHeld2 => ?_)
        clear hK K hHeld
        have hHeld := hHeld2
        clear hHeld2
        try simp only [Act.put, List.getElem_toArray, List.getElem_cons_zero, List.getElem_cons_succ, List.setIfInBounds_toArray, List.set_cons_zero, List.set_cons_succ]
        refine wpAnyH_ready (rs := [12]) (by kernel_rfl) (by simp) ?_
        refine (AllReadyH.cons rfl (fun K hK => ?_) AllReadyH.nil)
        go_simp
        go_at_call 13
        refine (hOa.out _ _ _ _ _ hC5 hC7).mono ?_
        rintro e w8 ⟨rfl, hc16⟩
        have hd16 := bl_trans hd15 hc16
        have hv16 := bl_trans hv15 hc16
        have oA16 := oA15.step hc16
        have oB16 := oB15.step hc16
        clear oA15 oB15
        clear hC5 hC7
        refine hK.out _ _ ⟨oA16, oB16⟩ (fun hHeld2 => ?_)
        clear hK K hHeld
        have hHeld := hHeld2
        clear hHeld2
        try simp only [Act.put, List.getElem_toArray, List.getElem_cons_zero, List.getElem_cons_succ, List.setIfInBounds_toArray, List.set_cons_zero, List.set_cons_succ]
        refine wpAnyH_take (i := 13) (v := ?_) rfl (by kernel_rfl) (by kernel_rfl) (by kernel_rfl) (fun _ _ _ h => h) (Or.inl ⟨by rfl, ?_⟩) (by assumption) ?_
        rotate_left
        · (intro W hSw; skip; go_simp; try with_reducible rfl)
        simp only [Act.put, List.getElem_toArray, List.getElem_cons_zero, List.getElem_cons_succ, List.setIfInBounds_toArray, List.set_cons_zero, List.set_cons_succ]
        refine wpAnyH_take (i := 14) (v := ?_) rfl (by kernel_rfl) (by kernel_rfl) (by kernel_rfl) (fun _ _ _ h => h) (Or.inl ⟨by rfl, ?_⟩) (by assumption) ?_
        rotate_left
        · (intro W hSw; skip; go_simp; try with_reducible rfl)
        simp only [Act.put, List.getElem_toArray, List.getElem_cons_zero, List.getElem_cons_succ, List.setIfInBounds_toArray, List.set_cons_zero, List.set_cons_succ]
        refine wpAnyH_done (by kernel_rfl) ?_ _
        obtain ⟨a0, a1, a2, a3⟩ := own_end oA16
        have hcd := Lib.hid (HCa2.out.step hv16)
        have hce := Lib.hid (HCb2.out.step hv16)
        clear hd10 hd11 hd12 hd13 hd14 hd15 hv10 hv11 hv12 hv13 hv14 hv15 hc11 hc12 hc13 hc14 hc15 hc16
        go_wp2_with fail
        refine (given17_any p q r A n c ss w8 hcd.out (by have := HNa4.out; omega)).mono ?_
        rintro e w9 ⟨A9, c9, rfl, hC9, hc17⟩
        have oA17 := oA16.step hc17
        have oB17 := oB16.step hc17
        have hd17 := bl_trans hd16 hc17
        have hcf := Lib.hid (hce.out.step hc17)
        clear oA16 oB16 a0 a1 a2 a3 hce
        go_wp2_with fail
        refine (obytes_any p q r A9 n c9 ss w9 hC9 (by have := HNa4.out; omega) (fun s hs => Nat.le_trans (HSa.out s hs) (by omega)) Hp.out Hr.out).mono ?_
        rintro e w10 ⟨A10, n10, c10, rfl, hx10, hc18⟩
        have oB18 := oB17.step hc18
        have hd18 := bl_trans hd17 hc18
        have hcg := Lib.hid (hcf.out.step hc18)
        clear oA17 oB17 hC9 hc17 hcf
        obtain ⟨b0, b1, b2, b3⟩ := own_end oB18
        have HX10 := Lib.hid hx10
        clear hx10 hc18
        go_wp2_with fail
        refine (given17_any p' q' r' A' n' c' ts w10 hcg.out (by have := HNb4.out; omega)).mono ?_
        rintro e w11 ⟨A11, c11, rfl, hC11, hc19⟩
        have hd19 := bl_trans hd18 hc19
        have HX11 := Lib.hid (HX10.out.stp hc19)
        clear oB18 b0 b1 b2 b3 HX10 hcg
        go_wp2_with fail
        refine (obytes_any p' q' r' A11 n' c11 ts w11 hC11 (by have := HNb4.out; omega) (fun s hs => Nat.le_trans (HSb.out s hs) (by omega)) Hp'.out Hr'.out).mono ?_
        rintro e w12 ⟨A12, n12, c12, rfl, hx12, hc20⟩
        have hd20 := bl_trans hd19 hc20
        have HX12 := Lib.hid (HX11.out.stp hc20)
        have HY12 := Lib.hid hx12
        clear HX11 hx12 hC11 hc19 hc20
        generalize oOk p q r ss = oa at *
        generalize oOk p' q' r' ts = ob at *
        go_wp2_with fail
        refine (alive17_any w12).mono ?_
        rintro e w13 ⟨rfl, hc21⟩
        have hd21 := bl_trans hd20 hc21
        cases oa
        · go_wp2
          go_ret
          exact ⟨rfl, hd21⟩
        · cases ob
          · go_wp2
            go_ret
            exact ⟨rfl, hd21⟩
          · have hxx := HX12.out.stp hc21
            have hyy := HY12.out.stp hc21
            rw [if_pos rfl] at hxx hyy
            have hlx : n10 ≤ 1000 := by rw [hxx.1]; exact hLe.out (by first | rfl | trivial)
            have hly : n12 ≤ 1000 := by rw [hyy.1]; exact hLf.out (by first | rfl | trivial)
            have hEq := Lib.hid (bytesEq_any A10 A12 n10 n12 c10 c12 _ _ w13 _ _ hxx hyy (by omega) (by omega))
            rw [hBy.out (by first | rfl | trivial) (by first | rfl | trivial)] at hEq
            clear hxx hyy HX12 HY12 hBy
            go_wp2_with fail
            refine hEq.out.mono ?_
            rintro e w14 ⟨rfl, mm, rfl⟩
            have hd22 := bl_drewN hd21 mm
            go_wp2
            go_ret
            exact ⟨by first | rfl | simp, hd22⟩
      · skip
        refine wpAnyH_take (i := 6) (v := ?_) rfl (by kernel_rfl) (by kernel_rfl) (by kernel_rfl) (fun _ _ _ h => h) (Or.inl ⟨by rfl, ?_⟩) (by assumption) ?_
        rotate_left
        · (intro W hSw; skip; go_simp; try with_reducible rfl)
        simp only [Act.put, List.getElem_toArray, List.getElem_cons_zero, List.getElem_cons_succ, List.setIfInBounds_toArray, List.set_cons_zero, List.set_cons_succ]
        refine wpAnyH_take (i := 7) (v := ?_) rfl (by kernel_rfl) (by kernel_rfl) (by kernel_rfl) (fun _ _ _ h => h) (Or.inl ⟨by rfl, ?_⟩) (by assumption) ?_
        rotate_left
        · (intro W hSw; skip; go_simp; try with_reducible rfl)
        simp only [Act.put, List.getElem_toArray, List.getElem_cons_zero, List.getElem_cons_succ, List.setIfInBounds_toArray, List.set_cons_zero, List.set_cons_succ]
        refine wpAnyH_take (i := 8) (v := ?_) rfl (by kernel_rfl) (by kernel_rfl) (by kernel_rfl) (fun _ _ _ h => h) (Or.inl ⟨by rfl, ?_⟩) (by assumption) ?_
        rotate_left
        · (intro W hSw; have s0 : Own W w.heap.size 34 #[.int .u32 p, .int .i64 q, .int .u32 r, .slice A n c] := hSw.1; have s1 : Own W (w.heap.size + 1) 34 #[.int .u32 p', .int .i64 q', .int .u32 r', .slice A' n' c'] := hSw.2; obtain ⟨e0, e1, e2, e3⟩ := own_end s0; go_simp; try with_reducible rfl)
        simp only [Act.put, List.getElem_toArray, List.getElem_cons_zero, List.getElem_cons_succ, List.setIfInBounds_toArray, List.set_cons_zero, List.set_cons_succ]
        refine wpAnyH_take (i := 10) (v := ?_) rfl (by kernel_rfl) (by kernel_rfl) (by kernel_rfl) (fun _ _ _ h => h) (Or.inl ⟨by rfl, ?_⟩) (by assumption) ?_
        rotate_left
        · (intro W hSw; have s0 : Own W w.heap.size 34 #[.int .u32 p, .int .i64 q, .int .u32 r, .slice A n c] := hSw.1; have s1 : Own W (w.heap.size + 1) 34 #[.int .u32 p', .int .i64 q', .int .u32 r', .slice A' n' c'] := hSw.2; obtain ⟨e0, e1, e2, e3⟩ := own_end s0; go_simp; try with_reducible rfl)
        simp only [Act.put, List.getElem_toArray, List.getElem_cons_zero, List.getElem_cons_succ, List.setIfInBounds_toArray, List.set_cons_zero, List.set_cons_succ]
        refine wpAnyH_ready (rs := [9]) (by kernel_rfl) (by simp) ?_
        refine (AllReadyH.cons rfl (fun K hK => ?_) AllReadyH.nil)
        go_simp
        go_at_call 15
        refine (given17_any p q r A n c ss _ (HCa2.out.step hv13) (by have := HNa4.out; omega)).mono ?_
        rintro e w6 ⟨A5, c5, rfl, hC5, hc14⟩
        have hd14 := bl_trans hd13 hc14
        have hv14 := bl_trans hv13 hc14
        have oA14 := oA13.step hc14
        have oB14 := oB13.step hc14
        clear oA13 oB13
        refine hK.out _ _ ⟨oA14, oB14⟩ (fun hHeld2 => ?_)
        clear hK K hHeld
        have hHeld := hHeld2
        clear hHeld2
        try simp only [Act.put, List.getElem_toArray, List.getElem_cons_zero, List.getElem_cons_succ, List.setIfInBounds_toArray, List.set_cons_zero, List.set_cons_succ]
        refine wpAnyH_ready (rs := [11]) (by kernel_rfl) (by simp) ?_
        refine (AllReadyH.cons rfl (fun K hK => ?_) AllReadyH.nil)
        go_simp
        go_at_call 15
        refine (given17_any p q r A n c ss _ (HCa2.out.step hv14) (by have := HNa4.out; omega)).mono ?_
        rintro e w7 ⟨A7, c7, rfl, hC7, hc15⟩
        have hd15 := bl_trans hd14 hc15
        have hv15 := bl_trans hv14 hc15
        have oA15 := oA14.step hc15
        have oB15 := oB14.step hc15
        clear oA14 oB14
        replace hC5 := hC5.step hc15
        refine hK.out _ _ ⟨oA15, oB15⟩ (fun hHeld2 => ?_)
        clear hK K hHeld
        have hHeld := hHeld2
        clear hHeld2
        try simp only [Act.put, List.getElem_toArray, List.getElem_cons_zero, List.getElem_cons_succ, List.setIfInBounds_toArray, List.set_cons_zero, List.set_cons_succ]
        refine wpAnyH_ready (rs := [12]) (by kernel_rfl) (by simp) ?_
        refine (AllReadyH.cons rfl (fun K hK => ?_) AllReadyH.nil)
        go_simp
        go_at_call 13
        refine (hOa.out _ _ _ _ _ hC5 hC7).mono ?_
        rintro e w8 ⟨rfl, hc16⟩
        have hd16 := bl_trans hd15 hc16
        have hv16 := bl_trans hv15 hc16
        have oA16 := oA15.step hc16
        have oB16 := oB15.step hc16
        clear oA15 oB15
        clear hC5 hC7
        refine hK.out _ _ ⟨oA16, oB16⟩ (fun hHeld2 => ?_)
        clear hK K hHeld
        have hHeld := hHeld2
        clear hHeld2
        try simp only [Act.put, List.getElem_toArray, List.getElem_cons_zero, List.getElem_cons_succ, List.setIfInBounds_toArray, List.set_cons_zero, List.set_cons_succ]
        refine wpAnyH_take (i := 13) (v := ?_) rfl (by kernel_rfl) (by kernel_rfl) (by kernel_rfl) (fun _ _ _ h => h) (Or.inl ⟨by rfl, ?_⟩) (by assumption) ?_
        rotate_left
        · (intro W hSw; skip; go_simp; try with_reducible rfl)
        simp only [Act.put, List.getElem_toArray, List.getElem_cons_zero, List.getElem_cons_succ, List.setIfInBounds_toArray, List.set_cons_zero, List.set_cons_succ]
        refine wpAnyH_take (i := 14) (v := ?_) rfl (by kernel_rfl) (by kernel_rfl) (by kernel_rfl) (fun _ _ _ h => h) (Or.inl ⟨by rfl, ?_⟩) (by assumption) ?_
        rotate_left
        · (intro W hSw; skip; go_simp; try with_reducible rfl)
        simp only [Act.put, List.getElem_toArray, List.getElem_cons_zero, List.getElem_cons_succ, List.setIfInBounds_toArray, List.set_cons_zero, List.set_cons_succ]
        refine wpAnyH_done (by kernel_rfl) ?_ _
        obtain ⟨a0, a1, a2, a3⟩ := own_end oA16
        have hcd := Lib.hid (HCa2.out.step hv16)
        have hce := Lib.hid (HCb2.out.step hv16)
        clear hd10 hd11 hd12 hd13 hd14 hd15 hv10 hv11 hv12 hv13 hv14 hv15 hc11 hc12 hc13 hc14 hc15 hc16
        go_wp2_with fail
        refine (given17_any p q r A n c ss w8 hcd.out (by have := HNa4.out; omega)).mono ?_
        rintro e w9 ⟨A9, c9, rfl, hC9, hc17⟩
        have oA17 := oA16.step hc17
        have oB17 := oB16.step hc17
        have hd17 := bl_trans hd16 hc17
        have hcf := Lib.hid (hce.out.step hc17)
        clear oA16 oB16 a0 a1 a2 a3 hce
        go_wp2_with fail
        refine (obytes_any p q r A9 n c9 ss w9 hC9 (by have := HNa4.out; omega) (fun s hs => Nat.le_trans (HSa.out s hs) (by omega)) Hp.out Hr.out).mono ?_
        rintro e w10 ⟨A10, n10, c10, rfl, hx10, hc18⟩
        have oB18 := oB17.step hc18
        have hd18 := bl_trans hd17 hc18
        have hcg := Lib.hid (hcf.out.step hc18)
        clear oA17 oB17 hC9 hc17 hcf
        obtain ⟨b0, b1, b2, b3⟩ := own_end oB18
        have HX10 := Lib.hid hx10
        clear hx10 hc18
        go_wp2_with fail
        refine (given17_any p' q' r' A' n' c' ts w10 hcg.out (by have := HNb4.out; omega)).mono ?_
        rintro e w11 ⟨A11, c11, rfl, hC11, hc19⟩
        have hd19 := bl_trans hd18 hc19
        have HX11 := Lib.hid (HX10.out.stp hc19)
        clear oB18 b0 b1 b2 b3 HX10 hcg
        go_wp2_with fail
        refine (obytes_any p' q' r' A11 n' c11 ts w11 hC11 (by have := HNb4.out; omega) (fun s hs => Nat.le_trans (HSb.out s hs) (by omega)) Hp'.out Hr'.out).mono ?_
        rintro e w12 ⟨A12, n12, c12, rfl, hx12, hc20⟩
        have hd20 := bl_trans hd19 hc20
        have HX12 := Lib.hid (HX11.out.stp hc20)
        have HY12 := Lib.hid hx12
        clear HX11 hx12 hC11 hc19 hc20
        generalize oOk p q r ss = oa at *
        generalize oOk p' q' r' ts = ob at *
        go_wp2_with fail
        refine (alive17_any w12).mono ?_
        rintro e w13 ⟨rfl, hc21⟩
        have hd21 := bl_trans hd20 hc21
        cases oa
        · go_wp2
          go_ret
          exact ⟨rfl, hd21⟩
        · cases ob
          · go_wp2
            go_ret
            exact ⟨rfl, hd21⟩
          · have hxx := HX12.out.stp hc21
            have hyy := HY12.out.stp hc21
            rw [if_pos rfl] at hxx hyy
            have hlx : n10 ≤ 1000 := by rw [hxx.1]; exact hLe.out (by first | rfl | trivial)
            have hly : n12 ≤ 1000 := by rw [hyy.1]; exact hLf.out (by first | rfl | trivial)
            have hEq := Lib.hid (bytesEq_any A10 A12 n10 n12 c10 c12 _ _ w13 _ _ hxx hyy (by omega) (by omega))
            rw [hBy.out (by first | rfl | trivial) (by first | rfl | trivial)] at hEq
            clear hxx hyy HX12 HY12 hBy
            go_wp2_with fail
            refine hEq.out.mono ?_
            rintro e w14 ⟨rfl, mm, rfl⟩
            have hd22 := bl_drewN hd21 mm
            go_wp2
            go_ret
            exact ⟨by first | rfl | simp, hd22⟩
end Go.Proofs.Ytniheakafkakhaa

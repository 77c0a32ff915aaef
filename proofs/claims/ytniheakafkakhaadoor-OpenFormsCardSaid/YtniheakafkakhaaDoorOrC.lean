/- OpenForms: the walk -/
import Derived.Test.YtniheakafkakhaaDoorOrM
namespace Go.Proofs.YtniheakafkakhaaDoor
open Go.RowKit Go.Sort
theorem few_szF {ss : List Cp} (h : fewCp ss = true) : ss.length ≤ 40 ∧ ∀ s ∈ ss, s.n ≤ 300 := by
  unfold fewCp at h
  rw [Bool.and_eq_true, decide_eq_true_iff, List.all_eq_true] at h
  exact ⟨h.2, fun s hs => of_decide_eq_true (h.1 s hs)⟩
theorem oForm_leF {p q r num : Int} {ss : List Cp} (h : oOk p q r ss = true) : (oFormK num q r (oPar ss)).length ≤ 600 := by
  unfold oOk at h
  rw [Bool.and_eq_true, Bool.and_eq_true] at h
  have h2 : (cpsForm ss).length ≤ 253 := of_decide_eq_true h.2.1
  rw [oForm_len]
  unfold oPar
  split
  · simp
  · simp only [List.length_cons]; omega
set_option maxRecDepth 100000 in
set_option maxHeartbeats 12800000 in
theorem opforms_all (p q r : Int) (A : Option Addr) (n c : Nat) (ss : List Cp) (w : World) (h : Caps w w.heap.size A n ss) (hm : n ≤ maxLen) (hp0 : 0 ≤ p ∧ p < 4294967296) (hr0 : 0 ≤ r ∧ r < 4294967296) (ht : Tens w) :
    Calls Tryd.prog 4 #[.agg #[.int .u32 p, .int .i64 q, .int .u32 r, .slice A n c]] w fun e w' => e = .returned (.bool true) ∧ Below w.heap.size w w' := by
  have hb0 := bl_alloc (bl_refl w) (.cells #[.int .u32 p, .int .i64 q, .int .u32 r, .slice A n c] 41)
  have o0 := Own.new w 41 #[.int .u32 p, .int .i64 q, .int .u32 r, .slice A n c]
  have hF := Lib.hid (few16_any A n c ss _ (h.step hb0) hm)
  have HC0 := Lib.hid (h.step hb0)
  have HT0 := Lib.hid (ht.below hb0)
  have HNN := Lib.hid h.1
  have HBY : Hid (∀ s ∈ ss, s.n = s.xs.length ∧ byteC s.xs) := Lib.hid (fun s hs => ⟨(h.2.1 s hs).1.1, (h.2.1 s hs).1.2.1⟩)
  have hZ : Hid (fewCp ss = true → n ≤ 40 ∧ ∀ s ∈ ss, s.n ≤ 300) := Lib.hid fun hf => by rw [HNN.out]; exact few_szF hf
  have HPR := Lib.hid (And.intro hp0 hr0)
  obtain ⟨e0, e1, e2, e3⟩ := own_end o0
  generalize fewCp ss = fa at *
  clear h hm ht hp0 hr0
  go_enter Tryd.func4, Tryd.ntmps4
  go_wp2_with fail
  refine hF.out.mono ?_
  rintro e w1 ⟨rfl, rfl⟩
  cases fa
  · go_wp2_with fail
    refine (alive17_any _).mono ?_
    rintro e w3 ⟨rfl, hb4⟩
    have hb5 := bl_trans hb0 hb4
    go_wp2
    go_ret
    exact ⟨rfl, hb5⟩
  · obtain ⟨hn4, hsz⟩ := hZ.out (by first | rfl | trivial)
    have hs1 : ∀ s ∈ ss, s.n ≤ 1000 := fun s hs => Nat.le_trans (hsz s hs) (by omega)
    have HGv : Hid (∀ W, Below (w.alloc (.cells #[.int .u32 p, .int .i64 q, .int .u32 r, .slice A n c] 41)).heap.size (w.alloc (.cells #[.int .u32 p, .int .i64 q, .int .u32 r, .slice A n c] 41)) W → Calls Tryd.prog 25 #[.agg #[.int .u32 p, .int .i64 q, .int .u32 r, .slice A n c]] W fun e w' => ∃ A' c', e = .returned (.agg #[.int .u32 p, .int .i64 q, .int .u32 r, .slice A' n c']) ∧ Caps w' w'.heap.size A' n ss ∧ Below W.heap.size W w') := Lib.hid (fun W hb => given17_any p q r A n c ss W (HC0.out.step hb) (by omega))
    have HOb : Hid (∀ W A' c', Caps W W.heap.size A' n ss → Calls Tryd.prog 24 #[.agg #[.int .u32 p, .int .i64 q, .int .u32 r, .slice A' n c']] W fun e w' => OBytesR p q r ss W e w') := Lib.hid (fun W A' c' hc => obytes_any p q r A' n c' ss W hc (by omega) hs1 HPR.out.1 HPR.out.2)
    have HOv : Hid (∀ W A' c', Caps W W.heap.size A' n ss → Calls Tryd.prog 27 #[.agg #[.int .u32 p, .int .i64 q, .int .u32 r, .slice A' n c']] W fun e w' => e = .returned (.bool (oOk p q r ss)) ∧ Below W.heap.size W w') := Lib.hid (fun W A' c' hc => ovalid17_any p q r A' n c' ss W hc (by omega) hs1 HPR.out.1 HPR.out.2)
    have HOt : Hid (∀ W A' c', Tens W → Caps W W.heap.size A' n ss → Calls Tryd.prog 29 #[.agg #[.int .u32 p, .int .i64 q, .int .u32 r, .slice A' n c']] W fun e w' => e = .returned (.string (if oOk p q r ss = true then oTx p q r else ⟨#[]⟩)) ∧ Below W.heap.size W w') := Lib.hid (fun W A' c' ht hc => otext17_any p q r A' n c' ss W hc (by omega) hs1 HPR.out.1 HPR.out.2 ht)
    have HRb : Hid (∀ W, Below (w.alloc (.cells #[.int .u32 p, .int .i64 q, .int .u32 r, .slice A n c] 41)).heap.size (w.alloc (.cells #[.int .u32 p, .int .i64 q, .int .u32 r, .slice A n c] 41)) W → Calls Tryd.prog 26 #[.agg #[.int .u32 p, .int .i64 q, .int .u32 r, .slice A n c]] W fun e w' => OBytesR p q r ss W e w') := Lib.hid (fun W hb => rbytes17_any p q r A n c ss W (HC0.out.step hb) (by omega) hs1 HPR.out.1 HPR.out.2)
    have HRt : Hid (∀ W, Below (w.alloc (.cells #[.int .u32 p, .int .i64 q, .int .u32 r, .slice A n c] 41)).heap.size (w.alloc (.cells #[.int .u32 p, .int .i64 q, .int .u32 r, .slice A n c] 41)) W → Calls Tryd.prog 30 #[.agg #[.int .u32 p, .int .i64 q, .int .u32 r, .slice A n c]] W fun e w' => e = .returned (.string (if oOk p q r ss = true then oTx p q r else ⟨#[]⟩)) ∧ Below W.heap.size W w') := Lib.hid (fun W hb => rotext_any p q r A n c ss W (HC0.out.step hb) (by omega) hs1 HPR.out.1 HPR.out.2 (HT0.out.below hb))
    have HPa : Hid (oOk p q r ss = true → (oFormK (oNum p) q r (oPar ss)).length ≤ 600 ∧ ∀ (W : World) (A' : Option Addr) (n' c' : Nat), Bytes W W.heap.size A' n' (oFormK (oNum p) q r (oPar ss)) → Calls Tryd.prog 31 #[.slice A' n' c'] W fun e w' => PRes p q r (ss.map cpK) 0 0 0 0 [] W e w') := Lib.hid (fun hok => ⟨oForm_leF hok, fun W A' n' c' hb => by
      have hpf := oParse_form (a := p) (hd := q) (id := r) (fun s hs => (HBY.out s hs).1) (good_oOk (fun s hs => (HBY.out s hs).1) (fun s hs => (HBY.out s hs).2) HPR.out.1 HPR.out.2 hok)
      exact (oparse_any A' n' c' _ W hb (by have := oForm_leF (num := oNum p) hok; omega)).mono (fun e w' h => h.res (by rw [hpf]; rfl) hb.2.1)⟩)
    unfold OBytesR at HOb HRb
    generalize oFormK (oNum p) q r (oPar ss) = F at *
    obtain ⟨okb, hokb⟩ : ∃ z, oOk p q r ss = z := ⟨_, rfl⟩
    rw [hokb] at HOb HRb HOv HOt HRt HPa
    clear hokb hZ hF HNN HBY hsz hs1
    obtain ⟨Z, hZZ⟩ : ∃ z, (if okb = true then oTx p q r else ⟨#[]⟩) = z := ⟨_, rfl⟩
    rw [hZZ] at HOt HRt
    clear hZZ
    obtain ⟨G, hGG⟩ : ∃ z, (if okb = true then F else []) = z := ⟨_, rfl⟩
    rw [hGG] at HOb HRb
    have HG := Lib.hid hGG
    have hGl : Hid (G.length ≤ 600) := Lib.hid (by rw [← hGG]; cases okb with | true => exact (HPa.out rfl).1 | false => simp)
    clear hGG
    generalize hXe : w.alloc (.cells #[.int .u32 p, .int .i64 q, .int .u32 r, .slice A n c] 41) = X at *
    clear hXe
    have hbX : Below X.heap.size X X := bl_refl X
    go_wp2_with fail
    refine (HGv.out _ hbX).mono ?_
    rintro e w1 ⟨A1, c1, rfl, hC1, hb1⟩
    have hv1 := bl_trans hbX hb1
    have o1 := o0.step hb1
    clear e0 e1 e2 e3 o0 hbX hb1
    go_wp2_with fail
    refine (HOb.out _ A1 c1 hC1).mono ?_
    rintro e w2 ⟨A2, n2, c2, rfl, hB2, hb2⟩
    have hv2 := bl_trans hv1 hb2
    have o2 := o1.step hb2
    have HB2 := Lib.hid hB2
    clear o1 hv1 hb2 hC1 hB2 HOb
    obtain ⟨e0, e1, e2, e3⟩ := own_end o2
    go_wp2_with fail
    refine (HRb.out _ hv2).mono ?_
    rintro e w3 ⟨A3, n3, c3, rfl, hB3, hb3⟩
    have hv3 := bl_trans hv2 hb3
    have hd3 := bl_trans hb0 hv3
    have o3 := o2.step hb3
    have HB3 := Lib.hid (HB2.out.stp hb3)
    have HB4 := Lib.hid hB3
    clear o2 hv2 hb3 hB3 HRb HB2 e0 e1 e2 e3 hb0
    have HEq : Hid (∀ W, Below w3.heap.size w3 W → Calls Tryd.prog 28 #[.slice A2 n2 c2, .slice A3 n3 c3] W fun e w' => e = .returned (.bool true) ∧ Below W.heap.size W w') := Lib.hid (fun W hb => (bytesEq_any A2 A3 n2 n3 c2 c3 G G W _ _ (HB3.out.stp hb) (HB4.out.stp hb) (by have := HB3.out.1; have := hGl.out; omega) (by have := HB4.out.1; have := hGl.out; omega)).mono (fun e w' h => by
      obtain ⟨rfl, mm, rfl⟩ := h
      exact ⟨by simp, bl_drewN (bl_refl W) mm⟩))
    cases okb
    · go_upto_region 5 with fail
      refine wp_region_held_drew (S := (fun X => Own X w.heap.size 41 #[.int .u32 p, .int .i64 q, .int .u32 r, .slice A n c])) (by kernel_rfl) o3.drew (fun hHeld => ?_)
      have hd10 := bl_drewN hd3 1
      have hv10 := bl_drewN hv3 1
      have hu10 := bl_drewN (bl_refl w3) 1
      have oA10 := o3.drew
      clear o3 hd3 hv3
      refine wpAnyH_take (i := 0) (v := ?_) rfl (by kernel_rfl) (by kernel_rfl) (by kernel_rfl) (fun _ _ _ h => h) (Or.inl ⟨by rfl, ?_⟩) (by assumption) ?_
      rotate_left
      · (intro W hSw; obtain ⟨e0, e1, e2, e3⟩ := own_end hSw; go_simp; try with_reducible rfl)
      simp only [Act.put, List.getElem_toArray, List.getElem_cons_zero, List.setIfInBounds_toArray, List.set_cons_zero, List.set_cons_succ]
      refine wpAnyH_take (i := 3) (v := ?_) rfl (by kernel_rfl) (by kernel_rfl) (by kernel_rfl) (fun _ _ _ h => h) (Or.inl ⟨by rfl, ?_⟩) (by assumption) ?_
      rotate_left
      · (intro W hSw; obtain ⟨e0, e1, e2, e3⟩ := own_end hSw; go_simp; try with_reducible rfl)
      simp only [Act.put, List.getElem_toArray, List.getElem_cons_zero, List.getElem_cons_succ, List.setIfInBounds_toArray, List.set_cons_zero, List.set_cons_succ]
      refine wpAnyH_ready (rs := [1]) (by kernel_rfl) (by simp) ?_
      refine (AllReadyH.cons rfl (fun K hK => ?_) AllReadyH.nil)
      go_simp
      go_at_call 25
      refine (HGv.out _ hv10).mono ?_
      rintro e w4 ⟨A5, c5, rfl, hC5, hc11⟩
      have hd11 := bl_trans hd10 hc11
      have hv11 := bl_trans hv10 hc11
      have hu11 := bl_trans hu10 hc11
      have oA11 := oA10.step hc11
      clear oA10
      refine hK.out _ _ oA11 (fun hHeld2 => ?_)
      clear hK K hHeld
      have hHeld := hHeld2
      clear hHeld2
      try simp only [Act.put, List.getElem_toArray, List.getElem_cons_zero, List.getElem_cons_succ, List.setIfInBounds_toArray, List.set_cons_zero, List.set_cons_succ]
      refine wpAnyH_ready (rs := [2]) (by kernel_rfl) (by simp) ?_
      refine (AllReadyH.cons rfl (fun K hK => ?_) AllReadyH.nil)
      go_simp
      go_at_call 27
      refine (HOv.out _ A5 c5 hC5).mono ?_
      rintro e w5 ⟨rfl, hc12⟩
      have hd12 := bl_trans hd11 hc12
      have hv12 := bl_trans hv11 hc12
      have hu12 := bl_trans hu11 hc12
      have oA12 := oA11.step hc12
      clear oA11
      clear hC5
      refine hK.out _ _ oA12 (fun hHeld2 => ?_)
      clear hK K hHeld
      have hHeld := hHeld2
      clear hHeld2
      try simp only [Act.put, List.getElem_toArray, List.getElem_cons_zero, List.getElem_cons_succ, List.setIfInBounds_toArray, List.set_cons_zero, List.set_cons_succ]
      refine wpAnyH_take (i := 4) (v := ?_) rfl (by kernel_rfl) (by kernel_rfl) (by kernel_rfl) (fun _ _ _ h => h) (Or.inl ⟨by rfl, ?_⟩) (by assumption) ?_
      rotate_left
      · (intro W hSw; skip; go_simp; try with_reducible rfl)
      simp only [Act.put, List.getElem_toArray, List.getElem_cons_zero, List.getElem_cons_succ, List.setIfInBounds_toArray, List.set_cons_zero, List.set_cons_succ]
      refine wpAnyH_take (i := 5) (v := ?_) rfl (by kernel_rfl) (by kernel_rfl) (by kernel_rfl) (fun _ _ _ h => h) (Or.inl ⟨by rfl, ?_⟩) (by assumption) ?_
      rotate_left
      · (intro W hSw; skip; go_simp; try with_reducible rfl)
      simp only [Act.put, List.getElem_toArray, List.getElem_cons_zero, List.getElem_cons_succ, List.setIfInBounds_toArray, List.set_cons_zero, List.set_cons_succ]
      refine wpAnyH_take (i := 6) (v := ?_) rfl (by kernel_rfl) (by kernel_rfl) (by kernel_rfl) (fun _ _ _ h => h) (Or.inl ⟨by rfl, ?_⟩) (by assumption) ?_
      rotate_left
      · (intro W hSw; skip; go_simp; try with_reducible rfl)
      simp only [Act.put, List.getElem_toArray, List.getElem_cons_zero, List.getElem_cons_succ, List.setIfInBounds_toArray, List.set_cons_zero, List.set_cons_succ]
      refine wpAnyH_take (i := 7) (v := ?_) rfl (by kernel_rfl) (by kernel_rfl) (by kernel_rfl) (fun _ _ _ h => h) (Or.inl ⟨by rfl, ?_⟩) (by assumption) ?_
      rotate_left
      · (intro W hSw; skip; go_simp; try with_reducible rfl)
      simp only [Act.put, List.getElem_toArray, List.getElem_cons_zero, List.getElem_cons_succ, List.setIfInBounds_toArray, List.set_cons_zero, List.set_cons_succ]
      refine wpAnyH_ready (rs := [8]) (by kernel_rfl) (by simp) ?_
      refine (AllReadyH.cons rfl (fun K hK => ?_) AllReadyH.nil)
      go_simp
      go_at_call 28
      refine (HEq.out _ hu12).mono ?_
      rintro e w6 ⟨rfl, hc13⟩
      have hd13 := bl_trans hd12 hc13
      have hv13 := bl_trans hv12 hc13
      have hu13 := bl_trans hu12 hc13
      have oA13 := oA12.step hc13
      clear oA12
      refine hK.out _ _ oA13 (fun hHeld2 => ?_)
      clear hK K hHeld
      have hHeld := hHeld2
      clear hHeld2
      try simp only [Act.put, List.getElem_toArray, List.getElem_cons_zero, List.getElem_cons_succ, List.setIfInBounds_toArray, List.set_cons_zero, List.set_cons_succ]
      refine wpAnyH_take (i := 9) (v := ?_) rfl (by kernel_rfl) (by kernel_rfl) (by kernel_rfl) (fun _ _ _ h => h) (Or.inl ⟨by rfl, ?_⟩) (by assumption) ?_
      rotate_left
      · (intro W hSw; skip; go_simp; try with_reducible rfl)
      simp only [Act.put, List.getElem_toArray, List.getElem_cons_zero, List.getElem_cons_succ, List.setIfInBounds_toArray, List.set_cons_zero, List.set_cons_succ]
      refine wpAnyH_take (i := 10) (v := ?_) rfl (by kernel_rfl) (by kernel_rfl) (by kernel_rfl) (fun _ _ _ h => h) (Or.inl ⟨by rfl, ?_⟩) (by assumption) ?_
      rotate_left
      · (intro W hSw; skip; go_simp; try with_reducible rfl)
      simp only [Act.put, List.getElem_toArray, List.getElem_cons_zero, List.getElem_cons_succ, List.setIfInBounds_toArray, List.set_cons_zero, List.set_cons_succ]
      refine wpAnyH_take (i := 11) (v := ?_) rfl (by kernel_rfl) (by kernel_rfl) (by kernel_rfl) (fun _ _ _ h => h) (Or.inl ⟨by rfl, ?_⟩) (by assumption) ?_
      rotate_left
      · (intro W hSw; skip; go_simp; try with_reducible rfl)
      simp only [Act.put, List.getElem_toArray, List.getElem_cons_zero, List.getElem_cons_succ, List.setIfInBounds_toArray, List.set_cons_zero, List.set_cons_succ]
      refine wpAnyH_take (i := 12) (v := ?_) rfl (by kernel_rfl) (by kernel_rfl) (by kernel_rfl) (fun _ _ _ h => h) (Or.inl ⟨by rfl, ?_⟩) (by assumption) ?_
      rotate_left
      · (intro W hSw; skip; go_simp; try with_reducible rfl)
      simp only [Act.put, List.getElem_toArray, List.getElem_cons_zero, List.getElem_cons_succ, List.setIfInBounds_toArray, List.set_cons_zero, List.set_cons_succ]
      refine wpAnyH_take (i := 13) (v := ?_) rfl (by kernel_rfl) (by kernel_rfl) (by kernel_rfl) (fun _ _ _ h => h) (Or.inl ⟨by rfl, ?_⟩) (by assumption) ?_
      rotate_left
      · (intro W hSw; skip; go_simp; try with_reducible rfl)
      simp only [Act.put, List.getElem_toArray, List.getElem_cons_zero, List.getElem_cons_succ, List.setIfInBounds_toArray, List.set_cons_zero, List.set_cons_succ]
      refine wpAnyH_take (i := 14) (v := ?_) rfl (by kernel_rfl) (by kernel_rfl) (by kernel_rfl) (fun _ _ _ h => h) (Or.inl ⟨by rfl, ?_⟩) (by assumption) ?_
      rotate_left
      · (intro W hSw; skip; go_simp; try with_reducible rfl)
      simp only [Act.put, List.getElem_toArray, List.getElem_cons_zero, List.getElem_cons_succ, List.setIfInBounds_toArray, List.set_cons_zero, List.set_cons_succ]
      refine wpAnyH_take (i := 15) (v := ?_) rfl (by kernel_rfl) (by kernel_rfl) (by kernel_rfl) (fun _ _ _ h => h) (Or.inl ⟨by rfl, ?_⟩) (by assumption) ?_
      rotate_left
      · (intro W hSw; skip; go_simp; try with_reducible rfl)
      simp only [Act.put, List.getElem_toArray, List.getElem_cons_zero, List.getElem_cons_succ, List.setIfInBounds_toArray, List.set_cons_zero, List.set_cons_succ]
      refine wpAnyH_take (i := 16) (v := ?_) rfl (by kernel_rfl) (by kernel_rfl) (by kernel_rfl) (fun _ _ _ h => h) (Or.inl ⟨by rfl, ?_⟩) (by assumption) ?_
      rotate_left
      · (intro W hSw; skip; go_simp; try with_reducible rfl)
      simp only [Act.put, List.getElem_toArray, List.getElem_cons_zero, List.getElem_cons_succ, List.setIfInBounds_toArray, List.set_cons_zero, List.set_cons_succ]
      refine wpAnyH_take (i := 17) (v := ?_) rfl (by kernel_rfl) (by kernel_rfl) (by kernel_rfl) (fun _ _ _ h => h) (Or.inl ⟨by rfl, ?_⟩) (by assumption) ?_
      rotate_left
      · (intro W hSw; obtain ⟨e0, e1, e2, e3⟩ := own_end hSw; go_simp; try with_reducible rfl)
      simp only [Act.put, List.getElem_toArray, List.getElem_cons_zero, List.getElem_cons_succ, List.setIfInBounds_toArray, List.set_cons_zero, List.set_cons_succ]
      refine wpAnyH_take (i := 20) (v := ?_) rfl (by kernel_rfl) (by kernel_rfl) (by kernel_rfl) (fun _ _ _ h => h) (Or.inl ⟨by rfl, ?_⟩) (by assumption) ?_
      rotate_left
      · (intro W hSw; obtain ⟨e0, e1, e2, e3⟩ := own_end hSw; go_simp; try with_reducible rfl)
      simp only [Act.put, List.getElem_toArray, List.getElem_cons_zero, List.getElem_cons_succ, List.setIfInBounds_toArray, List.set_cons_zero, List.set_cons_succ]
      refine wpAnyH_ready (rs := [18]) (by kernel_rfl) (by simp) ?_
      refine (AllReadyH.cons rfl (fun K hK => ?_) AllReadyH.nil)
      go_simp
      go_at_call 25
      refine (HGv.out _ hv13).mono ?_
      rintro e w7 ⟨A6, c6, rfl, hC6, hc14⟩
      have hd14 := bl_trans hd13 hc14
      have hv14 := bl_trans hv13 hc14
      have hu14 := bl_trans hu13 hc14
      have oA14 := oA13.step hc14
      clear oA13
      refine hK.out _ _ oA14 (fun hHeld2 => ?_)
      clear hK K hHeld
      have hHeld := hHeld2
      clear hHeld2
      try simp only [Act.put, List.getElem_toArray, List.getElem_cons_zero, List.getElem_cons_succ, List.setIfInBounds_toArray, List.set_cons_zero, List.set_cons_succ]
      refine wpAnyH_ready (rs := [19]) (by kernel_rfl) (by simp) ?_
      refine (AllReadyH.cons rfl (fun K hK => ?_) AllReadyH.nil)
      go_simp
      go_at_call 29
      refine (HOt.out _ A6 c6 (HT0.out.below hv14) hC6).mono ?_
      rintro e w8 ⟨rfl, hc15⟩
      have hd15 := bl_trans hd14 hc15
      have hv15 := bl_trans hv14 hc15
      have hu15 := bl_trans hu14 hc15
      have oA15 := oA14.step hc15
      clear oA14
      clear hC6
      refine hK.out _ _ oA15 (fun hHeld2 => ?_)
      clear hK K hHeld
      have hHeld := hHeld2
      clear hHeld2
      try simp only [Act.put, List.getElem_toArray, List.getElem_cons_zero, List.getElem_cons_succ, List.setIfInBounds_toArray, List.set_cons_zero, List.set_cons_succ]
      refine wpAnyH_ready (rs := [21]) (by kernel_rfl) (by simp) ?_
      refine (AllReadyH.cons rfl (fun K hK => ?_) AllReadyH.nil)
      go_simp
      go_at_call 30
      refine (HRt.out _ hv15).mono ?_
      rintro e w9 ⟨rfl, hc16⟩
      have hd16 := bl_trans hd15 hc16
      have hv16 := bl_trans hv15 hc16
      have hu16 := bl_trans hu15 hc16
      have oA16 := oA15.step hc16
      clear oA15
      refine hK.out _ _ oA16 (fun hHeld2 => ?_)
      clear hK K hHeld
      have hHeld := hHeld2
      clear hHeld2
      try simp only [Act.put, List.getElem_toArray, List.getElem_cons_zero, List.getElem_cons_succ, List.setIfInBounds_toArray, List.set_cons_zero, List.set_cons_succ]
      refine wpAnyH_take (i := 22) (v := .bool false) rfl (by kernel_rfl) (by kernel_rfl) (by kernel_rfl) (fun _ _ _ h => h) (Or.inl ⟨by rfl, ?_⟩) (by assumption) ?_
      · (intro W hSw; go_simp; first | done | (simp; done) | rfl)
      simp only [Act.put, List.getElem_toArray, List.getElem_cons_zero, List.getElem_cons_succ, List.setIfInBounds_toArray, List.set_cons_zero, List.set_cons_succ]
      refine wpAnyH_take (i := 23) (v := ?_) rfl (by kernel_rfl) (by kernel_rfl) (by kernel_rfl) (fun _ _ _ h => h) (Or.inl ⟨by rfl, ?_⟩) (by assumption) ?_
      rotate_left
      · (intro W hSw; skip; go_simp; try with_reducible rfl)
      simp only [Act.put, List.getElem_toArray, List.getElem_cons_zero, List.getElem_cons_succ, List.setIfInBounds_toArray, List.set_cons_zero, List.set_cons_succ]
      refine wpAnyH_done (by kernel_rfl) ?_ _
      have HBz := Lib.hid (HB3.out.stp hu16)
      clear HB3 HB4 HEq HOv HOt HRt hd10 hd11 hd12 hd13 hd14 hd15 hv10 hv11 hv12 hv13 hv14 hv15 hu10 hu11 hu12 hu13 hu14 hu15 hu16 hc11 hc12 hc13 hc14 hc15 hc16
      go_wp2_with fail
      refine (alive17_any _).mono ?_
      rintro e w10 ⟨rfl, hb4⟩
      have hb5 := bl_trans hd16 hb4
      go_wp2
      go_ret
      exact ⟨rfl, hb5⟩
    · skip
      go_upto_region 5 with fail
      refine wp_region_held_drew (S := (fun X => Own X w.heap.size 41 #[.int .u32 p, .int .i64 q, .int .u32 r, .slice A n c])) (by kernel_rfl) o3.drew (fun hHeld => ?_)
      have hd10 := bl_drewN hd3 1
      have hv10 := bl_drewN hv3 1
      have hu10 := bl_drewN (bl_refl w3) 1
      have oA10 := o3.drew
      clear o3 hd3 hv3
      refine wpAnyH_take (i := 0) (v := ?_) rfl (by kernel_rfl) (by kernel_rfl) (by kernel_rfl) (fun _ _ _ h => h) (Or.inl ⟨by rfl, ?_⟩) (by assumption) ?_
      rotate_left
      · (intro W hSw; obtain ⟨e0, e1, e2, e3⟩ := own_end hSw; go_simp; try with_reducible rfl)
      simp only [Act.put, List.getElem_toArray, List.getElem_cons_zero, List.setIfInBounds_toArray, List.set_cons_zero, List.set_cons_succ]
      refine wpAnyH_take (i := 3) (v := ?_) rfl (by kernel_rfl) (by kernel_rfl) (by kernel_rfl) (fun _ _ _ h => h) (Or.inl ⟨by rfl, ?_⟩) (by assumption) ?_
      rotate_left
      · (intro W hSw; obtain ⟨e0, e1, e2, e3⟩ := own_end hSw; go_simp; try with_reducible rfl)
      simp only [Act.put, List.getElem_toArray, List.getElem_cons_zero, List.getElem_cons_succ, List.setIfInBounds_toArray, List.set_cons_zero, List.set_cons_succ]
      refine wpAnyH_ready (rs := [1]) (by kernel_rfl) (by simp) ?_
      refine (AllReadyH.cons rfl (fun K hK => ?_) AllReadyH.nil)
      go_simp
      go_at_call 25
      refine (HGv.out _ hv10).mono ?_
      rintro e w4 ⟨A5, c5, rfl, hC5, hc11⟩
      have hd11 := bl_trans hd10 hc11
      have hv11 := bl_trans hv10 hc11
      have hu11 := bl_trans hu10 hc11
      have oA11 := oA10.step hc11
      clear oA10
      refine hK.out _ _ oA11 (fun hHeld2 => ?_)
      clear hK K hHeld
      have hHeld := hHeld2
      clear hHeld2
      try simp only [Act.put, List.getElem_toArray, List.getElem_cons_zero, List.getElem_cons_succ, List.setIfInBounds_toArray, List.set_cons_zero, List.set_cons_succ]
      refine wpAnyH_ready (rs := [2]) (by kernel_rfl) (by simp) ?_
      refine (AllReadyH.cons rfl (fun K hK => ?_) AllReadyH.nil)
      go_simp
      go_at_call 27
      refine (HOv.out _ A5 c5 hC5).mono ?_
      rintro e w5 ⟨rfl, hc12⟩
      have hd12 := bl_trans hd11 hc12
      have hv12 := bl_trans hv11 hc12
      have hu12 := bl_trans hu11 hc12
      have oA12 := oA11.step hc12
      clear oA11
      clear hC5
      refine hK.out _ _ oA12 (fun hHeld2 => ?_)
      clear hK K hHeld
      have hHeld := hHeld2
      clear hHeld2
      try simp only [Act.put, List.getElem_toArray, List.getElem_cons_zero, List.getElem_cons_succ, List.setIfInBounds_toArray, List.set_cons_zero, List.set_cons_succ]
      refine wpAnyH_take (i := 4) (v := ?_) rfl (by kernel_rfl) (by kernel_rfl) (by kernel_rfl) (fun _ _ _ h => h) (Or.inl ⟨by rfl, ?_⟩) (by assumption) ?_
      rotate_left
      · (intro W hSw; skip; go_simp; try with_reducible rfl)
      simp only [Act.put, List.getElem_toArray, List.getElem_cons_zero, List.getElem_cons_succ, List.setIfInBounds_toArray, List.set_cons_zero, List.set_cons_succ]
      refine wpAnyH_take (i := 5) (v := ?_) rfl (by kernel_rfl) (by kernel_rfl) (by kernel_rfl) (fun _ _ _ h => h) (Or.inl ⟨by rfl, ?_⟩) (by assumption) ?_
      rotate_left
      · (intro W hSw; skip; go_simp; try with_reducible rfl)
      simp only [Act.put, List.getElem_toArray, List.getElem_cons_zero, List.getElem_cons_succ, List.setIfInBounds_toArray, List.set_cons_zero, List.set_cons_succ]
      refine wpAnyH_take (i := 6) (v := ?_) rfl (by kernel_rfl) (by kernel_rfl) (by kernel_rfl) (fun _ _ _ h => h) (Or.inl ⟨by rfl, ?_⟩) (by assumption) ?_
      rotate_left
      · (intro W hSw; skip; go_simp; try with_reducible rfl)
      simp only [Act.put, List.getElem_toArray, List.getElem_cons_zero, List.getElem_cons_succ, List.setIfInBounds_toArray, List.set_cons_zero, List.set_cons_succ]
      refine wpAnyH_take (i := 7) (v := ?_) rfl (by kernel_rfl) (by kernel_rfl) (by kernel_rfl) (fun _ _ _ h => h) (Or.inl ⟨by rfl, ?_⟩) (by assumption) ?_
      rotate_left
      · (intro W hSw; skip; go_simp; try with_reducible rfl)
      simp only [Act.put, List.getElem_toArray, List.getElem_cons_zero, List.getElem_cons_succ, List.setIfInBounds_toArray, List.set_cons_zero, List.set_cons_succ]
      refine wpAnyH_ready (rs := [8]) (by kernel_rfl) (by simp) ?_
      refine (AllReadyH.cons rfl (fun K hK => ?_) AllReadyH.nil)
      go_simp
      go_at_call 28
      refine (HEq.out _ hu12).mono ?_
      rintro e w6 ⟨rfl, hc13⟩
      have hd13 := bl_trans hd12 hc13
      have hv13 := bl_trans hv12 hc13
      have hu13 := bl_trans hu12 hc13
      have oA13 := oA12.step hc13
      clear oA12
      refine hK.out _ _ oA13 (fun hHeld2 => ?_)
      clear hK K hHeld
      have hHeld := hHeld2
      clear hHeld2
      try simp only [Act.put, List.getElem_toArray, List.getElem_cons_zero, List.getElem_cons_succ, List.setIfInBounds_toArray, List.set_cons_zero, List.set_cons_succ]
      refine wpAnyH_take (i := 9) (v := ?_) rfl (by kernel_rfl) (by kernel_rfl) (by kernel_rfl) (fun _ _ _ h => h) (Or.inl ⟨by rfl, ?_⟩) (by assumption) ?_
      rotate_left
      · (intro W hSw; skip; go_simp; try with_reducible rfl)
      simp only [Act.put, List.getElem_toArray, List.getElem_cons_zero, List.getElem_cons_succ, List.setIfInBounds_toArray, List.set_cons_zero, List.set_cons_succ]
      refine wpAnyH_take (i := 10) (v := ?_) rfl (by kernel_rfl) (by kernel_rfl) (by kernel_rfl) (fun _ _ _ h => h) (Or.inl ⟨by rfl, ?_⟩) (by assumption) ?_
      rotate_left
      · (intro W hSw; skip; go_simp; try with_reducible rfl)
      simp only [Act.put, List.getElem_toArray, List.getElem_cons_zero, List.getElem_cons_succ, List.setIfInBounds_toArray, List.set_cons_zero, List.set_cons_succ]
      refine wpAnyH_take (i := 11) (v := ?_) rfl (by kernel_rfl) (by kernel_rfl) (by kernel_rfl) (fun _ _ _ h => h) (Or.inl ⟨by rfl, ?_⟩) (by assumption) ?_
      rotate_left
      · (intro W hSw; skip; go_simp; try with_reducible rfl)
      simp only [Act.put, List.getElem_toArray, List.getElem_cons_zero, List.getElem_cons_succ, List.setIfInBounds_toArray, List.set_cons_zero, List.set_cons_succ]
      refine wpAnyH_take (i := 12) (v := ?_) rfl (by kernel_rfl) (by kernel_rfl) (by kernel_rfl) (fun _ _ _ h => h) (Or.inl ⟨by rfl, ?_⟩) (by assumption) ?_
      rotate_left
      · (intro W hSw; skip; go_simp; try with_reducible rfl)
      simp only [Act.put, List.getElem_toArray, List.getElem_cons_zero, List.getElem_cons_succ, List.setIfInBounds_toArray, List.set_cons_zero, List.set_cons_succ]
      refine wpAnyH_take (i := 13) (v := ?_) rfl (by kernel_rfl) (by kernel_rfl) (by kernel_rfl) (fun _ _ _ h => h) (Or.inl ⟨by rfl, ?_⟩) (by assumption) ?_
      rotate_left
      · (intro W hSw; skip; go_simp; try with_reducible rfl)
      simp only [Act.put, List.getElem_toArray, List.getElem_cons_zero, List.getElem_cons_succ, List.setIfInBounds_toArray, List.set_cons_zero, List.set_cons_succ]
      refine wpAnyH_take (i := 14) (v := ?_) rfl (by kernel_rfl) (by kernel_rfl) (by kernel_rfl) (fun _ _ _ h => h) (Or.inl ⟨by rfl, ?_⟩) (by assumption) ?_
      rotate_left
      · (intro W hSw; skip; go_simp; try with_reducible rfl)
      simp only [Act.put, List.getElem_toArray, List.getElem_cons_zero, List.getElem_cons_succ, List.setIfInBounds_toArray, List.set_cons_zero, List.set_cons_succ]
      refine wpAnyH_take (i := 15) (v := ?_) rfl (by kernel_rfl) (by kernel_rfl) (by kernel_rfl) (fun _ _ _ h => h) (Or.inl ⟨by rfl, ?_⟩) (by assumption) ?_
      rotate_left
      · (intro W hSw; skip; go_simp; try with_reducible rfl)
      simp only [Act.put, List.getElem_toArray, List.getElem_cons_zero, List.getElem_cons_succ, List.setIfInBounds_toArray, List.set_cons_zero, List.set_cons_succ]
      refine wpAnyH_take (i := 16) (v := ?_) rfl (by kernel_rfl) (by kernel_rfl) (by kernel_rfl) (fun _ _ _ h => h) (Or.inl ⟨by rfl, ?_⟩) (by assumption) ?_
      rotate_left
      · (intro W hSw; skip; go_simp; try with_reducible rfl)
      simp only [Act.put, List.getElem_toArray, List.getElem_cons_zero, List.getElem_cons_succ, List.setIfInBounds_toArray, List.set_cons_zero, List.set_cons_succ]
      refine wpAnyH_take (i := 17) (v := ?_) rfl (by kernel_rfl) (by kernel_rfl) (by kernel_rfl) (fun _ _ _ h => h) (Or.inl ⟨by rfl, ?_⟩) (by assumption) ?_
      rotate_left
      · (intro W hSw; obtain ⟨e0, e1, e2, e3⟩ := own_end hSw; go_simp; try with_reducible rfl)
      simp only [Act.put, List.getElem_toArray, List.getElem_cons_zero, List.getElem_cons_succ, List.setIfInBounds_toArray, List.set_cons_zero, List.set_cons_succ]
      refine wpAnyH_take (i := 20) (v := ?_) rfl (by kernel_rfl) (by kernel_rfl) (by kernel_rfl) (fun _ _ _ h => h) (Or.inl ⟨by rfl, ?_⟩) (by assumption) ?_
      rotate_left
      · (intro W hSw; obtain ⟨e0, e1, e2, e3⟩ := own_end hSw; go_simp; try with_reducible rfl)
      simp only [Act.put, List.getElem_toArray, List.getElem_cons_zero, List.getElem_cons_succ, List.setIfInBounds_toArray, List.set_cons_zero, List.set_cons_succ]
      refine wpAnyH_ready (rs := [18]) (by kernel_rfl) (by simp) ?_
      refine (AllReadyH.cons rfl (fun K hK => ?_) AllReadyH.nil)
      go_simp
      go_at_call 25
      refine (HGv.out _ hv13).mono ?_
      rintro e w7 ⟨A6, c6, rfl, hC6, hc14⟩
      have hd14 := bl_trans hd13 hc14
      have hv14 := bl_trans hv13 hc14
      have hu14 := bl_trans hu13 hc14
      have oA14 := oA13.step hc14
      clear oA13
      refine hK.out _ _ oA14 (fun hHeld2 => ?_)
      clear hK K hHeld
      have hHeld := hHeld2
      clear hHeld2
      try simp only [Act.put, List.getElem_toArray, List.getElem_cons_zero, List.getElem_cons_succ, List.setIfInBounds_toArray, List.set_cons_zero, List.set_cons_succ]
      refine wpAnyH_ready (rs := [19]) (by kernel_rfl) (by simp) ?_
      refine (AllReadyH.cons rfl (fun K hK => ?_) AllReadyH.nil)
      go_simp
      go_at_call 29
      refine (HOt.out _ A6 c6 (HT0.out.below hv14) hC6).mono ?_
      rintro e w8 ⟨rfl, hc15⟩
      have hd15 := bl_trans hd14 hc15
      have hv15 := bl_trans hv14 hc15
      have hu15 := bl_trans hu14 hc15
      have oA15 := oA14.step hc15
      clear oA14
      clear hC6
      refine hK.out _ _ oA15 (fun hHeld2 => ?_)
      clear hK K hHeld
      have hHeld := hHeld2
      clear hHeld2
      try simp only [Act.put, List.getElem_toArray, List.getElem_cons_zero, List.getElem_cons_succ, List.setIfInBounds_toArray, List.set_cons_zero, List.set_cons_succ]
      refine wpAnyH_ready (rs := [21]) (by kernel_rfl) (by simp) ?_
      refine (AllReadyH.cons rfl (fun K hK => ?_) AllReadyH.nil)
      go_simp
      go_at_call 30
      refine (HRt.out _ hv15).mono ?_
      rintro e w9 ⟨rfl, hc16⟩
      have hd16 := bl_trans hd15 hc16
      have hv16 := bl_trans hv15 hc16
      have hu16 := bl_trans hu15 hc16
      have oA16 := oA15.step hc16
      clear oA15
      refine hK.out _ _ oA16 (fun hHeld2 => ?_)
      clear hK K hHeld
      have hHeld := hHeld2
      clear hHeld2
      try simp only [Act.put, List.getElem_toArray, List.getElem_cons_zero, List.getElem_cons_succ, List.setIfInBounds_toArray, List.set_cons_zero, List.set_cons_succ]
      refine wpAnyH_take (i := 22) (v := .bool false) rfl (by kernel_rfl) (by kernel_rfl) (by kernel_rfl) (fun _ _ _ h => h) (Or.inl ⟨by rfl, ?_⟩) (by assumption) ?_
      · (intro W hSw; go_simp; first | done | (simp; done) | rfl)
      simp only [Act.put, List.getElem_toArray, List.getElem_cons_zero, List.getElem_cons_succ, List.setIfInBounds_toArray, List.set_cons_zero, List.set_cons_succ]
      refine wpAnyH_take (i := 23) (v := ?_) rfl (by kernel_rfl) (by kernel_rfl) (by kernel_rfl) (fun _ _ _ h => h) (Or.inl ⟨by rfl, ?_⟩) (by assumption) ?_
      rotate_left
      · (intro W hSw; skip; go_simp; try with_reducible rfl)
      simp only [Act.put, List.getElem_toArray, List.getElem_cons_zero, List.getElem_cons_succ, List.setIfInBounds_toArray, List.set_cons_zero, List.set_cons_succ]
      refine wpAnyH_done (by kernel_rfl) ?_ _
      have HBz := Lib.hid (HB3.out.stp hu16)
      clear HB3 HB4 HEq HOv HOt HRt hd10 hd11 hd12 hd13 hd14 hd15 hv10 hv11 hv12 hv13 hv14 hv15 hu10 hu11 hu12 hu13 hu14 hu15 hu16 hc11 hc12 hc13 hc14 hc15 hc16
      obtain ⟨_, hPP⟩ := HPa.out (by first | rfl | trivial)
      have hGF := HG.out
      simp only [if_true] at hGF
      rw [hGF] at hPP
      have hP5 := Lib.hid (hPP w9 A2 n2 c2 HBz.out)
      clear hPP hGF HPa HG
      go_upto_region 9 with fail
      go_cut [7, 8] (fun v7 v8 wx => PBx 47 p q r (ss.map cpK) 0 0 0 0 [] w9 v7 v8 wx)
      case first =>
        clear oA16 hd16 hv16
        go_wp2_with fail
        refine (hP5.out).mono ?_
        rintro e w1 ⟨A1, c1, L1, D1, dn1, dc1, rfl, hC1, hk1, hl1, hB1, hb1⟩
        have HC1 := Lib.hid hC1
        have HK1 := Lib.hid hk1
        have HL1 := Lib.hid hl1
        have HB1 := Lib.hid hB1
        have Hb1 := Lib.hid hb1
        clear hC1 hk1 hl1 hB1 hb1
        obtain ⟨X1, hX1, oR, oV, hbX, hXs⟩ := two_boxesN w1 #[.int .u32 p, .int .i64 q, .int .u32 r, .slice A1 L1.length c1] #[.int .i64 0, .int .i64 0, .int .i64 0, .slice D1 dn1 dc1, .int .i64 0] 47 55
        clear hXs
        dsimp only
        repeat (first | go_values | go_skip | go_guarded | go_step | go_upon)
        go_meet
        rw [← hX1]
        exact ⟨w1.heap.size, w1.heap.size + 1, A1, c1, L1, D1, dn1, dc1, rfl, rfl, oR, oV, HC1.out.step hbX, HK1.out, HL1.out, HB1.out.stp hbX, bl_trans Hb1.out hbX⟩
      case rest =>
      obtain ⟨wb, hwb⟩ : ∃ z, z = wc := ⟨_, rfl⟩
      subst hwb
      obtain ⟨g1, g2, A7, c7, L7, D7, dn7, dc7, rfl, rfl, oY, oV, hC7, hk7, hl7, hB7, hb7⟩ := hcut
      have hd17 := bl_trans hd16 hb7
      have hv17 := bl_trans hv16 hb7
      have oA17 := oA16.step hb7
      have HC7 := Lib.hid hC7
      have HK7 := Lib.hid hk7
      have HL7 := Lib.hid hl7
      have HB7 := Lib.hid hB7
      clear oA16 hd16 hv16 hb7 hC7 hk7 hl7 hB7 hP5
      go_upto_region 10 with fail
      refine wp_region_held_drew (S := (fun X => Own X w.heap.size 41 #[.int .u32 p, .int .i64 q, .int .u32 r, .slice A n c] ∧ Own X g1 47 #[.int .u32 p, .int .i64 q, .int .u32 r, .slice A7 L7.length c7] ∧ Own X g2 55 #[.int .i64 0, .int .i64 0, .int .i64 0, .slice D7 dn7 dc7, .int .i64 0])) (by kernel_rfl) ⟨oA17.drew, oY.drew, oV.drew⟩ (fun hHeld => ?_)
      have hd20 := bl_drewN hd17 1
      have hv20 := bl_drewN hv17 1
      have hu20 := bl_drewN (bl_refl wb) 1
      have oA20 := oA17.drew
      have oY20 := oY.drew
      have oV20 := oV.drew
      clear oA17 oY oV hd17 hv17
      refine wpAnyH_ready (rs := [0]) (by kernel_rfl) (by simp) ?_
      refine (AllReadyH.cons rfl (fun K hK => ?_) AllReadyH.nil)
      go_simp
      go_at_call 23
      refine (alive17_any _).mono ?_
      rintro e w21 ⟨rfl, hc21⟩
      have hd21 := bl_trans hd20 hc21
      have hv21 := bl_trans hv20 hc21
      have hu21 := bl_trans hu20 hc21
      have oA21 := oA20.step hc21
      have oY21 := oY20.step hc21
      have oV21 := oV20.step hc21
      clear oA20 oY20 oV20
      refine hK.out _ _ ⟨oA21, oY21, oV21⟩ (fun hHeld2 => ?_)
      clear hK K hHeld
      have hHeld := hHeld2
      clear hHeld2
      try simp only [Act.put, List.getElem_toArray, List.getElem_cons_zero, List.getElem_cons_succ, List.setIfInBounds_toArray, List.set_cons_zero, List.set_cons_succ]
      refine wpAnyH_take (i := 1) (v := ?_) rfl (by kernel_rfl) (by kernel_rfl) (by kernel_rfl) (fun _ _ _ h => h) (Or.inl ⟨by rfl, ?_⟩) (by assumption) ?_
      rotate_left
      · (intro W hSw; skip; go_simp; try with_reducible rfl)
      simp only [Act.put, List.getElem_toArray, List.getElem_cons_zero, List.getElem_cons_succ, List.setIfInBounds_toArray, List.set_cons_zero, List.set_cons_succ]
      refine wpAnyH_take (i := 2) (v := ?_) rfl (by kernel_rfl) (by kernel_rfl) (by kernel_rfl) (fun _ _ _ h => h) (Or.inl ⟨by rfl, ?_⟩) (by assumption) ?_
      rotate_left
      · (intro W hSw; have s1 : Own W w.heap.size 41 #[.int .u32 p, .int .i64 q, .int .u32 r, .slice A n c] := hSw.1; have s2 : Own W g1 47 #[.int .u32 p, .int .i64 q, .int .u32 r, .slice A7 L7.length c7] := hSw.2.1; have s3 : Own W g2 55 #[.int .i64 0, .int .i64 0, .int .i64 0, .slice D7 dn7 dc7, .int .i64 0] := hSw.2.2; obtain ⟨e0, e1, e2, e3, e4⟩ := own_5 s3; go_simp; try with_reducible rfl)
      simp only [Act.put, List.getElem_toArray, List.getElem_cons_zero, List.getElem_cons_succ, List.setIfInBounds_toArray, List.set_cons_zero, List.set_cons_succ]
      refine wpAnyH_take (i := 3) (v := ?_) rfl (by kernel_rfl) (by kernel_rfl) (by kernel_rfl) (fun _ _ _ h => h) (Or.inl ⟨by rfl, ?_⟩) (by assumption) ?_
      rotate_left
      · (intro W hSw; skip; go_simp; try with_reducible rfl)
      simp only [Act.put, List.getElem_toArray, List.getElem_cons_zero, List.getElem_cons_succ, List.setIfInBounds_toArray, List.set_cons_zero, List.set_cons_succ]
      refine wpAnyH_ready (rs := [4]) (by kernel_rfl) (by simp) ?_
      refine (AllReadyH.cons rfl (fun K hK => ?_) AllReadyH.nil)
      go_simp
      go_at_call 32
      refine (vsame_same 0 0 0 0 D7 none dn7 0 dc7 0 [] _ (HB7.out.stp hu21) (Bytes.nil _ _ _)).mono ?_
      rintro e w22 ⟨rfl, hc22⟩
      have hd22 := bl_trans hd21 hc22
      have hv22 := bl_trans hv21 hc22
      have hu22 := bl_trans hu21 hc22
      have oA22 := oA21.step hc22
      have oY22 := oY21.step hc22
      have oV22 := oV21.step hc22
      clear oA21 oY21 oV21
      refine hK.out _ _ ⟨oA22, oY22, oV22⟩ (fun hHeld2 => ?_)
      clear hK K hHeld
      have hHeld := hHeld2
      clear hHeld2
      try simp only [Act.put, List.getElem_toArray, List.getElem_cons_zero, List.getElem_cons_succ, List.setIfInBounds_toArray, List.set_cons_zero, List.set_cons_succ]
      refine wpAnyH_take (i := 5) (v := ?_) rfl (by kernel_rfl) (by kernel_rfl) (by kernel_rfl) (fun _ _ _ h => h) (Or.inl ⟨by rfl, ?_⟩) (by assumption) ?_
      rotate_left
      · (intro W hSw; skip; go_simp; try with_reducible rfl)
      simp only [Act.put, List.getElem_toArray, List.getElem_cons_zero, List.getElem_cons_succ, List.setIfInBounds_toArray, List.set_cons_zero, List.set_cons_succ]
      refine wpAnyH_take (i := 6) (v := ?_) rfl (by kernel_rfl) (by kernel_rfl) (by kernel_rfl) (fun _ _ _ h => h) (Or.inl ⟨by rfl, ?_⟩) (by assumption) ?_
      rotate_left
      · (intro W hSw; skip; go_simp; try with_reducible rfl)
      simp only [Act.put, List.getElem_toArray, List.getElem_cons_zero, List.getElem_cons_succ, List.setIfInBounds_toArray, List.set_cons_zero, List.set_cons_succ]
      refine wpAnyH_take (i := 7) (v := ?_) rfl (by kernel_rfl) (by kernel_rfl) (by kernel_rfl) (fun _ _ _ h => h) (Or.inl ⟨by rfl, ?_⟩) (by assumption) ?_
      rotate_left
      · (intro W hSw; have s1 : Own W w.heap.size 41 #[.int .u32 p, .int .i64 q, .int .u32 r, .slice A n c] := hSw.1; have s2 : Own W g1 47 #[.int .u32 p, .int .i64 q, .int .u32 r, .slice A7 L7.length c7] := hSw.2.1; have s3 : Own W g2 55 #[.int .i64 0, .int .i64 0, .int .i64 0, .slice D7 dn7 dc7, .int .i64 0] := hSw.2.2; obtain ⟨e0, e1, e2, e3⟩ := own_end s2; go_simp; try with_reducible rfl)
      simp only [Act.put, List.getElem_toArray, List.getElem_cons_zero, List.getElem_cons_succ, List.setIfInBounds_toArray, List.set_cons_zero, List.set_cons_succ]
      refine wpAnyH_take (i := 9) (v := ?_) rfl (by kernel_rfl) (by kernel_rfl) (by kernel_rfl) (fun _ _ _ h => h) (Or.inl ⟨by rfl, ?_⟩) (by assumption) ?_
      rotate_left
      · (intro W hSw; have s1 : Own W w.heap.size 41 #[.int .u32 p, .int .i64 q, .int .u32 r, .slice A n c] := hSw.1; have s2 : Own W g1 47 #[.int .u32 p, .int .i64 q, .int .u32 r, .slice A7 L7.length c7] := hSw.2.1; have s3 : Own W g2 55 #[.int .i64 0, .int .i64 0, .int .i64 0, .slice D7 dn7 dc7, .int .i64 0] := hSw.2.2; obtain ⟨e0, e1, e2, e3⟩ := own_end s1; go_simp; try with_reducible rfl)
      simp only [Act.put, List.getElem_toArray, List.getElem_cons_zero, List.getElem_cons_succ, List.setIfInBounds_toArray, List.set_cons_zero, List.set_cons_succ]
      refine wpAnyH_ready (rs := [8]) (by kernel_rfl) (by simp) ?_
      refine (AllReadyH.cons rfl (fun K hK => ?_) AllReadyH.nil)
      go_simp
      go_at_call 34
      refine (back17_any p q r A7 L7.length c7 L7 _ (HC7.out.step hu22) (by have := HL7.out; omega)).mono ?_
      rintro e w23 ⟨A8, c8, rfl, hC8, hc23⟩
      have hd23 := bl_trans hd22 hc23
      have hv23 := bl_trans hv22 hc23
      have hu23 := bl_trans hu22 hc23
      have oA23 := oA22.step hc23
      have oY23 := oY22.step hc23
      have oV23 := oV22.step hc23
      clear oA22 oY22 oV22
      refine hK.out _ _ ⟨oA23, oY23, oV23⟩ (fun hHeld2 => ?_)
      clear hK K hHeld
      have hHeld := hHeld2
      clear hHeld2
      try simp only [Act.put, List.getElem_toArray, List.getElem_cons_zero, List.getElem_cons_succ, List.setIfInBounds_toArray, List.set_cons_zero, List.set_cons_succ]
      have hsm := Lib.hid (rsame17_any p q r A8 L7.length c8 p q r A n c L7 ss w23 hC8 (HC0.out.step hv23) (by have := HL7.out; omega) (by omega))
      rw [HK7.out] at hsm
      simp only [beq_self_eq_true, decide_true, Bool.and_self] at hsm
      refine wpAnyH_ready (rs := [10]) (by kernel_rfl) (by simp) ?_
      refine (AllReadyH.cons rfl (fun K hK => ?_) AllReadyH.nil)
      go_simp
      go_at_call 33
      refine (hsm.out).mono ?_
      rintro e w24 ⟨rfl, hc24⟩
      have hd24 := bl_trans hd23 hc24
      have hv24 := bl_trans hv23 hc24
      have hu24 := bl_trans hu23 hc24
      have oA24 := oA23.step hc24
      have oY24 := oY23.step hc24
      have oV24 := oV23.step hc24
      clear oA23 oY23 oV23
      refine hK.out _ _ ⟨oA24, oY24, oV24⟩ (fun hHeld2 => ?_)
      clear hK K hHeld
      have hHeld := hHeld2
      clear hHeld2
      try simp only [Act.put, List.getElem_toArray, List.getElem_cons_zero, List.getElem_cons_succ, List.setIfInBounds_toArray, List.set_cons_zero, List.set_cons_succ]
      refine wpAnyH_take (i := 11) (v := ?_) rfl (by kernel_rfl) (by kernel_rfl) (by kernel_rfl) (fun _ _ _ h => h) (Or.inl ⟨by rfl, ?_⟩) (by assumption) ?_
      rotate_left
      · (intro W hSw; skip; go_simp; try with_reducible rfl)
      simp only [Act.put, List.getElem_toArray, List.getElem_cons_zero, List.getElem_cons_succ, List.setIfInBounds_toArray, List.set_cons_zero, List.set_cons_succ]
      refine wpAnyH_take (i := 12) (v := ?_) rfl (by kernel_rfl) (by kernel_rfl) (by kernel_rfl) (fun _ _ _ h => h) (Or.inl ⟨by rfl, ?_⟩) (by assumption) ?_
      rotate_left
      · (intro W hSw; skip; go_simp; try with_reducible rfl)
      simp only [Act.put, List.getElem_toArray, List.getElem_cons_zero, List.getElem_cons_succ, List.setIfInBounds_toArray, List.set_cons_zero, List.set_cons_succ]
      refine wpAnyH_done (by kernel_rfl) ?_ _
      go_wp2
      go_ret
      exact ⟨rfl, hd24⟩
end Go.Proofs.YtniheakafkakhaaDoor

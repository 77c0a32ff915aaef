/- open.Make; NegotiateMakes: the walk -/
import Derived.Test.YtniheakafkakhaaDoorNgM3
namespace Go.Proofs.YtniheakafkakhaaDoor
open Go.RowKit Go.Sort
set_option maxRecDepth 100000 in
set_option maxHeartbeats 3200000 in
theorem omake_any (a0 a1 a2 a3 a4 a5 : Bool) (an hd id : Int) (h0 : 0 ≤ an) (h1 : an < 4294967296) (w : World) (hf : Fams w) :
    Calls Tryd.prog 35 #[.agg #[.bool a0, .bool a1, .bool a2, .bool a3, .bool a4, .bool a5], .int .u32 an, .int .i64 hd, .int .u32 id] w fun e w' => ∃ A c L', e = .returned (.agg #[.int .u32 an, .int .i64 hd, .int .u32 id, .slice A (List.length L') c]) ∧ L'.map cpK = ofK a0 a1 a2 a3 a4 a5 an ∧ (∀ s ∈ L', s.n ≤ 1000) ∧ Caps w' w'.heap.size A L'.length L' ∧ Below w.heap.size w w' := by
  obtain ⟨X, hX, oA, oR, hbX, hXs⟩ := two_boxesN w #[.bool a0, .bool a1, .bool a2, .bool a3, .bool a4, .bool a5] #[.int .u32 0, .int .i64 0, .int .u32 0, .slice none 0 0] 23 47
  clear hXs
  have hO := Lib.hid (cof_any a0 a1 a2 a3 a4 a5 an h0 h1 X (hf.below hbX))
  obtain ⟨e0, e1, e2, e3, e4, e5⟩ := own_six oA
  clear h0 h1 hf
  go_enter Tryd.func35, Tryd.ntmps35
  go_upto_region 1 with fail
  rw [← hX]
  clear hX
  go_wp2_with fail
  refine hO.out.mono ?_
  rintro e w2 ⟨A, c, L', rfl, hC, hk, hs, hb2⟩
  have oR2 := oR.step hb2
  have hb3 := bl_trans hbX hb2
  clear oA oR hbX hb2 e0 e1 e2 e3 e4 e5 hO
  obtain ⟨e0, e1, e2, e3⟩ := own_end oR2
  have f0 := oR2.frozen 0
  have f1 := oR2.frozen 1
  have f2 := oR2.frozen 2
  have f3 := oR2.frozen 3
  have hbz : w.heap.size ≤ w.heap.size + 1 := by omega
  have oZ := sets4_own (a := .int .u32 an) (b := .int .i64 hd) (c := .int .u32 id) (d := .slice A L'.length c) oR2
  have hbZ := sets4_below (a := .int .u32 an) (b := .int .i64 hd) (c := .int .u32 id) (d := .slice A L'.length c) hb3 hbz
  have hCZ := sets4_caps (p := an) (q := hd) (r := id) (v := .slice A L'.length c) hC oR2
  have HCZ := Lib.hid hCZ
  have HOZ := Lib.hid oZ
  have HBZ := Lib.hid hbZ
  clear hCZ oZ hbZ hC hb3 oR2
  go_wp2
  exact bodyPost_ret (results_cell1N (p := 8) (fn := Tryd.f35) rfl _ _ (w.heap.size + 1) 47 #[.int .u32 an, .int .i64 hd, .int .u32 id, .slice A L'.length c] _ rfl HOZ.out op_descN rfl (op_infoN _ _ _ _)) rfl ⟨A, c, L', rfl, hk, hs, HCZ.out, HBZ.out⟩
theorem ofK_says6 (a0 a1 a2 a3 a4 a5 : Bool) (n : Int) : (sysK (ofK a0 a1 a2 a3 a4 a5 n)).isSome = a0 ∧ hasK 6 0 (ofK a0 a1 a2 a3 a4 a5 n) = a1 ∧ famK 1 (ofK a0 a1 a2 a3 a4 a5 n) = a2 ∧ famK 2 (ofK a0 a1 a2 a3 a4 a5 n) = a3 ∧ (givesB (modK 1 (ofK a0 a1 a2 a3 a4 a5 n)) = a4 ∧ takesB (modK 1 (ofK a0 a1 a2 a3 a4 a5 n)) = a4) ∧ givesB (modK 2 (ofK a0 a1 a2 a3 a4 a5 n)) = a5 ∧ takesB (modK 2 (ofK a0 a1 a2 a3 a4 a5 n)) = a5 := by
  cases a0 <;> cases a1 <;> cases a2 <;> cases a3 <;> cases a4 <;> cases a5 <;> exact ⟨rfl, rfl, rfl, rfl, ⟨rfl, rfl⟩, rfl, rfl⟩
theorem tow_of (a0 a1 a2 a3 a4 a5 b0 b1 b2 b3 b4 b5 : Bool) (n m : Int) : towK (ofK a0 a1 a2 a3 a4 a5 n) (ofK b0 b1 b2 b3 b4 b5 m) = bothW a0 a1 a2 a3 a4 a5 b0 b1 b2 b3 b4 b5 ∧ towK (ofK b0 b1 b2 b3 b4 b5 m) (ofK a0 a1 a2 a3 a4 a5 n) = bothW a0 a1 a2 a3 a4 a5 b0 b1 b2 b3 b4 b5 := by
  obtain ⟨h0, h1, h2, h3, ⟨h4, h5⟩, h6, h7⟩ := ofK_says6 a0 a1 a2 a3 a4 a5 n
  obtain ⟨k0, k1, k2, k3, ⟨k4, k5⟩, k6, k7⟩ := ofK_says6 b0 b1 b2 b3 b4 b5 m
  unfold towK bothW
  rw [h0, h1, h2, h3, h4, h5, h6, h7, k0, k1, k2, k3, k4, k5, k6, k7]
  refine ⟨rfl, ?_⟩
  rw [Bool.and_comm b0 a0, Bool.and_comm b1 a1, Bool.and_comm b2 a2, Bool.and_comm b3 a3, Bool.and_comm b4 a4, Bool.and_comm b5 a5]
/-- What the region leaves that makes both OPENs. -/
def GivM (w2 : World) (Ka Kb : Int → List (Int × List Int)) (v7 v8 : Value) (wx : World) : Prop := ∃ g5 g6 p p' A1 c1 L1 A3 c3 L3, v7 = .pointer (some ⟨g5, 0, none⟩) ∧ v8 = .pointer (some ⟨g6, 0, none⟩) ∧ Own wx g5 47 #[.int .u32 p, .int .i64 90, .int .u32 1, .slice A1 (List.length L1) c1] ∧ Own wx g6 47 #[.int .u32 p', .int .i64 0, .int .u32 2, .slice A3 (List.length L3) c3] ∧ (L1.map cpK = Ka p ∧ L3.map cpK = Kb p') ∧ (∀ s ∈ L1, s.n ≤ 1000) ∧ (∀ s ∈ L3, s.n ≤ 1000) ∧ Caps wx wx.heap.size A1 L1.length L1 ∧ Caps wx wx.heap.size A3 L3.length L3 ∧ Below w2.heap.size w2 wx
theorem u32_wrap_rng (n : Int) : 0 ≤ IntKind.u32.wrap n ∧ IntKind.u32.wrap n < 4294967296 := by rw [IntKind.wrap_u32]; omega
theorem ofK_len (a0 a1 a2 a3 a4 a5 : Bool) (n : Int) : (ofK a0 a1 a2 a3 a4 a5 n).length ≤ 10 := by
  cases a0 <;> cases a1 <;> cases a2 <;> cases a3 <;> cases a4 <;> cases a5 <;> exact Nat.le_of_ble_eq_true rfl
set_option maxRecDepth 100000 in
set_option maxHeartbeats 12800000 in
theorem ngmk_all (a0 a1 a2 a3 a4 a5 b0 b1 b2 b3 b4 b5 : Bool) (m0 m1 : Int) (w : World) (hf : Fams w) :
    Calls Tryd.prog 7 #[.agg #[.bool a0, .bool a1, .bool a2, .bool a3, .bool a4, .bool a5], .agg #[.bool b0, .bool b1, .bool b2, .bool b3, .bool b4, .bool b5], .agg #[.int .u32 m0, .int .u32 m1]] w fun e w' => e = .returned (.bool true) ∧ Below w.heap.size w w' := by
  have HF := Lib.hid hf
  have hVa : Hid (∀ W, Calls Tryd.prog 42 #[.agg #[.bool a0, .bool a1, .bool a2, .bool a3, .bool a4, .bool a5]] W fun e w' => e = .returned (.bool (a3 || !a5)) ∧ Below W.heap.size W w') := Lib.hid fun W => rovalid_any a0 a1 a2 a3 a4 a5 W
  have hVb : Hid (∀ W, Calls Tryd.prog 42 #[.agg #[.bool b0, .bool b1, .bool b2, .bool b3, .bool b4, .bool b5]] W fun e w' => e = .returned (.bool (b3 || !b5)) ∧ Below W.heap.size W w') := Lib.hid fun W => rovalid_any b0 b1 b2 b3 b4 b5 W
  have hRb : Hid (∀ W, Calls Tryd.prog 43 #[.agg #[.bool a0, .bool a1, .bool a2, .bool a3, .bool a4, .bool a5], .agg #[.bool b0, .bool b1, .bool b2, .bool b3, .bool b4, .bool b5]] W fun e w' => e = .returned (.agg (bothW a0 a1 a2 a3 a4 a5 b0 b1 b2 b3 b4 b5)) ∧ Below W.heap.size W w') := Lib.hid fun W => roboth_any a0 a1 a2 a3 a4 a5 b0 b1 b2 b3 b4 b5 W
  generalize (a3 || !a5) = va at *
  generalize (b3 || !b5) = vb at *
  have hAl : Hid (∀ W, Below w.heap.size w W → Calls Tryd.prog 38 #[] W fun e w' => e = .returned (.bool true) ∧ Below W.heap.size W w') := Lib.hid fun W hb => alive22_any W (hf.below hb)
  have hMa : Hid (∀ (an : Int) W, Below w.heap.size w W → 0 ≤ an → an < 4294967296 → Calls Tryd.prog 35 #[.agg #[.bool a0, .bool a1, .bool a2, .bool a3, .bool a4, .bool a5], .int .u32 an, .int .i64 90, .int .u32 1] W fun e w' => ∃ A c L', e = .returned (.agg #[.int .u32 an, .int .i64 90, .int .u32 1, .slice A (List.length L') c]) ∧ L'.map cpK = ofK a0 a1 a2 a3 a4 a5 an ∧ (∀ s ∈ L', s.n ≤ 1000) ∧ Caps w' w'.heap.size A L'.length L' ∧ Below W.heap.size W w') := Lib.hid fun an W hb h0 h1 => omake_any a0 a1 a2 a3 a4 a5 an 90 1 h0 h1 W (hf.below hb)
  have hMb : Hid (∀ (an : Int) W, Below w.heap.size w W → 0 ≤ an → an < 4294967296 → Calls Tryd.prog 35 #[.agg #[.bool b0, .bool b1, .bool b2, .bool b3, .bool b4, .bool b5], .int .u32 an, .int .i64 0, .int .u32 2] W fun e w' => ∃ A c L', e = .returned (.agg #[.int .u32 an, .int .i64 0, .int .u32 2, .slice A (List.length L') c]) ∧ L'.map cpK = ofK b0 b1 b2 b3 b4 b5 an ∧ (∀ s ∈ L', s.n ≤ 1000) ∧ Caps w' w'.heap.size A L'.length L' ∧ Below W.heap.size W w') := Lib.hid fun an W hb h0 h1 => omake_any b0 b1 b2 b3 b4 b5 an 0 2 h0 h1 W (hf.below hb)
  obtain ⟨X, hX, oA, oB, oC, hbX, hXs⟩ := three_boxesN w #[.bool a0, .bool a1, .bool a2, .bool a3, .bool a4, .bool a5] #[.bool b0, .bool b1, .bool b2, .bool b3, .bool b4, .bool b5] #[.int .u32 m0, .int .u32 m1] 23 23 62
  clear hXs hf
  obtain ⟨d0, d1, d2, d3, d4, d5⟩ := own_six oA
  go_enter Tryd.func7, Tryd.ntmps7
  go_upto_region 1 with fail
  rw [← hX]
  clear hX
  go_wp2_with fail
  refine (hVa.out _).mono ?_
  rintro e w1 ⟨rfl, hc1⟩
  have hb1 := bl_trans hbX hc1
  have oA1 := oA.step hc1
  have oB1 := oB.step hc1
  have oC1 := oC.step hc1
  clear oA oB oC hbX hc1 d0 d1 d2 d3 d4 d5 hVa
  cases va
  · go_wp2_with fail
    refine (hAl.out _ hb1).mono ?_
    rintro e w3 ⟨rfl, hb4⟩
    have hb5 := bl_trans hb1 hb4
    go_wp2
    go_ret
    exact ⟨rfl, hb5⟩
  · obtain ⟨d0, d1, d2, d3, d4, d5⟩ := own_six oB1
    go_wp2_with fail
    refine (hVb.out _).mono ?_
    rintro e w2 ⟨rfl, hc2⟩
    have hb2 := bl_trans hb1 hc2
    have oA2 := oA1.step hc2
    have oB2 := oB1.step hc2
    have oCc := oC1.step hc2
    clear oA1 oB1 oC1 hb1 hc2 d0 d1 d2 d3 d4 d5 hVb
    cases vb
    · go_wp2_with fail
      refine (hAl.out _ hb2).mono ?_
      rintro e w3 ⟨rfl, hb4⟩
      have hb5 := bl_trans hb2 hb4
      go_wp2
      go_ret
      exact ⟨rfl, hb5⟩
    · go_upto_region 3 with fail
      have hsz := hb2.size
      go_cut [7, 8] (fun v7 v8 wx => GivM w2 (fun n => ofK a0 a1 a2 a3 a4 a5 n) (fun n => ofK b0 b1 b2 b3 b4 b5 n) v7 v8 wx)
      case first =>
        refine wp_region_held_drew (S := (fun X => Own X w.heap.size 23 #[.bool a0, .bool a1, .bool a2, .bool a3, .bool a4, .bool a5] ∧ Own X (w.heap.size + 1) 23 #[.bool b0, .bool b1, .bool b2, .bool b3, .bool b4, .bool b5] ∧ Own X (w.heap.size + 1 + 1) 62 #[.int .u32 m0, .int .u32 m1])) (by kernel_rfl) ⟨oA2.drew, oB2.drew, oCc.drew⟩ (fun hHeld => ?_)
        have oA0 := oA2.drew
        have oB0 := oB2.drew
        have oC0 := oCc.drew
        have bb0 : Below w2.heap.size w2 w2.drew := bl_drewN (bl_refl w2) 1
        generalize w2.drew = Y0 at *
        refine wpAnyH_take (i := 0) (v := ?_) rfl (by kernel_rfl) (by kernel_rfl) (by kernel_rfl) (fun _ _ _ h => h) (Or.inl ⟨by rfl, ?_⟩) (by assumption) ?_
        rotate_left
        · (intro W hSw; have s0 : Own W w.heap.size 23 #[.bool a0, .bool a1, .bool a2, .bool a3, .bool a4, .bool a5] := hSw.1; have s1 : Own W (w.heap.size + 1) 23 #[.bool b0, .bool b1, .bool b2, .bool b3, .bool b4, .bool b5] := hSw.2.1; have s2 : Own W (w.heap.size + 1 + 1) 62 #[.int .u32 m0, .int .u32 m1] := hSw.2.2; obtain ⟨e0, e1, e2, e3, e4, e5⟩ := own_six s0; go_simp; try with_reducible rfl)
        simp only [Act.put, List.getElem_toArray, List.getElem_cons_zero, List.setIfInBounds_toArray, List.set_cons_zero, List.set_cons_succ]
        refine wpAnyH_take (i := 1) (v := ?_) rfl (by kernel_rfl) (by kernel_rfl) (by kernel_rfl) (fun _ _ _ h => h) (Or.inl ⟨by rfl, ?_⟩) (by assumption) ?_
        rotate_left
        · (intro W hSw; skip; go_simp; try with_reducible rfl)
        simp only [Act.put, List.getElem_toArray, List.getElem_cons_zero, List.getElem_cons_succ, List.setIfInBounds_toArray, List.set_cons_zero, List.set_cons_succ]
        refine wpAnyH_take (i := 2) (v := ?_) rfl (by kernel_rfl) (by kernel_rfl) (by kernel_rfl) (fun _ _ _ h => h) (Or.inl ⟨by rfl, ?_⟩) (by assumption) ?_
        rotate_left
        · (intro W hSw; have s0 : Own W w.heap.size 23 #[.bool a0, .bool a1, .bool a2, .bool a3, .bool a4, .bool a5] := hSw.1; have s1 : Own W (w.heap.size + 1) 23 #[.bool b0, .bool b1, .bool b2, .bool b3, .bool b4, .bool b5] := hSw.2.1; have s2 : Own W (w.heap.size + 1 + 1) 62 #[.int .u32 m0, .int .u32 m1] := hSw.2.2; obtain ⟨e0, e1⟩ := own_twoF s2; go_simp; try with_reducible rfl)
        simp only [Act.put, List.getElem_toArray, List.getElem_cons_zero, List.getElem_cons_succ, List.setIfInBounds_toArray, List.set_cons_zero, List.set_cons_succ]
        refine wpAnyH_take (i := 3) (v := ?_) rfl (by kernel_rfl) (by kernel_rfl) (by kernel_rfl) (fun _ _ _ h => h) (Or.inl ⟨by rfl, ?_⟩) (by assumption) ?_
        rotate_left
        · (intro W hSw; skip; go_simp; try with_reducible rfl)
        simp only [Act.put, List.getElem_toArray, List.getElem_cons_zero, List.getElem_cons_succ, List.setIfInBounds_toArray, List.set_cons_zero, List.set_cons_succ]
        refine wpAnyH_take (i := 4) (v := ?_) rfl (by kernel_rfl) (by kernel_rfl) (by kernel_rfl) (fun _ _ _ h => h) (Or.inl ⟨by rfl, ?_⟩) (by assumption) ?_
        rotate_left
        · (intro W hSw; skip; go_simp; try with_reducible rfl)
        simp only [Act.put, List.getElem_toArray, List.getElem_cons_zero, List.getElem_cons_succ, List.setIfInBounds_toArray, List.set_cons_zero, List.set_cons_succ]
        refine wpAnyH_take (i := 6) (v := ?_) rfl (by kernel_rfl) (by kernel_rfl) (by kernel_rfl) (fun _ _ _ h => h) (Or.inl ⟨by rfl, ?_⟩) (by assumption) ?_
        rotate_left
        · (intro W hSw; have s0 : Own W w.heap.size 23 #[.bool a0, .bool a1, .bool a2, .bool a3, .bool a4, .bool a5] := hSw.1; have s1 : Own W (w.heap.size + 1) 23 #[.bool b0, .bool b1, .bool b2, .bool b3, .bool b4, .bool b5] := hSw.2.1; have s2 : Own W (w.heap.size + 1 + 1) 62 #[.int .u32 m0, .int .u32 m1] := hSw.2.2; obtain ⟨e0, e1, e2, e3, e4, e5⟩ := own_six s1; go_simp; try with_reducible rfl)
        simp only [Act.put, List.getElem_toArray, List.getElem_cons_zero, List.getElem_cons_succ, List.setIfInBounds_toArray, List.set_cons_zero, List.set_cons_succ]
        refine wpAnyH_take (i := 7) (v := ?_) rfl (by kernel_rfl) (by kernel_rfl) (by kernel_rfl) (fun _ _ _ h => h) (Or.inl ⟨by rfl, ?_⟩) (by assumption) ?_
        rotate_left
        · (intro W hSw; skip; go_simp; try with_reducible rfl)
        simp only [Act.put, List.getElem_toArray, List.getElem_cons_zero, List.getElem_cons_succ, List.setIfInBounds_toArray, List.set_cons_zero, List.set_cons_succ]
        refine wpAnyH_take (i := 8) (v := ?_) rfl (by kernel_rfl) (by kernel_rfl) (by kernel_rfl) (fun _ _ _ h => h) (Or.inl ⟨by rfl, ?_⟩) (by assumption) ?_
        rotate_left
        · (intro W hSw; have s0 : Own W w.heap.size 23 #[.bool a0, .bool a1, .bool a2, .bool a3, .bool a4, .bool a5] := hSw.1; have s1 : Own W (w.heap.size + 1) 23 #[.bool b0, .bool b1, .bool b2, .bool b3, .bool b4, .bool b5] := hSw.2.1; have s2 : Own W (w.heap.size + 1 + 1) 62 #[.int .u32 m0, .int .u32 m1] := hSw.2.2; obtain ⟨e0, e1⟩ := own_twoF s2; go_simp; try with_reducible rfl)
        simp only [Act.put, List.getElem_toArray, List.getElem_cons_zero, List.getElem_cons_succ, List.setIfInBounds_toArray, List.set_cons_zero, List.set_cons_succ]
        refine wpAnyH_take (i := 9) (v := ?_) rfl (by kernel_rfl) (by kernel_rfl) (by kernel_rfl) (fun _ _ _ h => h) (Or.inl ⟨by rfl, ?_⟩) (by assumption) ?_
        rotate_left
        · (intro W hSw; skip; go_simp; try with_reducible rfl)
        simp only [Act.put, List.getElem_toArray, List.getElem_cons_zero, List.getElem_cons_succ, List.setIfInBounds_toArray, List.set_cons_zero, List.set_cons_succ]
        refine wpAnyH_take (i := 10) (v := ?_) rfl (by kernel_rfl) (by kernel_rfl) (by kernel_rfl) (fun _ _ _ h => h) (Or.inl ⟨by rfl, ?_⟩) (by assumption) ?_
        rotate_left
        · (intro W hSw; skip; go_simp; try with_reducible rfl)
        simp only [Act.put, List.getElem_toArray, List.getElem_cons_zero, List.getElem_cons_succ, List.setIfInBounds_toArray, List.set_cons_zero, List.set_cons_succ]
        generalize hP1 : IntKind.u32.wrap (1 + m0.tmod 60000) = P1 at *
        generalize hP2 : IntKind.u32.wrap (1 + m1.tmod 60000) = P2 at *
        have hR1 : 0 ≤ P1 ∧ P1 < 4294967296 := hP1 ▸ u32_wrap_rng _
        have hR2 : 0 ≤ P2 ∧ P2 < 4294967296 := hP2 ▸ u32_wrap_rng _
        clear hP1 hP2
        refine wpAnyH_ready (rs := [5, 12, 13]) (by kernel_rfl) (by simp) ?_
        refine (AllReadyH.cons rfl (fun K hK => ?_) (AllReadyH.cons rfl (fun K hK => ?_) (AllReadyH.cons rfl (fun K hK => ?_) AllReadyH.nil)))
        · go_simp
          go_at_call 35
          refine (hMa.out P1 Y0 (bl_trans hb2 bb0) hR1.1 hR1.2).mono ?_
          rintro e W1 ⟨A1, c1, L1, rfl, hk1, hs1, hC1_1, hx1⟩
          have oA1 := oA0.step hx1
          have oB1 := oB0.step hx1
          have oC1 := oC0.step hx1
          have bb1 := bl_trans bb0 hx1
          refine hK.out _ _ ⟨oA1, oB1, oC1⟩ (fun hHeld2 => ?_)
          clear hK K hHeld
          have hHeld := hHeld2
          clear hHeld2
          try simp only [Act.put, List.getElem_toArray, List.getElem_cons_zero, List.getElem_cons_succ, List.setIfInBounds_toArray, List.set_cons_zero, List.set_cons_succ]
          refine wpAnyH_ready (rs := [11, 12, 13]) (by kernel_rfl) (by simp) ?_
          refine (AllReadyH.cons rfl (fun K hK => ?_) (AllReadyH.cons rfl (fun K hK => ?_) (AllReadyH.cons rfl (fun K hK => ?_) AllReadyH.nil)))
          · go_simp
            go_at_call 35
            refine (hMb.out P2 W1 (bl_trans hb2 bb1) hR2.1 hR2.2).mono ?_
            rintro e W2 ⟨A3, c3, L3, rfl, hk3, hs3, hC3_2, hx2⟩
            have oA2 := oA1.step hx2
            have oB2 := oB1.step hx2
            have oC2 := oC1.step hx2
            have hC1_2 := hC1_1.step hx2
            have bb2 := bl_trans bb1 hx2
            refine hK.out _ _ ⟨oA2, oB2, oC2⟩ (fun hHeld2 => ?_)
            clear hK K hHeld
            have hHeld := hHeld2
            clear hHeld2
            try simp only [Act.put, List.getElem_toArray, List.getElem_cons_zero, List.getElem_cons_succ, List.setIfInBounds_toArray, List.set_cons_zero, List.set_cons_succ]
            refine wpAnyH_ready (rs := [12, 13]) (by kernel_rfl) (by simp) ?_
            refine (AllReadyH.cons rfl (fun K hK => ?_) (AllReadyH.cons rfl (fun K hK => ?_) AllReadyH.nil))
            · go_simp
              have hx3 := bl_alloc (bl_refl W2) (.cells #[.int .u32 0, .int .i64 0, .int .u32 0, .slice none 0 0] 47)
              have o4_3 := Own.new W2 47 #[.int .u32 0, .int .i64 0, .int .u32 0, .slice none 0 0]
              have hlo3 := bb2.size
              have hloA3 := oA2.lt
              have hloB3 := oB2.lt
              have hloC3 := oC2.lt
              have oA3 := oA2.step hx3
              have oB3 := oB2.step hx3
              have oC3 := oC2.step hx3
              have hC1_3 := hC1_2.step hx3
              have hC3_3 := hC3_2.step hx3
              have bb3 := bl_trans bb2 hx3
              generalize hgx3 : (W2.alloc (.cells #[.int .u32 0, .int .i64 0, .int .u32 0, .slice none 0 0] 47)) = W3 at *
              clear hgx3
              refine hK.out _ _ ⟨oA3, oB3, oC3⟩ (fun hHeld2 => ?_)
              clear hK K hHeld
              have hHeld := hHeld2
              clear hHeld2
              try simp only [Act.put, List.getElem_toArray, List.getElem_cons_zero, List.getElem_cons_succ, List.setIfInBounds_toArray, List.set_cons_zero, List.set_cons_succ]
              refine wpAnyH_ready (rs := [13]) (by kernel_rfl) (by simp) ?_
              refine (AllReadyH.cons rfl (fun K hK => ?_) AllReadyH.nil)
              go_simp
              have hx4 := bl_alloc (bl_refl W3) (.cells #[.int .u32 0, .int .i64 0, .int .u32 0, .slice none 0 0] 47)
              have o5_4 := Own.new W3 47 #[.int .u32 0, .int .i64 0, .int .u32 0, .slice none 0 0]
              have hne4 : W2.heap.size ≠ W3.heap.size := by have := o4_3.lt; omega
              have hlo4 := bb3.size
              have hloA4 := oA3.lt
              have hloB4 := oB3.lt
              have hloC4 := oC3.lt
              have oA4 := oA3.step hx4
              have oB4 := oB3.step hx4
              have oC4 := oC3.step hx4
              have hC1_4 := hC1_3.step hx4
              have hC3_4 := hC3_3.step hx4
              have o4_4 := o4_3.step hx4
              have bb4 := bl_trans bb3 hx4
              generalize hgx4 : (W3.alloc (.cells #[.int .u32 0, .int .i64 0, .int .u32 0, .slice none 0 0] 47)) = W4 at *
              clear hgx4
              refine hK.out _ _ ⟨oA4, oB4, oC4⟩ (fun hHeld2 => ?_)
              clear hK K hHeld
              have hHeld := hHeld2
              clear hHeld2
              try simp only [Act.put, List.getElem_toArray, List.getElem_cons_zero, List.getElem_cons_succ, List.setIfInBounds_toArray, List.set_cons_zero, List.set_cons_succ]
              refine wpAnyH_ready (rs := [14]) (by kernel_rfl) (by simp) ?_
              refine (AllReadyH.cons rfl (fun K hK => ?_) AllReadyH.nil)
              have z0 := o4_4.frozen 0
              have z1 := o4_4.frozen 1
              have z2 := o4_4.frozen 2
              have z3 := o4_4.frozen 3
              obtain ⟨y0, y1, y2, y3⟩ := own_end o4_4
              go_simp
              rw [show ((((W4.setCell ⟨W2.heap.size, 0, none⟩ (.int .u32 P1)).setCell ⟨W2.heap.size, 1, none⟩ (.int .i64 90)).setCell ⟨W2.heap.size, 2, none⟩ (.int .u32 1)).setCell ⟨W2.heap.size, 3, none⟩ (.slice A1 (List.length L1) c1)) = sets4 W4 (W2.heap.size) (.int .u32 P1) (.int .i64 90) (.int .u32 1) (.slice A1 (List.length L1) c1) from rfl]
              have qs1_4 := sets4_own (a := .int .u32 P1) (b := .int .i64 90) (c := .int .u32 1) (d := .slice A1 (List.length L1) c1) o4_4
              have rs1_4 := sets4_far (g := W2.heap.size) (a := .int .u32 P1) (b := .int .i64 90) (c := .int .u32 1) (d := .slice A1 (List.length L1) c1) o5_4 (by omega)
              have oAs1_4 := sets4_far (g := W2.heap.size) (a := .int .u32 P1) (b := .int .i64 90) (c := .int .u32 1) (d := .slice A1 (List.length L1) c1) oA4 (by omega)
              have oBs1_4 := sets4_far (g := W2.heap.size) (a := .int .u32 P1) (b := .int .i64 90) (c := .int .u32 1) (d := .slice A1 (List.length L1) c1) oB4 (by omega)
              have oCs1_4 := sets4_far (g := W2.heap.size) (a := .int .u32 P1) (b := .int .i64 90) (c := .int .u32 1) (d := .slice A1 (List.length L1) c1) oC4 (by omega)
              have bbs1_4 := sets4_below (g := W2.heap.size) (a := .int .u32 P1) (b := .int .i64 90) (c := .int .u32 1) (d := .slice A1 (List.length L1) c1) bb4 (by omega)
              have hC1_s1_4 := sets4_caps (w := W4) (p := P1) (q := 90) (r := 1) (v := .slice A1 (List.length L1) c1) hC1_4 o4_4
              have hC3_s1_4 := sets4_caps (w := W4) (p := P1) (q := 90) (r := 1) (v := .slice A1 (List.length L1) c1) hC3_4 o4_4
              clear z0 y0 z1 y1 z2 y2 z3 y3 o4_4
              generalize hges1_4 : sets4 W4 (W2.heap.size) (.int .u32 P1) (.int .i64 90) (.int .u32 1) (.slice A1 (List.length L1) c1) = V4 at *
              clear hges1_4
              refine hK.out _ _ ⟨oAs1_4, oBs1_4, oCs1_4⟩ (fun hHeld2 => ?_)
              clear hK K hHeld
              have hHeld := hHeld2
              clear hHeld2
              try simp only [Act.put, List.getElem_toArray, List.getElem_cons_zero, List.getElem_cons_succ, List.setIfInBounds_toArray, List.set_cons_zero, List.set_cons_succ]
              have o5z4 := rs1_4
              refine wpAnyH_ready (rs := [15]) (by kernel_rfl) (by simp) ?_
              refine (AllReadyH.cons rfl (fun K hK => ?_) AllReadyH.nil)
              have z0 := o5z4.frozen 0
              have z1 := o5z4.frozen 1
              have z2 := o5z4.frozen 2
              have z3 := o5z4.frozen 3
              obtain ⟨y0, y1, y2, y3⟩ := own_end o5z4
              go_simp
              rw [show ((((V4.setCell ⟨W3.heap.size, 0, none⟩ (.int .u32 P2)).setCell ⟨W3.heap.size, 1, none⟩ (.int .i64 0)).setCell ⟨W3.heap.size, 2, none⟩ (.int .u32 2)).setCell ⟨W3.heap.size, 3, none⟩ (.slice A3 (List.length L3) c3)) = sets4 V4 (W3.heap.size) (.int .u32 P2) (.int .i64 0) (.int .u32 2) (.slice A3 (List.length L3) c3) from rfl]
              have qs2_4 := sets4_own (a := .int .u32 P2) (b := .int .i64 0) (c := .int .u32 2) (d := .slice A3 (List.length L3) c3) o5z4
              have rs2_4 := sets4_far (g := W3.heap.size) (a := .int .u32 P2) (b := .int .i64 0) (c := .int .u32 2) (d := .slice A3 (List.length L3) c3) qs1_4 (by omega)
              have oAs2_4 := sets4_far (g := W3.heap.size) (a := .int .u32 P2) (b := .int .i64 0) (c := .int .u32 2) (d := .slice A3 (List.length L3) c3) oAs1_4 (by omega)
              have oBs2_4 := sets4_far (g := W3.heap.size) (a := .int .u32 P2) (b := .int .i64 0) (c := .int .u32 2) (d := .slice A3 (List.length L3) c3) oBs1_4 (by omega)
              have oCs2_4 := sets4_far (g := W3.heap.size) (a := .int .u32 P2) (b := .int .i64 0) (c := .int .u32 2) (d := .slice A3 (List.length L3) c3) oCs1_4 (by omega)
              have bbs2_4 := sets4_below (g := W3.heap.size) (a := .int .u32 P2) (b := .int .i64 0) (c := .int .u32 2) (d := .slice A3 (List.length L3) c3) bbs1_4 (by omega)
              have hC1_s2_4 := sets4_caps (w := V4) (p := P2) (q := 0) (r := 2) (v := .slice A3 (List.length L3) c3) hC1_s1_4 o5z4
              have hC3_s2_4 := sets4_caps (w := V4) (p := P2) (q := 0) (r := 2) (v := .slice A3 (List.length L3) c3) hC3_s1_4 o5z4
              clear z0 y0 z1 y1 z2 y2 z3 y3 o5z4
              generalize hges2_4 : sets4 V4 (W3.heap.size) (.int .u32 P2) (.int .i64 0) (.int .u32 2) (.slice A3 (List.length L3) c3) = U4 at *
              clear hges2_4
              refine hK.out _ _ ⟨oAs2_4, oBs2_4, oCs2_4⟩ (fun hHeld2 => ?_)
              clear hK K hHeld
              have hHeld := hHeld2
              clear hHeld2
              try simp only [Act.put, List.getElem_toArray, List.getElem_cons_zero, List.getElem_cons_succ, List.setIfInBounds_toArray, List.set_cons_zero, List.set_cons_succ]
              refine wpAnyH_done (by kernel_rfl) ?_ _
              try refine NoPanic.normal ?_
              go_wp2_with fail
              go_meet
              exact ⟨W2.heap.size, W3.heap.size, P1, P2, A1, c1, L1, A3, c3, L3, rfl, rfl, rs2_4, qs2_4, ⟨hk1, hk3⟩, hs1, hs3, hC1_s2_4, hC3_s2_4, bbs2_4⟩
            · go_simp
              have hx5 := bl_alloc (bl_refl W2) (.cells #[.int .u32 0, .int .i64 0, .int .u32 0, .slice none 0 0] 47)
              have o5_5 := Own.new W2 47 #[.int .u32 0, .int .i64 0, .int .u32 0, .slice none 0 0]
              have hlo5 := bb2.size
              have hloA5 := oA2.lt
              have hloB5 := oB2.lt
              have hloC5 := oC2.lt
              have oA5 := oA2.step hx5
              have oB5 := oB2.step hx5
              have oC5 := oC2.step hx5
              have hC1_5 := hC1_2.step hx5
              have hC3_5 := hC3_2.step hx5
              have bb5 := bl_trans bb2 hx5
              generalize hgx5 : (W2.alloc (.cells #[.int .u32 0, .int .i64 0, .int .u32 0, .slice none 0 0] 47)) = W5 at *
              clear hgx5
              refine hK.out _ _ ⟨oA5, oB5, oC5⟩ (fun hHeld2 => ?_)
              clear hK K hHeld
              have hHeld := hHeld2
              clear hHeld2
              try simp only [Act.put, List.getElem_toArray, List.getElem_cons_zero, List.getElem_cons_succ, List.setIfInBounds_toArray, List.set_cons_zero, List.set_cons_succ]
              refine wpAnyH_ready (rs := [12]) (by kernel_rfl) (by simp) ?_
              refine (AllReadyH.cons rfl (fun K hK => ?_) AllReadyH.nil)
              go_simp
              have hx6 := bl_alloc (bl_refl W5) (.cells #[.int .u32 0, .int .i64 0, .int .u32 0, .slice none 0 0] 47)
              have o4_6 := Own.new W5 47 #[.int .u32 0, .int .i64 0, .int .u32 0, .slice none 0 0]
              have hne6 : W2.heap.size ≠ W5.heap.size := by have := o5_5.lt; omega
              have hlo6 := bb5.size
              have hloA6 := oA5.lt
              have hloB6 := oB5.lt
              have hloC6 := oC5.lt
              have oA6 := oA5.step hx6
              have oB6 := oB5.step hx6
              have oC6 := oC5.step hx6
              have hC1_6 := hC1_5.step hx6
              have hC3_6 := hC3_5.step hx6
              have o5_6 := o5_5.step hx6
              have bb6 := bl_trans bb5 hx6
              generalize hgx6 : (W5.alloc (.cells #[.int .u32 0, .int .i64 0, .int .u32 0, .slice none 0 0] 47)) = W6 at *
              clear hgx6
              refine hK.out _ _ ⟨oA6, oB6, oC6⟩ (fun hHeld2 => ?_)
              clear hK K hHeld
              have hHeld := hHeld2
              clear hHeld2
              try simp only [Act.put, List.getElem_toArray, List.getElem_cons_zero, List.getElem_cons_succ, List.setIfInBounds_toArray, List.set_cons_zero, List.set_cons_succ]
              refine wpAnyH_ready (rs := [14]) (by kernel_rfl) (by simp) ?_
              refine (AllReadyH.cons rfl (fun K hK => ?_) AllReadyH.nil)
              have z0 := o4_6.frozen 0
              have z1 := o4_6.frozen 1
              have z2 := o4_6.frozen 2
              have z3 := o4_6.frozen 3
              obtain ⟨y0, y1, y2, y3⟩ := own_end o4_6
              go_simp
              rw [show ((((W6.setCell ⟨W5.heap.size, 0, none⟩ (.int .u32 P1)).setCell ⟨W5.heap.size, 1, none⟩ (.int .i64 90)).setCell ⟨W5.heap.size, 2, none⟩ (.int .u32 1)).setCell ⟨W5.heap.size, 3, none⟩ (.slice A1 (List.length L1) c1)) = sets4 W6 (W5.heap.size) (.int .u32 P1) (.int .i64 90) (.int .u32 1) (.slice A1 (List.length L1) c1) from rfl]
              have qs1_6 := sets4_own (a := .int .u32 P1) (b := .int .i64 90) (c := .int .u32 1) (d := .slice A1 (List.length L1) c1) o4_6
              have rs1_6 := sets4_far (g := W5.heap.size) (a := .int .u32 P1) (b := .int .i64 90) (c := .int .u32 1) (d := .slice A1 (List.length L1) c1) o5_6 (by omega)
              have oAs1_6 := sets4_far (g := W5.heap.size) (a := .int .u32 P1) (b := .int .i64 90) (c := .int .u32 1) (d := .slice A1 (List.length L1) c1) oA6 (by omega)
              have oBs1_6 := sets4_far (g := W5.heap.size) (a := .int .u32 P1) (b := .int .i64 90) (c := .int .u32 1) (d := .slice A1 (List.length L1) c1) oB6 (by omega)
              have oCs1_6 := sets4_far (g := W5.heap.size) (a := .int .u32 P1) (b := .int .i64 90) (c := .int .u32 1) (d := .slice A1 (List.length L1) c1) oC6 (by omega)
              have bbs1_6 := sets4_below (g := W5.heap.size) (a := .int .u32 P1) (b := .int .i64 90) (c := .int .u32 1) (d := .slice A1 (List.length L1) c1) bb6 (by omega)
              have hC1_s1_6 := sets4_caps (w := W6) (p := P1) (q := 90) (r := 1) (v := .slice A1 (List.length L1) c1) hC1_6 o4_6
              have hC3_s1_6 := sets4_caps (w := W6) (p := P1) (q := 90) (r := 1) (v := .slice A1 (List.length L1) c1) hC3_6 o4_6
              clear z0 y0 z1 y1 z2 y2 z3 y3 o4_6
              generalize hges1_6 : sets4 W6 (W5.heap.size) (.int .u32 P1) (.int .i64 90) (.int .u32 1) (.slice A1 (List.length L1) c1) = V6 at *
              clear hges1_6
              refine hK.out _ _ ⟨oAs1_6, oBs1_6, oCs1_6⟩ (fun hHeld2 => ?_)
              clear hK K hHeld
              have hHeld := hHeld2
              clear hHeld2
              try simp only [Act.put, List.getElem_toArray, List.getElem_cons_zero, List.getElem_cons_succ, List.setIfInBounds_toArray, List.set_cons_zero, List.set_cons_succ]
              have o5z6 := rs1_6
              refine wpAnyH_ready (rs := [15]) (by kernel_rfl) (by simp) ?_
              refine (AllReadyH.cons rfl (fun K hK => ?_) AllReadyH.nil)
              have z0 := o5z6.frozen 0
              have z1 := o5z6.frozen 1
              have z2 := o5z6.frozen 2
              have z3 := o5z6.frozen 3
              obtain ⟨y0, y1, y2, y3⟩ := own_end o5z6
              go_simp
              rw [show ((((V6.setCell ⟨W2.heap.size, 0, none⟩ (.int .u32 P2)).setCell ⟨W2.heap.size, 1, none⟩ (.int .i64 0)).setCell ⟨W2.heap.size, 2, none⟩ (.int .u32 2)).setCell ⟨W2.heap.size, 3, none⟩ (.slice A3 (List.length L3) c3)) = sets4 V6 (W2.heap.size) (.int .u32 P2) (.int .i64 0) (.int .u32 2) (.slice A3 (List.length L3) c3) from rfl]
              have qs2_6 := sets4_own (a := .int .u32 P2) (b := .int .i64 0) (c := .int .u32 2) (d := .slice A3 (List.length L3) c3) o5z6
              have rs2_6 := sets4_far (g := W2.heap.size) (a := .int .u32 P2) (b := .int .i64 0) (c := .int .u32 2) (d := .slice A3 (List.length L3) c3) qs1_6 (by omega)
              have oAs2_6 := sets4_far (g := W2.heap.size) (a := .int .u32 P2) (b := .int .i64 0) (c := .int .u32 2) (d := .slice A3 (List.length L3) c3) oAs1_6 (by omega)
              have oBs2_6 := sets4_far (g := W2.heap.size) (a := .int .u32 P2) (b := .int .i64 0) (c := .int .u32 2) (d := .slice A3 (List.length L3) c3) oBs1_6 (by omega)
              have oCs2_6 := sets4_far (g := W2.heap.size) (a := .int .u32 P2) (b := .int .i64 0) (c := .int .u32 2) (d := .slice A3 (List.length L3) c3) oCs1_6 (by omega)
              have bbs2_6 := sets4_below (g := W2.heap.size) (a := .int .u32 P2) (b := .int .i64 0) (c := .int .u32 2) (d := .slice A3 (List.length L3) c3) bbs1_6 (by omega)
              have hC1_s2_6 := sets4_caps (w := V6) (p := P2) (q := 0) (r := 2) (v := .slice A3 (List.length L3) c3) hC1_s1_6 o5z6
              have hC3_s2_6 := sets4_caps (w := V6) (p := P2) (q := 0) (r := 2) (v := .slice A3 (List.length L3) c3) hC3_s1_6 o5z6
              clear z0 y0 z1 y1 z2 y2 z3 y3 o5z6
              generalize hges2_6 : sets4 V6 (W2.heap.size) (.int .u32 P2) (.int .i64 0) (.int .u32 2) (.slice A3 (List.length L3) c3) = U6 at *
              clear hges2_6
              refine hK.out _ _ ⟨oAs2_6, oBs2_6, oCs2_6⟩ (fun hHeld2 => ?_)
              clear hK K hHeld
              have hHeld := hHeld2
              clear hHeld2
              try simp only [Act.put, List.getElem_toArray, List.getElem_cons_zero, List.getElem_cons_succ, List.setIfInBounds_toArray, List.set_cons_zero, List.set_cons_succ]
              refine wpAnyH_done (by kernel_rfl) ?_ _
              try refine NoPanic.normal ?_
              go_wp2_with fail
              go_meet
              exact ⟨W5.heap.size, W2.heap.size, P1, P2, A1, c1, L1, A3, c3, L3, rfl, rfl, rs2_6, qs2_6, ⟨hk1, hk3⟩, hs1, hs3, hC1_s2_6, hC3_s2_6, bbs2_6⟩
          · go_simp
            have hx7 := bl_alloc (bl_refl W1) (.cells #[.int .u32 0, .int .i64 0, .int .u32 0, .slice none 0 0] 47)
            have o4_7 := Own.new W1 47 #[.int .u32 0, .int .i64 0, .int .u32 0, .slice none 0 0]
            have hlo7 := bb1.size
            have hloA7 := oA1.lt
            have hloB7 := oB1.lt
            have hloC7 := oC1.lt
            have oA7 := oA1.step hx7
            have oB7 := oB1.step hx7
            have oC7 := oC1.step hx7
            have hC1_7 := hC1_1.step hx7
            have bb7 := bl_trans bb1 hx7
            generalize hgx7 : (W1.alloc (.cells #[.int .u32 0, .int .i64 0, .int .u32 0, .slice none 0 0] 47)) = W7 at *
            clear hgx7
            refine hK.out _ _ ⟨oA7, oB7, oC7⟩ (fun hHeld2 => ?_)
            clear hK K hHeld
            have hHeld := hHeld2
            clear hHeld2
            try simp only [Act.put, List.getElem_toArray, List.getElem_cons_zero, List.getElem_cons_succ, List.setIfInBounds_toArray, List.set_cons_zero, List.set_cons_succ]
            refine wpAnyH_ready (rs := [11, 13]) (by kernel_rfl) (by simp) ?_
            refine (AllReadyH.cons rfl (fun K hK => ?_) (AllReadyH.cons rfl (fun K hK => ?_) AllReadyH.nil))
            · go_simp
              go_at_call 35
              refine (hMb.out P2 W7 (bl_trans hb2 bb7) hR2.1 hR2.2).mono ?_
              rintro e W8 ⟨A3, c3, L3, rfl, hk3, hs3, hC3_8, hx8⟩
              have oA8 := oA7.step hx8
              have oB8 := oB7.step hx8
              have oC8 := oC7.step hx8
              have hC1_8 := hC1_7.step hx8
              have o4_8 := o4_7.step hx8
              have bb8 := bl_trans bb7 hx8
              refine hK.out _ _ ⟨oA8, oB8, oC8⟩ (fun hHeld2 => ?_)
              clear hK K hHeld
              have hHeld := hHeld2
              clear hHeld2
              try simp only [Act.put, List.getElem_toArray, List.getElem_cons_zero, List.getElem_cons_succ, List.setIfInBounds_toArray, List.set_cons_zero, List.set_cons_succ]
              refine wpAnyH_ready (rs := [13]) (by kernel_rfl) (by simp) ?_
              refine (AllReadyH.cons rfl (fun K hK => ?_) AllReadyH.nil)
              go_simp
              have hx9 := bl_alloc (bl_refl W8) (.cells #[.int .u32 0, .int .i64 0, .int .u32 0, .slice none 0 0] 47)
              have o5_9 := Own.new W8 47 #[.int .u32 0, .int .i64 0, .int .u32 0, .slice none 0 0]
              have hne9 : W1.heap.size ≠ W8.heap.size := by have := o4_8.lt; omega
              have hlo9 := bb8.size
              have hloA9 := oA8.lt
              have hloB9 := oB8.lt
              have hloC9 := oC8.lt
              have oA9 := oA8.step hx9
              have oB9 := oB8.step hx9
              have oC9 := oC8.step hx9
              have hC1_9 := hC1_8.step hx9
              have hC3_9 := hC3_8.step hx9
              have o4_9 := o4_8.step hx9
              have bb9 := bl_trans bb8 hx9
              generalize hgx9 : (W8.alloc (.cells #[.int .u32 0, .int .i64 0, .int .u32 0, .slice none 0 0] 47)) = W9 at *
              clear hgx9
              refine hK.out _ _ ⟨oA9, oB9, oC9⟩ (fun hHeld2 => ?_)
              clear hK K hHeld
              have hHeld := hHeld2
              clear hHeld2
              try simp only [Act.put, List.getElem_toArray, List.getElem_cons_zero, List.getElem_cons_succ, List.setIfInBounds_toArray, List.set_cons_zero, List.set_cons_succ]
              refine wpAnyH_ready (rs := [14]) (by kernel_rfl) (by simp) ?_
              refine (AllReadyH.cons rfl (fun K hK => ?_) AllReadyH.nil)
              have z0 := o4_9.frozen 0
              have z1 := o4_9.frozen 1
              have z2 := o4_9.frozen 2
              have z3 := o4_9.frozen 3
              obtain ⟨y0, y1, y2, y3⟩ := own_end o4_9
              go_simp
              rw [show ((((W9.setCell ⟨W1.heap.size, 0, none⟩ (.int .u32 P1)).setCell ⟨W1.heap.size, 1, none⟩ (.int .i64 90)).setCell ⟨W1.heap.size, 2, none⟩ (.int .u32 1)).setCell ⟨W1.heap.size, 3, none⟩ (.slice A1 (List.length L1) c1)) = sets4 W9 (W1.heap.size) (.int .u32 P1) (.int .i64 90) (.int .u32 1) (.slice A1 (List.length L1) c1) from rfl]
              have qs1_9 := sets4_own (a := .int .u32 P1) (b := .int .i64 90) (c := .int .u32 1) (d := .slice A1 (List.length L1) c1) o4_9
              have rs1_9 := sets4_far (g := W1.heap.size) (a := .int .u32 P1) (b := .int .i64 90) (c := .int .u32 1) (d := .slice A1 (List.length L1) c1) o5_9 (by omega)
              have oAs1_9 := sets4_far (g := W1.heap.size) (a := .int .u32 P1) (b := .int .i64 90) (c := .int .u32 1) (d := .slice A1 (List.length L1) c1) oA9 (by omega)
              have oBs1_9 := sets4_far (g := W1.heap.size) (a := .int .u32 P1) (b := .int .i64 90) (c := .int .u32 1) (d := .slice A1 (List.length L1) c1) oB9 (by omega)
              have oCs1_9 := sets4_far (g := W1.heap.size) (a := .int .u32 P1) (b := .int .i64 90) (c := .int .u32 1) (d := .slice A1 (List.length L1) c1) oC9 (by omega)
              have bbs1_9 := sets4_below (g := W1.heap.size) (a := .int .u32 P1) (b := .int .i64 90) (c := .int .u32 1) (d := .slice A1 (List.length L1) c1) bb9 (by omega)
              have hC1_s1_9 := sets4_caps (w := W9) (p := P1) (q := 90) (r := 1) (v := .slice A1 (List.length L1) c1) hC1_9 o4_9
              have hC3_s1_9 := sets4_caps (w := W9) (p := P1) (q := 90) (r := 1) (v := .slice A1 (List.length L1) c1) hC3_9 o4_9
              clear z0 y0 z1 y1 z2 y2 z3 y3 o4_9
              generalize hges1_9 : sets4 W9 (W1.heap.size) (.int .u32 P1) (.int .i64 90) (.int .u32 1) (.slice A1 (List.length L1) c1) = V9 at *
              clear hges1_9
              refine hK.out _ _ ⟨oAs1_9, oBs1_9, oCs1_9⟩ (fun hHeld2 => ?_)
              clear hK K hHeld
              have hHeld := hHeld2
              clear hHeld2
              try simp only [Act.put, List.getElem_toArray, List.getElem_cons_zero, List.getElem_cons_succ, List.setIfInBounds_toArray, List.set_cons_zero, List.set_cons_succ]
              have o5z9 := rs1_9
              refine wpAnyH_ready (rs := [15]) (by kernel_rfl) (by simp) ?_
              refine (AllReadyH.cons rfl (fun K hK => ?_) AllReadyH.nil)
              have z0 := o5z9.frozen 0
              have z1 := o5z9.frozen 1
              have z2 := o5z9.frozen 2
              have z3 := o5z9.frozen 3
              obtain ⟨y0, y1, y2, y3⟩ := own_end o5z9
              go_simp
              rw [show ((((V9.setCell ⟨W8.heap.size, 0, none⟩ (.int .u32 P2)).setCell ⟨W8.heap.size, 1, none⟩ (.int .i64 0)).setCell ⟨W8.heap.size, 2, none⟩ (.int .u32 2)).setCell ⟨W8.heap.size, 3, none⟩ (.slice A3 (List.length L3) c3)) = sets4 V9 (W8.heap.size) (.int .u32 P2) (.int .i64 0) (.int .u32 2) (.slice A3 (List.length L3) c3) from rfl]
              have qs2_9 := sets4_own (a := .int .u32 P2) (b := .int .i64 0) (c := .int .u32 2) (d := .slice A3 (List.length L3) c3) o5z9
              have rs2_9 := sets4_far (g := W8.heap.size) (a := .int .u32 P2) (b := .int .i64 0) (c := .int .u32 2) (d := .slice A3 (List.length L3) c3) qs1_9 (by omega)
              have oAs2_9 := sets4_far (g := W8.heap.size) (a := .int .u32 P2) (b := .int .i64 0) (c := .int .u32 2) (d := .slice A3 (List.length L3) c3) oAs1_9 (by omega)
              have oBs2_9 := sets4_far (g := W8.heap.size) (a := .int .u32 P2) (b := .int .i64 0) (c := .int .u32 2) (d := .slice A3 (List.length L3) c3) oBs1_9 (by omega)
              have oCs2_9 := sets4_far (g := W8.heap.size) (a := .int .u32 P2) (b := .int .i64 0) (c := .int .u32 2) (d := .slice A3 (List.length L3) c3) oCs1_9 (by omega)
              have bbs2_9 := sets4_below (g := W8.heap.size) (a := .int .u32 P2) (b := .int .i64 0) (c := .int .u32 2) (d := .slice A3 (List.length L3) c3) bbs1_9 (by omega)
              have hC1_s2_9 := sets4_caps (w := V9) (p := P2) (q := 0) (r := 2) (v := .slice A3 (List.length L3) c3) hC1_s1_9 o5z9
              have hC3_s2_9 := sets4_caps (w := V9) (p := P2) (q := 0) (r := 2) (v := .slice A3 (List.length L3) c3) hC3_s1_9 o5z9
              clear z0 y0 z1 y1 z2 y2 z3 y3 o5z9
              generalize hges2_9 : sets4 V9 (W8.heap.size) (.int .u32 P2) (.int .i64 0) (.int .u32 2) (.slice A3 (List.length L3) c3) = U9 at *
              clear hges2_9
              refine hK.out _ _ ⟨oAs2_9, oBs2_9, oCs2_9⟩ (fun hHeld2 => ?_)
              clear hK K hHeld
              have hHeld := hHeld2
              clear hHeld2
              try simp only [Act.put, List.getElem_toArray, List.getElem_cons_zero, List.getElem_cons_succ, List.setIfInBounds_toArray, List.set_cons_zero, List.set_cons_succ]
              refine wpAnyH_done (by kernel_rfl) ?_ _
              try refine NoPanic.normal ?_
              go_wp2_with fail
              go_meet
              exact ⟨W1.heap.size, W8.heap.size, P1, P2, A1, c1, L1, A3, c3, L3, rfl, rfl, rs2_9, qs2_9, ⟨hk1, hk3⟩, hs1, hs3, hC1_s2_9, hC3_s2_9, bbs2_9⟩
            · go_simp
              have hx10 := bl_alloc (bl_refl W7) (.cells #[.int .u32 0, .int .i64 0, .int .u32 0, .slice none 0 0] 47)
              have o5_10 := Own.new W7 47 #[.int .u32 0, .int .i64 0, .int .u32 0, .slice none 0 0]
              have hne10 : W1.heap.size ≠ W7.heap.size := by have := o4_7.lt; omega
              have hlo10 := bb7.size
              have hloA10 := oA7.lt
              have hloB10 := oB7.lt
              have hloC10 := oC7.lt
              have oA10 := oA7.step hx10
              have oB10 := oB7.step hx10
              have oC10 := oC7.step hx10
              have hC1_10 := hC1_7.step hx10
              have o4_10 := o4_7.step hx10
              have bb10 := bl_trans bb7 hx10
              generalize hgx10 : (W7.alloc (.cells #[.int .u32 0, .int .i64 0, .int .u32 0, .slice none 0 0] 47)) = W10 at *
              clear hgx10
              refine hK.out _ _ ⟨oA10, oB10, oC10⟩ (fun hHeld2 => ?_)
              clear hK K hHeld
              have hHeld := hHeld2
              clear hHeld2
              try simp only [Act.put, List.getElem_toArray, List.getElem_cons_zero, List.getElem_cons_succ, List.setIfInBounds_toArray, List.set_cons_zero, List.set_cons_succ]
              refine wpAnyH_ready (rs := [11]) (by kernel_rfl) (by simp) ?_
              refine (AllReadyH.cons rfl (fun K hK => ?_) AllReadyH.nil)
              go_simp
              go_at_call 35
              refine (hMb.out P2 W10 (bl_trans hb2 bb10) hR2.1 hR2.2).mono ?_
              rintro e W11 ⟨A3, c3, L3, rfl, hk3, hs3, hC3_11, hx11⟩
              have oA11 := oA10.step hx11
              have oB11 := oB10.step hx11
              have oC11 := oC10.step hx11
              have hC1_11 := hC1_10.step hx11
              have o4_11 := o4_10.step hx11
              have o5_11 := o5_10.step hx11
              have bb11 := bl_trans bb10 hx11
              refine hK.out _ _ ⟨oA11, oB11, oC11⟩ (fun hHeld2 => ?_)
              clear hK K hHeld
              have hHeld := hHeld2
              clear hHeld2
              try simp only [Act.put, List.getElem_toArray, List.getElem_cons_zero, List.getElem_cons_succ, List.setIfInBounds_toArray, List.set_cons_zero, List.set_cons_succ]
              refine wpAnyH_ready (rs := [14]) (by kernel_rfl) (by simp) ?_
              refine (AllReadyH.cons rfl (fun K hK => ?_) AllReadyH.nil)
              have z0 := o4_11.frozen 0
              have z1 := o4_11.frozen 1
              have z2 := o4_11.frozen 2
              have z3 := o4_11.frozen 3
              obtain ⟨y0, y1, y2, y3⟩ := own_end o4_11
              go_simp
              rw [show ((((W11.setCell ⟨W1.heap.size, 0, none⟩ (.int .u32 P1)).setCell ⟨W1.heap.size, 1, none⟩ (.int .i64 90)).setCell ⟨W1.heap.size, 2, none⟩ (.int .u32 1)).setCell ⟨W1.heap.size, 3, none⟩ (.slice A1 (List.length L1) c1)) = sets4 W11 (W1.heap.size) (.int .u32 P1) (.int .i64 90) (.int .u32 1) (.slice A1 (List.length L1) c1) from rfl]
              have qs1_11 := sets4_own (a := .int .u32 P1) (b := .int .i64 90) (c := .int .u32 1) (d := .slice A1 (List.length L1) c1) o4_11
              have rs1_11 := sets4_far (g := W1.heap.size) (a := .int .u32 P1) (b := .int .i64 90) (c := .int .u32 1) (d := .slice A1 (List.length L1) c1) o5_11 (by omega)
              have oAs1_11 := sets4_far (g := W1.heap.size) (a := .int .u32 P1) (b := .int .i64 90) (c := .int .u32 1) (d := .slice A1 (List.length L1) c1) oA11 (by omega)
              have oBs1_11 := sets4_far (g := W1.heap.size) (a := .int .u32 P1) (b := .int .i64 90) (c := .int .u32 1) (d := .slice A1 (List.length L1) c1) oB11 (by omega)
              have oCs1_11 := sets4_far (g := W1.heap.size) (a := .int .u32 P1) (b := .int .i64 90) (c := .int .u32 1) (d := .slice A1 (List.length L1) c1) oC11 (by omega)
              have bbs1_11 := sets4_below (g := W1.heap.size) (a := .int .u32 P1) (b := .int .i64 90) (c := .int .u32 1) (d := .slice A1 (List.length L1) c1) bb11 (by omega)
              have hC1_s1_11 := sets4_caps (w := W11) (p := P1) (q := 90) (r := 1) (v := .slice A1 (List.length L1) c1) hC1_11 o4_11
              have hC3_s1_11 := sets4_caps (w := W11) (p := P1) (q := 90) (r := 1) (v := .slice A1 (List.length L1) c1) hC3_11 o4_11
              clear z0 y0 z1 y1 z2 y2 z3 y3 o4_11
              generalize hges1_11 : sets4 W11 (W1.heap.size) (.int .u32 P1) (.int .i64 90) (.int .u32 1) (.slice A1 (List.length L1) c1) = V11 at *
              clear hges1_11
              refine hK.out _ _ ⟨oAs1_11, oBs1_11, oCs1_11⟩ (fun hHeld2 => ?_)
              clear hK K hHeld
              have hHeld := hHeld2
              clear hHeld2
              try simp only [Act.put, List.getElem_toArray, List.getElem_cons_zero, List.getElem_cons_succ, List.setIfInBounds_toArray, List.set_cons_zero, List.set_cons_succ]
              have o5z11 := rs1_11
              refine wpAnyH_ready (rs := [15]) (by kernel_rfl) (by simp) ?_
              refine (AllReadyH.cons rfl (fun K hK => ?_) AllReadyH.nil)
              have z0 := o5z11.frozen 0
              have z1 := o5z11.frozen 1
              have z2 := o5z11.frozen 2
              have z3 := o5z11.frozen 3
              obtain ⟨y0, y1, y2, y3⟩ := own_end o5z11
              go_simp
              rw [show ((((V11.setCell ⟨W7.heap.size, 0, none⟩ (.int .u32 P2)).setCell ⟨W7.heap.size, 1, none⟩ (.int .i64 0)).setCell ⟨W7.heap.size, 2, none⟩ (.int .u32 2)).setCell ⟨W7.heap.size, 3, none⟩ (.slice A3 (List.length L3) c3)) = sets4 V11 (W7.heap.size) (.int .u32 P2) (.int .i64 0) (.int .u32 2) (.slice A3 (List.length L3) c3) from rfl]
              have qs2_11 := sets4_own (a := .int .u32 P2) (b := .int .i64 0) (c := .int .u32 2) (d := .slice A3 (List.length L3) c3) o5z11
              have rs2_11 := sets4_far (g := W7.heap.size) (a := .int .u32 P2) (b := .int .i64 0) (c := .int .u32 2) (d := .slice A3 (List.length L3) c3) qs1_11 (by omega)
              have oAs2_11 := sets4_far (g := W7.heap.size) (a := .int .u32 P2) (b := .int .i64 0) (c := .int .u32 2) (d := .slice A3 (List.length L3) c3) oAs1_11 (by omega)
              have oBs2_11 := sets4_far (g := W7.heap.size) (a := .int .u32 P2) (b := .int .i64 0) (c := .int .u32 2) (d := .slice A3 (List.length L3) c3) oBs1_11 (by omega)
              have oCs2_11 := sets4_far (g := W7.heap.size) (a := .int .u32 P2) (b := .int .i64 0) (c := .int .u32 2) (d := .slice A3 (List.length L3) c3) oCs1_11 (by omega)
              have bbs2_11 := sets4_below (g := W7.heap.size) (a := .int .u32 P2) (b := .int .i64 0) (c := .int .u32 2) (d := .slice A3 (List.length L3) c3) bbs1_11 (by omega)
              have hC1_s2_11 := sets4_caps (w := V11) (p := P2) (q := 0) (r := 2) (v := .slice A3 (List.length L3) c3) hC1_s1_11 o5z11
              have hC3_s2_11 := sets4_caps (w := V11) (p := P2) (q := 0) (r := 2) (v := .slice A3 (List.length L3) c3) hC3_s1_11 o5z11
              clear z0 y0 z1 y1 z2 y2 z3 y3 o5z11
              generalize hges2_11 : sets4 V11 (W7.heap.size) (.int .u32 P2) (.int .i64 0) (.int .u32 2) (.slice A3 (List.length L3) c3) = U11 at *
              clear hges2_11
              refine hK.out _ _ ⟨oAs2_11, oBs2_11, oCs2_11⟩ (fun hHeld2 => ?_)
              clear hK K hHeld
              have hHeld := hHeld2
              clear hHeld2
              try simp only [Act.put, List.getElem_toArray, List.getElem_cons_zero, List.getElem_cons_succ, List.setIfInBounds_toArray, List.set_cons_zero, List.set_cons_succ]
              refine wpAnyH_done (by kernel_rfl) ?_ _
              try refine NoPanic.normal ?_
              go_wp2_with fail
              go_meet
              exact ⟨W1.heap.size, W7.heap.size, P1, P2, A1, c1, L1, A3, c3, L3, rfl, rfl, rs2_11, qs2_11, ⟨hk1, hk3⟩, hs1, hs3, hC1_s2_11, hC3_s2_11, bbs2_11⟩
          · go_simp
            have hx12 := bl_alloc (bl_refl W1) (.cells #[.int .u32 0, .int .i64 0, .int .u32 0, .slice none 0 0] 47)
            have o5_12 := Own.new W1 47 #[.int .u32 0, .int .i64 0, .int .u32 0, .slice none 0 0]
            have hlo12 := bb1.size
            have hloA12 := oA1.lt
            have hloB12 := oB1.lt
            have hloC12 := oC1.lt
            have oA12 := oA1.step hx12
            have oB12 := oB1.step hx12
            have oC12 := oC1.step hx12
            have hC1_12 := hC1_1.step hx12
            have bb12 := bl_trans bb1 hx12
            generalize hgx12 : (W1.alloc (.cells #[.int .u32 0, .int .i64 0, .int .u32 0, .slice none 0 0] 47)) = W12 at *
            clear hgx12
            refine hK.out _ _ ⟨oA12, oB12, oC12⟩ (fun hHeld2 => ?_)
            clear hK K hHeld
            have hHeld := hHeld2
            clear hHeld2
            try simp only [Act.put, List.getElem_toArray, List.getElem_cons_zero, List.getElem_cons_succ, List.setIfInBounds_toArray, List.set_cons_zero, List.set_cons_succ]
            refine wpAnyH_ready (rs := [11, 12]) (by kernel_rfl) (by simp) ?_
            refine (AllReadyH.cons rfl (fun K hK => ?_) (AllReadyH.cons rfl (fun K hK => ?_) AllReadyH.nil))
            · go_simp
              go_at_call 35
              refine (hMb.out P2 W12 (bl_trans hb2 bb12) hR2.1 hR2.2).mono ?_
              rintro e W13 ⟨A3, c3, L3, rfl, hk3, hs3, hC3_13, hx13⟩
              have oA13 := oA12.step hx13
              have oB13 := oB12.step hx13
              have oC13 := oC12.step hx13
              have hC1_13 := hC1_12.step hx13
              have o5_13 := o5_12.step hx13
              have bb13 := bl_trans bb12 hx13
              refine hK.out _ _ ⟨oA13, oB13, oC13⟩ (fun hHeld2 => ?_)
              clear hK K hHeld
              have hHeld := hHeld2
              clear hHeld2
              try simp only [Act.put, List.getElem_toArray, List.getElem_cons_zero, List.getElem_cons_succ, List.setIfInBounds_toArray, List.set_cons_zero, List.set_cons_succ]
              refine wpAnyH_ready (rs := [12]) (by kernel_rfl) (by simp) ?_
              refine (AllReadyH.cons rfl (fun K hK => ?_) AllReadyH.nil)
              go_simp
              have hx14 := bl_alloc (bl_refl W13) (.cells #[.int .u32 0, .int .i64 0, .int .u32 0, .slice none 0 0] 47)
              have o4_14 := Own.new W13 47 #[.int .u32 0, .int .i64 0, .int .u32 0, .slice none 0 0]
              have hne14 : W1.heap.size ≠ W13.heap.size := by have := o5_13.lt; omega
              have hlo14 := bb13.size
              have hloA14 := oA13.lt
              have hloB14 := oB13.lt
              have hloC14 := oC13.lt
              have oA14 := oA13.step hx14
              have oB14 := oB13.step hx14
              have oC14 := oC13.step hx14
              have hC1_14 := hC1_13.step hx14
              have hC3_14 := hC3_13.step hx14
              have o5_14 := o5_13.step hx14
              have bb14 := bl_trans bb13 hx14
              generalize hgx14 : (W13.alloc (.cells #[.int .u32 0, .int .i64 0, .int .u32 0, .slice none 0 0] 47)) = W14 at *
              clear hgx14
              refine hK.out _ _ ⟨oA14, oB14, oC14⟩ (fun hHeld2 => ?_)
              clear hK K hHeld
              have hHeld := hHeld2
              clear hHeld2
              try simp only [Act.put, List.getElem_toArray, List.getElem_cons_zero, List.getElem_cons_succ, List.setIfInBounds_toArray, List.set_cons_zero, List.set_cons_succ]
              refine wpAnyH_ready (rs := [14]) (by kernel_rfl) (by simp) ?_
              refine (AllReadyH.cons rfl (fun K hK => ?_) AllReadyH.nil)
              have z0 := o4_14.frozen 0
              have z1 := o4_14.frozen 1
              have z2 := o4_14.frozen 2
              have z3 := o4_14.frozen 3
              obtain ⟨y0, y1, y2, y3⟩ := own_end o4_14
              go_simp
              rw [show ((((W14.setCell ⟨W13.heap.size, 0, none⟩ (.int .u32 P1)).setCell ⟨W13.heap.size, 1, none⟩ (.int .i64 90)).setCell ⟨W13.heap.size, 2, none⟩ (.int .u32 1)).setCell ⟨W13.heap.size, 3, none⟩ (.slice A1 (List.length L1) c1)) = sets4 W14 (W13.heap.size) (.int .u32 P1) (.int .i64 90) (.int .u32 1) (.slice A1 (List.length L1) c1) from rfl]
              have qs1_14 := sets4_own (a := .int .u32 P1) (b := .int .i64 90) (c := .int .u32 1) (d := .slice A1 (List.length L1) c1) o4_14
              have rs1_14 := sets4_far (g := W13.heap.size) (a := .int .u32 P1) (b := .int .i64 90) (c := .int .u32 1) (d := .slice A1 (List.length L1) c1) o5_14 (by omega)
              have oAs1_14 := sets4_far (g := W13.heap.size) (a := .int .u32 P1) (b := .int .i64 90) (c := .int .u32 1) (d := .slice A1 (List.length L1) c1) oA14 (by omega)
              have oBs1_14 := sets4_far (g := W13.heap.size) (a := .int .u32 P1) (b := .int .i64 90) (c := .int .u32 1) (d := .slice A1 (List.length L1) c1) oB14 (by omega)
              have oCs1_14 := sets4_far (g := W13.heap.size) (a := .int .u32 P1) (b := .int .i64 90) (c := .int .u32 1) (d := .slice A1 (List.length L1) c1) oC14 (by omega)
              have bbs1_14 := sets4_below (g := W13.heap.size) (a := .int .u32 P1) (b := .int .i64 90) (c := .int .u32 1) (d := .slice A1 (List.length L1) c1) bb14 (by omega)
              have hC1_s1_14 := sets4_caps (w := W14) (p := P1) (q := 90) (r := 1) (v := .slice A1 (List.length L1) c1) hC1_14 o4_14
              have hC3_s1_14 := sets4_caps (w := W14) (p := P1) (q := 90) (r := 1) (v := .slice A1 (List.length L1) c1) hC3_14 o4_14
              clear z0 y0 z1 y1 z2 y2 z3 y3 o4_14
              generalize hges1_14 : sets4 W14 (W13.heap.size) (.int .u32 P1) (.int .i64 90) (.int .u32 1) (.slice A1 (List.length L1) c1) = V14 at *
              clear hges1_14
              refine hK.out _ _ ⟨oAs1_14, oBs1_14, oCs1_14⟩ (fun hHeld2 => ?_)
              clear hK K hHeld
              have hHeld := hHeld2
              clear hHeld2
              try simp only [Act.put, List.getElem_toArray, List.getElem_cons_zero, List.getElem_cons_succ, List.setIfInBounds_toArray, List.set_cons_zero, List.set_cons_succ]
              have o5z14 := rs1_14
              refine wpAnyH_ready (rs := [15]) (by kernel_rfl) (by simp) ?_
              refine (AllReadyH.cons rfl (fun K hK => ?_) AllReadyH.nil)
              have z0 := o5z14.frozen 0
              have z1 := o5z14.frozen 1
              have z2 := o5z14.frozen 2
              have z3 := o5z14.frozen 3
              obtain ⟨y0, y1, y2, y3⟩ := own_end o5z14
              go_simp
              rw [show ((((V14.setCell ⟨W1.heap.size, 0, none⟩ (.int .u32 P2)).setCell ⟨W1.heap.size, 1, none⟩ (.int .i64 0)).setCell ⟨W1.heap.size, 2, none⟩ (.int .u32 2)).setCell ⟨W1.heap.size, 3, none⟩ (.slice A3 (List.length L3) c3)) = sets4 V14 (W1.heap.size) (.int .u32 P2) (.int .i64 0) (.int .u32 2) (.slice A3 (List.length L3) c3) from rfl]
              have qs2_14 := sets4_own (a := .int .u32 P2) (b := .int .i64 0) (c := .int .u32 2) (d := .slice A3 (List.length L3) c3) o5z14
              have rs2_14 := sets4_far (g := W1.heap.size) (a := .int .u32 P2) (b := .int .i64 0) (c := .int .u32 2) (d := .slice A3 (List.length L3) c3) qs1_14 (by omega)
              have oAs2_14 := sets4_far (g := W1.heap.size) (a := .int .u32 P2) (b := .int .i64 0) (c := .int .u32 2) (d := .slice A3 (List.length L3) c3) oAs1_14 (by omega)
              have oBs2_14 := sets4_far (g := W1.heap.size) (a := .int .u32 P2) (b := .int .i64 0) (c := .int .u32 2) (d := .slice A3 (List.length L3) c3) oBs1_14 (by omega)
              have oCs2_14 := sets4_far (g := W1.heap.size) (a := .int .u32 P2) (b := .int .i64 0) (c := .int .u32 2) (d := .slice A3 (List.length L3) c3) oCs1_14 (by omega)
              have bbs2_14 := sets4_below (g := W1.heap.size) (a := .int .u32 P2) (b := .int .i64 0) (c := .int .u32 2) (d := .slice A3 (List.length L3) c3) bbs1_14 (by omega)
              have hC1_s2_14 := sets4_caps (w := V14) (p := P2) (q := 0) (r := 2) (v := .slice A3 (List.length L3) c3) hC1_s1_14 o5z14
              have hC3_s2_14 := sets4_caps (w := V14) (p := P2) (q := 0) (r := 2) (v := .slice A3 (List.length L3) c3) hC3_s1_14 o5z14
              clear z0 y0 z1 y1 z2 y2 z3 y3 o5z14
              generalize hges2_14 : sets4 V14 (W1.heap.size) (.int .u32 P2) (.int .i64 0) (.int .u32 2) (.slice A3 (List.length L3) c3) = U14 at *
              clear hges2_14
              refine hK.out _ _ ⟨oAs2_14, oBs2_14, oCs2_14⟩ (fun hHeld2 => ?_)
              clear hK K hHeld
              have hHeld := hHeld2
              clear hHeld2
              try simp only [Act.put, List.getElem_toArray, List.getElem_cons_zero, List.getElem_cons_succ, List.setIfInBounds_toArray, List.set_cons_zero, List.set_cons_succ]
              refine wpAnyH_done (by kernel_rfl) ?_ _
              try refine NoPanic.normal ?_
              go_wp2_with fail
              go_meet
              exact ⟨W13.heap.size, W1.heap.size, P1, P2, A1, c1, L1, A3, c3, L3, rfl, rfl, rs2_14, qs2_14, ⟨hk1, hk3⟩, hs1, hs3, hC1_s2_14, hC3_s2_14, bbs2_14⟩
            · go_simp
              have hx15 := bl_alloc (bl_refl W12) (.cells #[.int .u32 0, .int .i64 0, .int .u32 0, .slice none 0 0] 47)
              have o4_15 := Own.new W12 47 #[.int .u32 0, .int .i64 0, .int .u32 0, .slice none 0 0]
              have hne15 : W1.heap.size ≠ W12.heap.size := by have := o5_12.lt; omega
              have hlo15 := bb12.size
              have hloA15 := oA12.lt
              have hloB15 := oB12.lt
              have hloC15 := oC12.lt
              have oA15 := oA12.step hx15
              have oB15 := oB12.step hx15
              have oC15 := oC12.step hx15
              have hC1_15 := hC1_12.step hx15
              have o5_15 := o5_12.step hx15
              have bb15 := bl_trans bb12 hx15
              generalize hgx15 : (W12.alloc (.cells #[.int .u32 0, .int .i64 0, .int .u32 0, .slice none 0 0] 47)) = W15 at *
              clear hgx15
              refine hK.out _ _ ⟨oA15, oB15, oC15⟩ (fun hHeld2 => ?_)
              clear hK K hHeld
              have hHeld := hHeld2
              clear hHeld2
              try simp only [Act.put, List.getElem_toArray, List.getElem_cons_zero, List.getElem_cons_succ, List.setIfInBounds_toArray, List.set_cons_zero, List.set_cons_succ]
              refine wpAnyH_ready (rs := [11]) (by kernel_rfl) (by simp) ?_
              refine (AllReadyH.cons rfl (fun K hK => ?_) AllReadyH.nil)
              go_simp
              go_at_call 35
              refine (hMb.out P2 W15 (bl_trans hb2 bb15) hR2.1 hR2.2).mono ?_
              rintro e W16 ⟨A3, c3, L3, rfl, hk3, hs3, hC3_16, hx16⟩
              have oA16 := oA15.step hx16
              have oB16 := oB15.step hx16
              have oC16 := oC15.step hx16
              have hC1_16 := hC1_15.step hx16
              have o4_16 := o4_15.step hx16
              have o5_16 := o5_15.step hx16
              have bb16 := bl_trans bb15 hx16
              refine hK.out _ _ ⟨oA16, oB16, oC16⟩ (fun hHeld2 => ?_)
              clear hK K hHeld
              have hHeld := hHeld2
              clear hHeld2
              try simp only [Act.put, List.getElem_toArray, List.getElem_cons_zero, List.getElem_cons_succ, List.setIfInBounds_toArray, List.set_cons_zero, List.set_cons_succ]
              refine wpAnyH_ready (rs := [14]) (by kernel_rfl) (by simp) ?_
              refine (AllReadyH.cons rfl (fun K hK => ?_) AllReadyH.nil)
              have z0 := o4_16.frozen 0
              have z1 := o4_16.frozen 1
              have z2 := o4_16.frozen 2
              have z3 := o4_16.frozen 3
              obtain ⟨y0, y1, y2, y3⟩ := own_end o4_16
              go_simp
              rw [show ((((W16.setCell ⟨W12.heap.size, 0, none⟩ (.int .u32 P1)).setCell ⟨W12.heap.size, 1, none⟩ (.int .i64 90)).setCell ⟨W12.heap.size, 2, none⟩ (.int .u32 1)).setCell ⟨W12.heap.size, 3, none⟩ (.slice A1 (List.length L1) c1)) = sets4 W16 (W12.heap.size) (.int .u32 P1) (.int .i64 90) (.int .u32 1) (.slice A1 (List.length L1) c1) from rfl]
              have qs1_16 := sets4_own (a := .int .u32 P1) (b := .int .i64 90) (c := .int .u32 1) (d := .slice A1 (List.length L1) c1) o4_16
              have rs1_16 := sets4_far (g := W12.heap.size) (a := .int .u32 P1) (b := .int .i64 90) (c := .int .u32 1) (d := .slice A1 (List.length L1) c1) o5_16 (by omega)
              have oAs1_16 := sets4_far (g := W12.heap.size) (a := .int .u32 P1) (b := .int .i64 90) (c := .int .u32 1) (d := .slice A1 (List.length L1) c1) oA16 (by omega)
              have oBs1_16 := sets4_far (g := W12.heap.size) (a := .int .u32 P1) (b := .int .i64 90) (c := .int .u32 1) (d := .slice A1 (List.length L1) c1) oB16 (by omega)
              have oCs1_16 := sets4_far (g := W12.heap.size) (a := .int .u32 P1) (b := .int .i64 90) (c := .int .u32 1) (d := .slice A1 (List.length L1) c1) oC16 (by omega)
              have bbs1_16 := sets4_below (g := W12.heap.size) (a := .int .u32 P1) (b := .int .i64 90) (c := .int .u32 1) (d := .slice A1 (List.length L1) c1) bb16 (by omega)
              have hC1_s1_16 := sets4_caps (w := W16) (p := P1) (q := 90) (r := 1) (v := .slice A1 (List.length L1) c1) hC1_16 o4_16
              have hC3_s1_16 := sets4_caps (w := W16) (p := P1) (q := 90) (r := 1) (v := .slice A1 (List.length L1) c1) hC3_16 o4_16
              clear z0 y0 z1 y1 z2 y2 z3 y3 o4_16
              generalize hges1_16 : sets4 W16 (W12.heap.size) (.int .u32 P1) (.int .i64 90) (.int .u32 1) (.slice A1 (List.length L1) c1) = V16 at *
              clear hges1_16
              refine hK.out _ _ ⟨oAs1_16, oBs1_16, oCs1_16⟩ (fun hHeld2 => ?_)
              clear hK K hHeld
              have hHeld := hHeld2
              clear hHeld2
              try simp only [Act.put, List.getElem_toArray, List.getElem_cons_zero, List.getElem_cons_succ, List.setIfInBounds_toArray, List.set_cons_zero, List.set_cons_succ]
              have o5z16 := rs1_16
              refine wpAnyH_ready (rs := [15]) (by kernel_rfl) (by simp) ?_
              refine (AllReadyH.cons rfl (fun K hK => ?_) AllReadyH.nil)
              have z0 := o5z16.frozen 0
              have z1 := o5z16.frozen 1
              have z2 := o5z16.frozen 2
              have z3 := o5z16.frozen 3
              obtain ⟨y0, y1, y2, y3⟩ := own_end o5z16
              go_simp
              rw [show ((((V16.setCell ⟨W1.heap.size, 0, none⟩ (.int .u32 P2)).setCell ⟨W1.heap.size, 1, none⟩ (.int .i64 0)).setCell ⟨W1.heap.size, 2, none⟩ (.int .u32 2)).setCell ⟨W1.heap.size, 3, none⟩ (.slice A3 (List.length L3) c3)) = sets4 V16 (W1.heap.size) (.int .u32 P2) (.int .i64 0) (.int .u32 2) (.slice A3 (List.length L3) c3) from rfl]
              have qs2_16 := sets4_own (a := .int .u32 P2) (b := .int .i64 0) (c := .int .u32 2) (d := .slice A3 (List.length L3) c3) o5z16
              have rs2_16 := sets4_far (g := W1.heap.size) (a := .int .u32 P2) (b := .int .i64 0) (c := .int .u32 2) (d := .slice A3 (List.length L3) c3) qs1_16 (by omega)
              have oAs2_16 := sets4_far (g := W1.heap.size) (a := .int .u32 P2) (b := .int .i64 0) (c := .int .u32 2) (d := .slice A3 (List.length L3) c3) oAs1_16 (by omega)
              have oBs2_16 := sets4_far (g := W1.heap.size) (a := .int .u32 P2) (b := .int .i64 0) (c := .int .u32 2) (d := .slice A3 (List.length L3) c3) oBs1_16 (by omega)
              have oCs2_16 := sets4_far (g := W1.heap.size) (a := .int .u32 P2) (b := .int .i64 0) (c := .int .u32 2) (d := .slice A3 (List.length L3) c3) oCs1_16 (by omega)
              have bbs2_16 := sets4_below (g := W1.heap.size) (a := .int .u32 P2) (b := .int .i64 0) (c := .int .u32 2) (d := .slice A3 (List.length L3) c3) bbs1_16 (by omega)
              have hC1_s2_16 := sets4_caps (w := V16) (p := P2) (q := 0) (r := 2) (v := .slice A3 (List.length L3) c3) hC1_s1_16 o5z16
              have hC3_s2_16 := sets4_caps (w := V16) (p := P2) (q := 0) (r := 2) (v := .slice A3 (List.length L3) c3) hC3_s1_16 o5z16
              clear z0 y0 z1 y1 z2 y2 z3 y3 o5z16
              generalize hges2_16 : sets4 V16 (W1.heap.size) (.int .u32 P2) (.int .i64 0) (.int .u32 2) (.slice A3 (List.length L3) c3) = U16 at *
              clear hges2_16
              refine hK.out _ _ ⟨oAs2_16, oBs2_16, oCs2_16⟩ (fun hHeld2 => ?_)
              clear hK K hHeld
              have hHeld := hHeld2
              clear hHeld2
              try simp only [Act.put, List.getElem_toArray, List.getElem_cons_zero, List.getElem_cons_succ, List.setIfInBounds_toArray, List.set_cons_zero, List.set_cons_succ]
              refine wpAnyH_done (by kernel_rfl) ?_ _
              try refine NoPanic.normal ?_
              go_wp2_with fail
              go_meet
              exact ⟨W12.heap.size, W1.heap.size, P1, P2, A1, c1, L1, A3, c3, L3, rfl, rfl, rs2_16, qs2_16, ⟨hk1, hk3⟩, hs1, hs3, hC1_s2_16, hC3_s2_16, bbs2_16⟩
        · go_simp
          have hx17 := bl_alloc (bl_refl Y0) (.cells #[.int .u32 0, .int .i64 0, .int .u32 0, .slice none 0 0] 47)
          have o4_17 := Own.new Y0 47 #[.int .u32 0, .int .i64 0, .int .u32 0, .slice none 0 0]
          have hlo17 := bb0.size
          have hloA17 := oA0.lt
          have hloB17 := oB0.lt
          have hloC17 := oC0.lt
          have oA17 := oA0.step hx17
          have oB17 := oB0.step hx17
          have oC17 := oC0.step hx17
          have bb17 := bl_trans bb0 hx17
          generalize hgx17 : (Y0.alloc (.cells #[.int .u32 0, .int .i64 0, .int .u32 0, .slice none 0 0] 47)) = W17 at *
          clear hgx17
          refine hK.out _ _ ⟨oA17, oB17, oC17⟩ (fun hHeld2 => ?_)
          clear hK K hHeld
          have hHeld := hHeld2
          clear hHeld2
          try simp only [Act.put, List.getElem_toArray, List.getElem_cons_zero, List.getElem_cons_succ, List.setIfInBounds_toArray, List.set_cons_zero, List.set_cons_succ]
          refine wpAnyH_ready (rs := [5, 13]) (by kernel_rfl) (by simp) ?_
          refine (AllReadyH.cons rfl (fun K hK => ?_) (AllReadyH.cons rfl (fun K hK => ?_) AllReadyH.nil))
          · go_simp
            go_at_call 35
            refine (hMa.out P1 W17 (bl_trans hb2 bb17) hR1.1 hR1.2).mono ?_
            rintro e W18 ⟨A1, c1, L1, rfl, hk1, hs1, hC1_18, hx18⟩
            have oA18 := oA17.step hx18
            have oB18 := oB17.step hx18
            have oC18 := oC17.step hx18
            have o4_18 := o4_17.step hx18
            have bb18 := bl_trans bb17 hx18
            refine hK.out _ _ ⟨oA18, oB18, oC18⟩ (fun hHeld2 => ?_)
            clear hK K hHeld
            have hHeld := hHeld2
            clear hHeld2
            try simp only [Act.put, List.getElem_toArray, List.getElem_cons_zero, List.getElem_cons_succ, List.setIfInBounds_toArray, List.set_cons_zero, List.set_cons_succ]
            refine wpAnyH_ready (rs := [11, 13]) (by kernel_rfl) (by simp) ?_
            refine (AllReadyH.cons rfl (fun K hK => ?_) (AllReadyH.cons rfl (fun K hK => ?_) AllReadyH.nil))
            · go_simp
              go_at_call 35
              refine (hMb.out P2 W18 (bl_trans hb2 bb18) hR2.1 hR2.2).mono ?_
              rintro e W19 ⟨A3, c3, L3, rfl, hk3, hs3, hC3_19, hx19⟩
              have oA19 := oA18.step hx19
              have oB19 := oB18.step hx19
              have oC19 := oC18.step hx19
              have hC1_19 := hC1_18.step hx19
              have o4_19 := o4_18.step hx19
              have bb19 := bl_trans bb18 hx19
              refine hK.out _ _ ⟨oA19, oB19, oC19⟩ (fun hHeld2 => ?_)
              clear hK K hHeld
              have hHeld := hHeld2
              clear hHeld2
              try simp only [Act.put, List.getElem_toArray, List.getElem_cons_zero, List.getElem_cons_succ, List.setIfInBounds_toArray, List.set_cons_zero, List.set_cons_succ]
              refine wpAnyH_ready (rs := [13]) (by kernel_rfl) (by simp) ?_
              refine (AllReadyH.cons rfl (fun K hK => ?_) AllReadyH.nil)
              go_simp
              have hx20 := bl_alloc (bl_refl W19) (.cells #[.int .u32 0, .int .i64 0, .int .u32 0, .slice none 0 0] 47)
              have o5_20 := Own.new W19 47 #[.int .u32 0, .int .i64 0, .int .u32 0, .slice none 0 0]
              have hne20 : Y0.heap.size ≠ W19.heap.size := by have := o4_19.lt; omega
              have hlo20 := bb19.size
              have hloA20 := oA19.lt
              have hloB20 := oB19.lt
              have hloC20 := oC19.lt
              have oA20 := oA19.step hx20
              have oB20 := oB19.step hx20
              have oC20 := oC19.step hx20
              have hC1_20 := hC1_19.step hx20
              have hC3_20 := hC3_19.step hx20
              have o4_20 := o4_19.step hx20
              have bb20 := bl_trans bb19 hx20
              generalize hgx20 : (W19.alloc (.cells #[.int .u32 0, .int .i64 0, .int .u32 0, .slice none 0 0] 47)) = W20 at *
              clear hgx20
              refine hK.out _ _ ⟨oA20, oB20, oC20⟩ (fun hHeld2 => ?_)
              clear hK K hHeld
              have hHeld := hHeld2
              clear hHeld2
              try simp only [Act.put, List.getElem_toArray, List.getElem_cons_zero, List.getElem_cons_succ, List.setIfInBounds_toArray, List.set_cons_zero, List.set_cons_succ]
              refine wpAnyH_ready (rs := [14]) (by kernel_rfl) (by simp) ?_
              refine (AllReadyH.cons rfl (fun K hK => ?_) AllReadyH.nil)
              have z0 := o4_20.frozen 0
              have z1 := o4_20.frozen 1
              have z2 := o4_20.frozen 2
              have z3 := o4_20.frozen 3
              obtain ⟨y0, y1, y2, y3⟩ := own_end o4_20
              go_simp
              rw [show ((((W20.setCell ⟨Y0.heap.size, 0, none⟩ (.int .u32 P1)).setCell ⟨Y0.heap.size, 1, none⟩ (.int .i64 90)).setCell ⟨Y0.heap.size, 2, none⟩ (.int .u32 1)).setCell ⟨Y0.heap.size, 3, none⟩ (.slice A1 (List.length L1) c1)) = sets4 W20 (Y0.heap.size) (.int .u32 P1) (.int .i64 90) (.int .u32 1) (.slice A1 (List.length L1) c1) from rfl]
              have qs1_20 := sets4_own (a := .int .u32 P1) (b := .int .i64 90) (c := .int .u32 1) (d := .slice A1 (List.length L1) c1) o4_20
              have rs1_20 := sets4_far (g := Y0.heap.size) (a := .int .u32 P1) (b := .int .i64 90) (c := .int .u32 1) (d := .slice A1 (List.length L1) c1) o5_20 (by omega)
              have oAs1_20 := sets4_far (g := Y0.heap.size) (a := .int .u32 P1) (b := .int .i64 90) (c := .int .u32 1) (d := .slice A1 (List.length L1) c1) oA20 (by omega)
              have oBs1_20 := sets4_far (g := Y0.heap.size) (a := .int .u32 P1) (b := .int .i64 90) (c := .int .u32 1) (d := .slice A1 (List.length L1) c1) oB20 (by omega)
              have oCs1_20 := sets4_far (g := Y0.heap.size) (a := .int .u32 P1) (b := .int .i64 90) (c := .int .u32 1) (d := .slice A1 (List.length L1) c1) oC20 (by omega)
              have bbs1_20 := sets4_below (g := Y0.heap.size) (a := .int .u32 P1) (b := .int .i64 90) (c := .int .u32 1) (d := .slice A1 (List.length L1) c1) bb20 (by omega)
              have hC1_s1_20 := sets4_caps (w := W20) (p := P1) (q := 90) (r := 1) (v := .slice A1 (List.length L1) c1) hC1_20 o4_20
              have hC3_s1_20 := sets4_caps (w := W20) (p := P1) (q := 90) (r := 1) (v := .slice A1 (List.length L1) c1) hC3_20 o4_20
              clear z0 y0 z1 y1 z2 y2 z3 y3 o4_20
              generalize hges1_20 : sets4 W20 (Y0.heap.size) (.int .u32 P1) (.int .i64 90) (.int .u32 1) (.slice A1 (List.length L1) c1) = V20 at *
              clear hges1_20
              refine hK.out _ _ ⟨oAs1_20, oBs1_20, oCs1_20⟩ (fun hHeld2 => ?_)
              clear hK K hHeld
              have hHeld := hHeld2
              clear hHeld2
              try simp only [Act.put, List.getElem_toArray, List.getElem_cons_zero, List.getElem_cons_succ, List.setIfInBounds_toArray, List.set_cons_zero, List.set_cons_succ]
              have o5z20 := rs1_20
              refine wpAnyH_ready (rs := [15]) (by kernel_rfl) (by simp) ?_
              refine (AllReadyH.cons rfl (fun K hK => ?_) AllReadyH.nil)
              have z0 := o5z20.frozen 0
              have z1 := o5z20.frozen 1
              have z2 := o5z20.frozen 2
              have z3 := o5z20.frozen 3
              obtain ⟨y0, y1, y2, y3⟩ := own_end o5z20
              go_simp
              rw [show ((((V20.setCell ⟨W19.heap.size, 0, none⟩ (.int .u32 P2)).setCell ⟨W19.heap.size, 1, none⟩ (.int .i64 0)).setCell ⟨W19.heap.size, 2, none⟩ (.int .u32 2)).setCell ⟨W19.heap.size, 3, none⟩ (.slice A3 (List.length L3) c3)) = sets4 V20 (W19.heap.size) (.int .u32 P2) (.int .i64 0) (.int .u32 2) (.slice A3 (List.length L3) c3) from rfl]
              have qs2_20 := sets4_own (a := .int .u32 P2) (b := .int .i64 0) (c := .int .u32 2) (d := .slice A3 (List.length L3) c3) o5z20
              have rs2_20 := sets4_far (g := W19.heap.size) (a := .int .u32 P2) (b := .int .i64 0) (c := .int .u32 2) (d := .slice A3 (List.length L3) c3) qs1_20 (by omega)
              have oAs2_20 := sets4_far (g := W19.heap.size) (a := .int .u32 P2) (b := .int .i64 0) (c := .int .u32 2) (d := .slice A3 (List.length L3) c3) oAs1_20 (by omega)
              have oBs2_20 := sets4_far (g := W19.heap.size) (a := .int .u32 P2) (b := .int .i64 0) (c := .int .u32 2) (d := .slice A3 (List.length L3) c3) oBs1_20 (by omega)
              have oCs2_20 := sets4_far (g := W19.heap.size) (a := .int .u32 P2) (b := .int .i64 0) (c := .int .u32 2) (d := .slice A3 (List.length L3) c3) oCs1_20 (by omega)
              have bbs2_20 := sets4_below (g := W19.heap.size) (a := .int .u32 P2) (b := .int .i64 0) (c := .int .u32 2) (d := .slice A3 (List.length L3) c3) bbs1_20 (by omega)
              have hC1_s2_20 := sets4_caps (w := V20) (p := P2) (q := 0) (r := 2) (v := .slice A3 (List.length L3) c3) hC1_s1_20 o5z20
              have hC3_s2_20 := sets4_caps (w := V20) (p := P2) (q := 0) (r := 2) (v := .slice A3 (List.length L3) c3) hC3_s1_20 o5z20
              clear z0 y0 z1 y1 z2 y2 z3 y3 o5z20
              generalize hges2_20 : sets4 V20 (W19.heap.size) (.int .u32 P2) (.int .i64 0) (.int .u32 2) (.slice A3 (List.length L3) c3) = U20 at *
              clear hges2_20
              refine hK.out _ _ ⟨oAs2_20, oBs2_20, oCs2_20⟩ (fun hHeld2 => ?_)
              clear hK K hHeld
              have hHeld := hHeld2
              clear hHeld2
              try simp only [Act.put, List.getElem_toArray, List.getElem_cons_zero, List.getElem_cons_succ, List.setIfInBounds_toArray, List.set_cons_zero, List.set_cons_succ]
              refine wpAnyH_done (by kernel_rfl) ?_ _
              try refine NoPanic.normal ?_
              go_wp2_with fail
              go_meet
              exact ⟨Y0.heap.size, W19.heap.size, P1, P2, A1, c1, L1, A3, c3, L3, rfl, rfl, rs2_20, qs2_20, ⟨hk1, hk3⟩, hs1, hs3, hC1_s2_20, hC3_s2_20, bbs2_20⟩
            · go_simp
              have hx21 := bl_alloc (bl_refl W18) (.cells #[.int .u32 0, .int .i64 0, .int .u32 0, .slice none 0 0] 47)
              have o5_21 := Own.new W18 47 #[.int .u32 0, .int .i64 0, .int .u32 0, .slice none 0 0]
              have hne21 : Y0.heap.size ≠ W18.heap.size := by have := o4_18.lt; omega
              have hlo21 := bb18.size
              have hloA21 := oA18.lt
              have hloB21 := oB18.lt
              have hloC21 := oC18.lt
              have oA21 := oA18.step hx21
              have oB21 := oB18.step hx21
              have oC21 := oC18.step hx21
              have hC1_21 := hC1_18.step hx21
              have o4_21 := o4_18.step hx21
              have bb21 := bl_trans bb18 hx21
              generalize hgx21 : (W18.alloc (.cells #[.int .u32 0, .int .i64 0, .int .u32 0, .slice none 0 0] 47)) = W21 at *
              clear hgx21
              refine hK.out _ _ ⟨oA21, oB21, oC21⟩ (fun hHeld2 => ?_)
              clear hK K hHeld
              have hHeld := hHeld2
              clear hHeld2
              try simp only [Act.put, List.getElem_toArray, List.getElem_cons_zero, List.getElem_cons_succ, List.setIfInBounds_toArray, List.set_cons_zero, List.set_cons_succ]
              refine wpAnyH_ready (rs := [11]) (by kernel_rfl) (by simp) ?_
              refine (AllReadyH.cons rfl (fun K hK => ?_) AllReadyH.nil)
              go_simp
              go_at_call 35
              refine (hMb.out P2 W21 (bl_trans hb2 bb21) hR2.1 hR2.2).mono ?_
              rintro e W22 ⟨A3, c3, L3, rfl, hk3, hs3, hC3_22, hx22⟩
              have oA22 := oA21.step hx22
              have oB22 := oB21.step hx22
              have oC22 := oC21.step hx22
              have hC1_22 := hC1_21.step hx22
              have o4_22 := o4_21.step hx22
              have o5_22 := o5_21.step hx22
              have bb22 := bl_trans bb21 hx22
              refine hK.out _ _ ⟨oA22, oB22, oC22⟩ (fun hHeld2 => ?_)
              clear hK K hHeld
              have hHeld := hHeld2
              clear hHeld2
              try simp only [Act.put, List.getElem_toArray, List.getElem_cons_zero, List.getElem_cons_succ, List.setIfInBounds_toArray, List.set_cons_zero, List.set_cons_succ]
              refine wpAnyH_ready (rs := [14]) (by kernel_rfl) (by simp) ?_
              refine (AllReadyH.cons rfl (fun K hK => ?_) AllReadyH.nil)
              have z0 := o4_22.frozen 0
              have z1 := o4_22.frozen 1
              have z2 := o4_22.frozen 2
              have z3 := o4_22.frozen 3
              obtain ⟨y0, y1, y2, y3⟩ := own_end o4_22
              go_simp
              rw [show ((((W22.setCell ⟨Y0.heap.size, 0, none⟩ (.int .u32 P1)).setCell ⟨Y0.heap.size, 1, none⟩ (.int .i64 90)).setCell ⟨Y0.heap.size, 2, none⟩ (.int .u32 1)).setCell ⟨Y0.heap.size, 3, none⟩ (.slice A1 (List.length L1) c1)) = sets4 W22 (Y0.heap.size) (.int .u32 P1) (.int .i64 90) (.int .u32 1) (.slice A1 (List.length L1) c1) from rfl]
              have qs1_22 := sets4_own (a := .int .u32 P1) (b := .int .i64 90) (c := .int .u32 1) (d := .slice A1 (List.length L1) c1) o4_22
              have rs1_22 := sets4_far (g := Y0.heap.size) (a := .int .u32 P1) (b := .int .i64 90) (c := .int .u32 1) (d := .slice A1 (List.length L1) c1) o5_22 (by omega)
              have oAs1_22 := sets4_far (g := Y0.heap.size) (a := .int .u32 P1) (b := .int .i64 90) (c := .int .u32 1) (d := .slice A1 (List.length L1) c1) oA22 (by omega)
              have oBs1_22 := sets4_far (g := Y0.heap.size) (a := .int .u32 P1) (b := .int .i64 90) (c := .int .u32 1) (d := .slice A1 (List.length L1) c1) oB22 (by omega)
              have oCs1_22 := sets4_far (g := Y0.heap.size) (a := .int .u32 P1) (b := .int .i64 90) (c := .int .u32 1) (d := .slice A1 (List.length L1) c1) oC22 (by omega)
              have bbs1_22 := sets4_below (g := Y0.heap.size) (a := .int .u32 P1) (b := .int .i64 90) (c := .int .u32 1) (d := .slice A1 (List.length L1) c1) bb22 (by omega)
              have hC1_s1_22 := sets4_caps (w := W22) (p := P1) (q := 90) (r := 1) (v := .slice A1 (List.length L1) c1) hC1_22 o4_22
              have hC3_s1_22 := sets4_caps (w := W22) (p := P1) (q := 90) (r := 1) (v := .slice A1 (List.length L1) c1) hC3_22 o4_22
              clear z0 y0 z1 y1 z2 y2 z3 y3 o4_22
              generalize hges1_22 : sets4 W22 (Y0.heap.size) (.int .u32 P1) (.int .i64 90) (.int .u32 1) (.slice A1 (List.length L1) c1) = V22 at *
              clear hges1_22
              refine hK.out _ _ ⟨oAs1_22, oBs1_22, oCs1_22⟩ (fun hHeld2 => ?_)
              clear hK K hHeld
              have hHeld := hHeld2
              clear hHeld2
              try simp only [Act.put, List.getElem_toArray, List.getElem_cons_zero, List.getElem_cons_succ, List.setIfInBounds_toArray, List.set_cons_zero, List.set_cons_succ]
              have o5z22 := rs1_22
              refine wpAnyH_ready (rs := [15]) (by kernel_rfl) (by simp) ?_
              refine (AllReadyH.cons rfl (fun K hK => ?_) AllReadyH.nil)
              have z0 := o5z22.frozen 0
              have z1 := o5z22.frozen 1
              have z2 := o5z22.frozen 2
              have z3 := o5z22.frozen 3
              obtain ⟨y0, y1, y2, y3⟩ := own_end o5z22
              go_simp
              rw [show ((((V22.setCell ⟨W18.heap.size, 0, none⟩ (.int .u32 P2)).setCell ⟨W18.heap.size, 1, none⟩ (.int .i64 0)).setCell ⟨W18.heap.size, 2, none⟩ (.int .u32 2)).setCell ⟨W18.heap.size, 3, none⟩ (.slice A3 (List.length L3) c3)) = sets4 V22 (W18.heap.size) (.int .u32 P2) (.int .i64 0) (.int .u32 2) (.slice A3 (List.length L3) c3) from rfl]
              have qs2_22 := sets4_own (a := .int .u32 P2) (b := .int .i64 0) (c := .int .u32 2) (d := .slice A3 (List.length L3) c3) o5z22
              have rs2_22 := sets4_far (g := W18.heap.size) (a := .int .u32 P2) (b := .int .i64 0) (c := .int .u32 2) (d := .slice A3 (List.length L3) c3) qs1_22 (by omega)
              have oAs2_22 := sets4_far (g := W18.heap.size) (a := .int .u32 P2) (b := .int .i64 0) (c := .int .u32 2) (d := .slice A3 (List.length L3) c3) oAs1_22 (by omega)
              have oBs2_22 := sets4_far (g := W18.heap.size) (a := .int .u32 P2) (b := .int .i64 0) (c := .int .u32 2) (d := .slice A3 (List.length L3) c3) oBs1_22 (by omega)
              have oCs2_22 := sets4_far (g := W18.heap.size) (a := .int .u32 P2) (b := .int .i64 0) (c := .int .u32 2) (d := .slice A3 (List.length L3) c3) oCs1_22 (by omega)
              have bbs2_22 := sets4_below (g := W18.heap.size) (a := .int .u32 P2) (b := .int .i64 0) (c := .int .u32 2) (d := .slice A3 (List.length L3) c3) bbs1_22 (by omega)
              have hC1_s2_22 := sets4_caps (w := V22) (p := P2) (q := 0) (r := 2) (v := .slice A3 (List.length L3) c3) hC1_s1_22 o5z22
              have hC3_s2_22 := sets4_caps (w := V22) (p := P2) (q := 0) (r := 2) (v := .slice A3 (List.length L3) c3) hC3_s1_22 o5z22
              clear z0 y0 z1 y1 z2 y2 z3 y3 o5z22
              generalize hges2_22 : sets4 V22 (W18.heap.size) (.int .u32 P2) (.int .i64 0) (.int .u32 2) (.slice A3 (List.length L3) c3) = U22 at *
              clear hges2_22
              refine hK.out _ _ ⟨oAs2_22, oBs2_22, oCs2_22⟩ (fun hHeld2 => ?_)
              clear hK K hHeld
              have hHeld := hHeld2
              clear hHeld2
              try simp only [Act.put, List.getElem_toArray, List.getElem_cons_zero, List.getElem_cons_succ, List.setIfInBounds_toArray, List.set_cons_zero, List.set_cons_succ]
              refine wpAnyH_done (by kernel_rfl) ?_ _
              try refine NoPanic.normal ?_
              go_wp2_with fail
              go_meet
              exact ⟨Y0.heap.size, W18.heap.size, P1, P2, A1, c1, L1, A3, c3, L3, rfl, rfl, rs2_22, qs2_22, ⟨hk1, hk3⟩, hs1, hs3, hC1_s2_22, hC3_s2_22, bbs2_22⟩
          · go_simp
            have hx23 := bl_alloc (bl_refl W17) (.cells #[.int .u32 0, .int .i64 0, .int .u32 0, .slice none 0 0] 47)
            have o5_23 := Own.new W17 47 #[.int .u32 0, .int .i64 0, .int .u32 0, .slice none 0 0]
            have hne23 : Y0.heap.size ≠ W17.heap.size := by have := o4_17.lt; omega
            have hlo23 := bb17.size
            have hloA23 := oA17.lt
            have hloB23 := oB17.lt
            have hloC23 := oC17.lt
            have oA23 := oA17.step hx23
            have oB23 := oB17.step hx23
            have oC23 := oC17.step hx23
            have o4_23 := o4_17.step hx23
            have bb23 := bl_trans bb17 hx23
            generalize hgx23 : (W17.alloc (.cells #[.int .u32 0, .int .i64 0, .int .u32 0, .slice none 0 0] 47)) = W23 at *
            clear hgx23
            refine hK.out _ _ ⟨oA23, oB23, oC23⟩ (fun hHeld2 => ?_)
            clear hK K hHeld
            have hHeld := hHeld2
            clear hHeld2
            try simp only [Act.put, List.getElem_toArray, List.getElem_cons_zero, List.getElem_cons_succ, List.setIfInBounds_toArray, List.set_cons_zero, List.set_cons_succ]
            refine wpAnyH_ready (rs := [5]) (by kernel_rfl) (by simp) ?_
            refine (AllReadyH.cons rfl (fun K hK => ?_) AllReadyH.nil)
            go_simp
            go_at_call 35
            refine (hMa.out P1 W23 (bl_trans hb2 bb23) hR1.1 hR1.2).mono ?_
            rintro e W24 ⟨A1, c1, L1, rfl, hk1, hs1, hC1_24, hx24⟩
            have oA24 := oA23.step hx24
            have oB24 := oB23.step hx24
            have oC24 := oC23.step hx24
            have o4_24 := o4_23.step hx24
            have o5_24 := o5_23.step hx24
            have bb24 := bl_trans bb23 hx24
            refine hK.out _ _ ⟨oA24, oB24, oC24⟩ (fun hHeld2 => ?_)
            clear hK K hHeld
            have hHeld := hHeld2
            clear hHeld2
            try simp only [Act.put, List.getElem_toArray, List.getElem_cons_zero, List.getElem_cons_succ, List.setIfInBounds_toArray, List.set_cons_zero, List.set_cons_succ]
            refine wpAnyH_ready (rs := [11]) (by kernel_rfl) (by simp) ?_
            refine (AllReadyH.cons rfl (fun K hK => ?_) AllReadyH.nil)
            go_simp
            go_at_call 35
            refine (hMb.out P2 W24 (bl_trans hb2 bb24) hR2.1 hR2.2).mono ?_
            rintro e W25 ⟨A3, c3, L3, rfl, hk3, hs3, hC3_25, hx25⟩
            have oA25 := oA24.step hx25
            have oB25 := oB24.step hx25
            have oC25 := oC24.step hx25
            have hC1_25 := hC1_24.step hx25
            have o4_25 := o4_24.step hx25
            have o5_25 := o5_24.step hx25
            have bb25 := bl_trans bb24 hx25
            refine hK.out _ _ ⟨oA25, oB25, oC25⟩ (fun hHeld2 => ?_)
            clear hK K hHeld
            have hHeld := hHeld2
            clear hHeld2
            try simp only [Act.put, List.getElem_toArray, List.getElem_cons_zero, List.getElem_cons_succ, List.setIfInBounds_toArray, List.set_cons_zero, List.set_cons_succ]
            refine wpAnyH_ready (rs := [14]) (by kernel_rfl) (by simp) ?_
            refine (AllReadyH.cons rfl (fun K hK => ?_) AllReadyH.nil)
            have z0 := o4_25.frozen 0
            have z1 := o4_25.frozen 1
            have z2 := o4_25.frozen 2
            have z3 := o4_25.frozen 3
            obtain ⟨y0, y1, y2, y3⟩ := own_end o4_25
            go_simp
            rw [show ((((W25.setCell ⟨Y0.heap.size, 0, none⟩ (.int .u32 P1)).setCell ⟨Y0.heap.size, 1, none⟩ (.int .i64 90)).setCell ⟨Y0.heap.size, 2, none⟩ (.int .u32 1)).setCell ⟨Y0.heap.size, 3, none⟩ (.slice A1 (List.length L1) c1)) = sets4 W25 (Y0.heap.size) (.int .u32 P1) (.int .i64 90) (.int .u32 1) (.slice A1 (List.length L1) c1) from rfl]
            have qs1_25 := sets4_own (a := .int .u32 P1) (b := .int .i64 90) (c := .int .u32 1) (d := .slice A1 (List.length L1) c1) o4_25
            have rs1_25 := sets4_far (g := Y0.heap.size) (a := .int .u32 P1) (b := .int .i64 90) (c := .int .u32 1) (d := .slice A1 (List.length L1) c1) o5_25 (by omega)
            have oAs1_25 := sets4_far (g := Y0.heap.size) (a := .int .u32 P1) (b := .int .i64 90) (c := .int .u32 1) (d := .slice A1 (List.length L1) c1) oA25 (by omega)
            have oBs1_25 := sets4_far (g := Y0.heap.size) (a := .int .u32 P1) (b := .int .i64 90) (c := .int .u32 1) (d := .slice A1 (List.length L1) c1) oB25 (by omega)
            have oCs1_25 := sets4_far (g := Y0.heap.size) (a := .int .u32 P1) (b := .int .i64 90) (c := .int .u32 1) (d := .slice A1 (List.length L1) c1) oC25 (by omega)
            have bbs1_25 := sets4_below (g := Y0.heap.size) (a := .int .u32 P1) (b := .int .i64 90) (c := .int .u32 1) (d := .slice A1 (List.length L1) c1) bb25 (by omega)
            have hC1_s1_25 := sets4_caps (w := W25) (p := P1) (q := 90) (r := 1) (v := .slice A1 (List.length L1) c1) hC1_25 o4_25
            have hC3_s1_25 := sets4_caps (w := W25) (p := P1) (q := 90) (r := 1) (v := .slice A1 (List.length L1) c1) hC3_25 o4_25
            clear z0 y0 z1 y1 z2 y2 z3 y3 o4_25
            generalize hges1_25 : sets4 W25 (Y0.heap.size) (.int .u32 P1) (.int .i64 90) (.int .u32 1) (.slice A1 (List.length L1) c1) = V25 at *
            clear hges1_25
            refine hK.out _ _ ⟨oAs1_25, oBs1_25, oCs1_25⟩ (fun hHeld2 => ?_)
            clear hK K hHeld
            have hHeld := hHeld2
            clear hHeld2
            try simp only [Act.put, List.getElem_toArray, List.getElem_cons_zero, List.getElem_cons_succ, List.setIfInBounds_toArray, List.set_cons_zero, List.set_cons_succ]
            have o5z25 := rs1_25
            refine wpAnyH_ready (rs := [15]) (by kernel_rfl) (by simp) ?_
            refine (AllReadyH.cons rfl (fun K hK => ?_) AllReadyH.nil)
            have z0 := o5z25.frozen 0
            have z1 := o5z25.frozen 1
            have z2 := o5z25.frozen 2
            have z3 := o5z25.frozen 3
            obtain ⟨y0, y1, y2, y3⟩ := own_end o5z25
            go_simp
            rw [show ((((V25.setCell ⟨W17.heap.size, 0, none⟩ (.int .u32 P2)).setCell ⟨W17.heap.size, 1, none⟩ (.int .i64 0)).setCell ⟨W17.heap.size, 2, none⟩ (.int .u32 2)).setCell ⟨W17.heap.size, 3, none⟩ (.slice A3 (List.length L3) c3)) = sets4 V25 (W17.heap.size) (.int .u32 P2) (.int .i64 0) (.int .u32 2) (.slice A3 (List.length L3) c3) from rfl]
            have qs2_25 := sets4_own (a := .int .u32 P2) (b := .int .i64 0) (c := .int .u32 2) (d := .slice A3 (List.length L3) c3) o5z25
            have rs2_25 := sets4_far (g := W17.heap.size) (a := .int .u32 P2) (b := .int .i64 0) (c := .int .u32 2) (d := .slice A3 (List.length L3) c3) qs1_25 (by omega)
            have oAs2_25 := sets4_far (g := W17.heap.size) (a := .int .u32 P2) (b := .int .i64 0) (c := .int .u32 2) (d := .slice A3 (List.length L3) c3) oAs1_25 (by omega)
            have oBs2_25 := sets4_far (g := W17.heap.size) (a := .int .u32 P2) (b := .int .i64 0) (c := .int .u32 2) (d := .slice A3 (List.length L3) c3) oBs1_25 (by omega)
            have oCs2_25 := sets4_far (g := W17.heap.size) (a := .int .u32 P2) (b := .int .i64 0) (c := .int .u32 2) (d := .slice A3 (List.length L3) c3) oCs1_25 (by omega)
            have bbs2_25 := sets4_below (g := W17.heap.size) (a := .int .u32 P2) (b := .int .i64 0) (c := .int .u32 2) (d := .slice A3 (List.length L3) c3) bbs1_25 (by omega)
            have hC1_s2_25 := sets4_caps (w := V25) (p := P2) (q := 0) (r := 2) (v := .slice A3 (List.length L3) c3) hC1_s1_25 o5z25
            have hC3_s2_25 := sets4_caps (w := V25) (p := P2) (q := 0) (r := 2) (v := .slice A3 (List.length L3) c3) hC3_s1_25 o5z25
            clear z0 y0 z1 y1 z2 y2 z3 y3 o5z25
            generalize hges2_25 : sets4 V25 (W17.heap.size) (.int .u32 P2) (.int .i64 0) (.int .u32 2) (.slice A3 (List.length L3) c3) = U25 at *
            clear hges2_25
            refine hK.out _ _ ⟨oAs2_25, oBs2_25, oCs2_25⟩ (fun hHeld2 => ?_)
            clear hK K hHeld
            have hHeld := hHeld2
            clear hHeld2
            try simp only [Act.put, List.getElem_toArray, List.getElem_cons_zero, List.getElem_cons_succ, List.setIfInBounds_toArray, List.set_cons_zero, List.set_cons_succ]
            refine wpAnyH_done (by kernel_rfl) ?_ _
            try refine NoPanic.normal ?_
            go_wp2_with fail
            go_meet
            exact ⟨Y0.heap.size, W17.heap.size, P1, P2, A1, c1, L1, A3, c3, L3, rfl, rfl, rs2_25, qs2_25, ⟨hk1, hk3⟩, hs1, hs3, hC1_s2_25, hC3_s2_25, bbs2_25⟩
        · go_simp
          have hx26 := bl_alloc (bl_refl Y0) (.cells #[.int .u32 0, .int .i64 0, .int .u32 0, .slice none 0 0] 47)
          have o5_26 := Own.new Y0 47 #[.int .u32 0, .int .i64 0, .int .u32 0, .slice none 0 0]
          have hlo26 := bb0.size
          have hloA26 := oA0.lt
          have hloB26 := oB0.lt
          have hloC26 := oC0.lt
          have oA26 := oA0.step hx26
          have oB26 := oB0.step hx26
          have oC26 := oC0.step hx26
          have bb26 := bl_trans bb0 hx26
          generalize hgx26 : (Y0.alloc (.cells #[.int .u32 0, .int .i64 0, .int .u32 0, .slice none 0 0] 47)) = W26 at *
          clear hgx26
          refine hK.out _ _ ⟨oA26, oB26, oC26⟩ (fun hHeld2 => ?_)
          clear hK K hHeld
          have hHeld := hHeld2
          clear hHeld2
          try simp only [Act.put, List.getElem_toArray, List.getElem_cons_zero, List.getElem_cons_succ, List.setIfInBounds_toArray, List.set_cons_zero, List.set_cons_succ]
          refine wpAnyH_ready (rs := [5, 12]) (by kernel_rfl) (by simp) ?_
          refine (AllReadyH.cons rfl (fun K hK => ?_) (AllReadyH.cons rfl (fun K hK => ?_) AllReadyH.nil))
          · go_simp
            go_at_call 35
            refine (hMa.out P1 W26 (bl_trans hb2 bb26) hR1.1 hR1.2).mono ?_
            rintro e W27 ⟨A1, c1, L1, rfl, hk1, hs1, hC1_27, hx27⟩
            have oA27 := oA26.step hx27
            have oB27 := oB26.step hx27
            have oC27 := oC26.step hx27
            have o5_27 := o5_26.step hx27
            have bb27 := bl_trans bb26 hx27
            refine hK.out _ _ ⟨oA27, oB27, oC27⟩ (fun hHeld2 => ?_)
            clear hK K hHeld
            have hHeld := hHeld2
            clear hHeld2
            try simp only [Act.put, List.getElem_toArray, List.getElem_cons_zero, List.getElem_cons_succ, List.setIfInBounds_toArray, List.set_cons_zero, List.set_cons_succ]
            refine wpAnyH_ready (rs := [11, 12]) (by kernel_rfl) (by simp) ?_
            refine (AllReadyH.cons rfl (fun K hK => ?_) (AllReadyH.cons rfl (fun K hK => ?_) AllReadyH.nil))
            · go_simp
              go_at_call 35
              refine (hMb.out P2 W27 (bl_trans hb2 bb27) hR2.1 hR2.2).mono ?_
              rintro e W28 ⟨A3, c3, L3, rfl, hk3, hs3, hC3_28, hx28⟩
              have oA28 := oA27.step hx28
              have oB28 := oB27.step hx28
              have oC28 := oC27.step hx28
              have hC1_28 := hC1_27.step hx28
              have o5_28 := o5_27.step hx28
              have bb28 := bl_trans bb27 hx28
              refine hK.out _ _ ⟨oA28, oB28, oC28⟩ (fun hHeld2 => ?_)
              clear hK K hHeld
              have hHeld := hHeld2
              clear hHeld2
              try simp only [Act.put, List.getElem_toArray, List.getElem_cons_zero, List.getElem_cons_succ, List.setIfInBounds_toArray, List.set_cons_zero, List.set_cons_succ]
              refine wpAnyH_ready (rs := [12]) (by kernel_rfl) (by simp) ?_
              refine (AllReadyH.cons rfl (fun K hK => ?_) AllReadyH.nil)
              go_simp
              have hx29 := bl_alloc (bl_refl W28) (.cells #[.int .u32 0, .int .i64 0, .int .u32 0, .slice none 0 0] 47)
              have o4_29 := Own.new W28 47 #[.int .u32 0, .int .i64 0, .int .u32 0, .slice none 0 0]
              have hne29 : Y0.heap.size ≠ W28.heap.size := by have := o5_28.lt; omega
              have hlo29 := bb28.size
              have hloA29 := oA28.lt
              have hloB29 := oB28.lt
              have hloC29 := oC28.lt
              have oA29 := oA28.step hx29
              have oB29 := oB28.step hx29
              have oC29 := oC28.step hx29
              have hC1_29 := hC1_28.step hx29
              have hC3_29 := hC3_28.step hx29
              have o5_29 := o5_28.step hx29
              have bb29 := bl_trans bb28 hx29
              generalize hgx29 : (W28.alloc (.cells #[.int .u32 0, .int .i64 0, .int .u32 0, .slice none 0 0] 47)) = W29 at *
              clear hgx29
              refine hK.out _ _ ⟨oA29, oB29, oC29⟩ (fun hHeld2 => ?_)
              clear hK K hHeld
              have hHeld := hHeld2
              clear hHeld2
              try simp only [Act.put, List.getElem_toArray, List.getElem_cons_zero, List.getElem_cons_succ, List.setIfInBounds_toArray, List.set_cons_zero, List.set_cons_succ]
              refine wpAnyH_ready (rs := [14]) (by kernel_rfl) (by simp) ?_
              refine (AllReadyH.cons rfl (fun K hK => ?_) AllReadyH.nil)
              have z0 := o4_29.frozen 0
              have z1 := o4_29.frozen 1
              have z2 := o4_29.frozen 2
              have z3 := o4_29.frozen 3
              obtain ⟨y0, y1, y2, y3⟩ := own_end o4_29
              go_simp
              rw [show ((((W29.setCell ⟨W28.heap.size, 0, none⟩ (.int .u32 P1)).setCell ⟨W28.heap.size, 1, none⟩ (.int .i64 90)).setCell ⟨W28.heap.size, 2, none⟩ (.int .u32 1)).setCell ⟨W28.heap.size, 3, none⟩ (.slice A1 (List.length L1) c1)) = sets4 W29 (W28.heap.size) (.int .u32 P1) (.int .i64 90) (.int .u32 1) (.slice A1 (List.length L1) c1) from rfl]
              have qs1_29 := sets4_own (a := .int .u32 P1) (b := .int .i64 90) (c := .int .u32 1) (d := .slice A1 (List.length L1) c1) o4_29
              have rs1_29 := sets4_far (g := W28.heap.size) (a := .int .u32 P1) (b := .int .i64 90) (c := .int .u32 1) (d := .slice A1 (List.length L1) c1) o5_29 (by omega)
              have oAs1_29 := sets4_far (g := W28.heap.size) (a := .int .u32 P1) (b := .int .i64 90) (c := .int .u32 1) (d := .slice A1 (List.length L1) c1) oA29 (by omega)
              have oBs1_29 := sets4_far (g := W28.heap.size) (a := .int .u32 P1) (b := .int .i64 90) (c := .int .u32 1) (d := .slice A1 (List.length L1) c1) oB29 (by omega)
              have oCs1_29 := sets4_far (g := W28.heap.size) (a := .int .u32 P1) (b := .int .i64 90) (c := .int .u32 1) (d := .slice A1 (List.length L1) c1) oC29 (by omega)
              have bbs1_29 := sets4_below (g := W28.heap.size) (a := .int .u32 P1) (b := .int .i64 90) (c := .int .u32 1) (d := .slice A1 (List.length L1) c1) bb29 (by omega)
              have hC1_s1_29 := sets4_caps (w := W29) (p := P1) (q := 90) (r := 1) (v := .slice A1 (List.length L1) c1) hC1_29 o4_29
              have hC3_s1_29 := sets4_caps (w := W29) (p := P1) (q := 90) (r := 1) (v := .slice A1 (List.length L1) c1) hC3_29 o4_29
              clear z0 y0 z1 y1 z2 y2 z3 y3 o4_29
              generalize hges1_29 : sets4 W29 (W28.heap.size) (.int .u32 P1) (.int .i64 90) (.int .u32 1) (.slice A1 (List.length L1) c1) = V29 at *
              clear hges1_29
              refine hK.out _ _ ⟨oAs1_29, oBs1_29, oCs1_29⟩ (fun hHeld2 => ?_)
              clear hK K hHeld
              have hHeld := hHeld2
              clear hHeld2
              try simp only [Act.put, List.getElem_toArray, List.getElem_cons_zero, List.getElem_cons_succ, List.setIfInBounds_toArray, List.set_cons_zero, List.set_cons_succ]
              have o5z29 := rs1_29
              refine wpAnyH_ready (rs := [15]) (by kernel_rfl) (by simp) ?_
              refine (AllReadyH.cons rfl (fun K hK => ?_) AllReadyH.nil)
              have z0 := o5z29.frozen 0
              have z1 := o5z29.frozen 1
              have z2 := o5z29.frozen 2
              have z3 := o5z29.frozen 3
              obtain ⟨y0, y1, y2, y3⟩ := own_end o5z29
              go_simp
              rw [show ((((V29.setCell ⟨Y0.heap.size, 0, none⟩ (.int .u32 P2)).setCell ⟨Y0.heap.size, 1, none⟩ (.int .i64 0)).setCell ⟨Y0.heap.size, 2, none⟩ (.int .u32 2)).setCell ⟨Y0.heap.size, 3, none⟩ (.slice A3 (List.length L3) c3)) = sets4 V29 (Y0.heap.size) (.int .u32 P2) (.int .i64 0) (.int .u32 2) (.slice A3 (List.length L3) c3) from rfl]
              have qs2_29 := sets4_own (a := .int .u32 P2) (b := .int .i64 0) (c := .int .u32 2) (d := .slice A3 (List.length L3) c3) o5z29
              have rs2_29 := sets4_far (g := Y0.heap.size) (a := .int .u32 P2) (b := .int .i64 0) (c := .int .u32 2) (d := .slice A3 (List.length L3) c3) qs1_29 (by omega)
              have oAs2_29 := sets4_far (g := Y0.heap.size) (a := .int .u32 P2) (b := .int .i64 0) (c := .int .u32 2) (d := .slice A3 (List.length L3) c3) oAs1_29 (by omega)
              have oBs2_29 := sets4_far (g := Y0.heap.size) (a := .int .u32 P2) (b := .int .i64 0) (c := .int .u32 2) (d := .slice A3 (List.length L3) c3) oBs1_29 (by omega)
              have oCs2_29 := sets4_far (g := Y0.heap.size) (a := .int .u32 P2) (b := .int .i64 0) (c := .int .u32 2) (d := .slice A3 (List.length L3) c3) oCs1_29 (by omega)
              have bbs2_29 := sets4_below (g := Y0.heap.size) (a := .int .u32 P2) (b := .int .i64 0) (c := .int .u32 2) (d := .slice A3 (List.length L3) c3) bbs1_29 (by omega)
              have hC1_s2_29 := sets4_caps (w := V29) (p := P2) (q := 0) (r := 2) (v := .slice A3 (List.length L3) c3) hC1_s1_29 o5z29
              have hC3_s2_29 := sets4_caps (w := V29) (p := P2) (q := 0) (r := 2) (v := .slice A3 (List.length L3) c3) hC3_s1_29 o5z29
              clear z0 y0 z1 y1 z2 y2 z3 y3 o5z29
              generalize hges2_29 : sets4 V29 (Y0.heap.size) (.int .u32 P2) (.int .i64 0) (.int .u32 2) (.slice A3 (List.length L3) c3) = U29 at *
              clear hges2_29
              refine hK.out _ _ ⟨oAs2_29, oBs2_29, oCs2_29⟩ (fun hHeld2 => ?_)
              clear hK K hHeld
              have hHeld := hHeld2
              clear hHeld2
              try simp only [Act.put, List.getElem_toArray, List.getElem_cons_zero, List.getElem_cons_succ, List.setIfInBounds_toArray, List.set_cons_zero, List.set_cons_succ]
              refine wpAnyH_done (by kernel_rfl) ?_ _
              try refine NoPanic.normal ?_
              go_wp2_with fail
              go_meet
              exact ⟨W28.heap.size, Y0.heap.size, P1, P2, A1, c1, L1, A3, c3, L3, rfl, rfl, rs2_29, qs2_29, ⟨hk1, hk3⟩, hs1, hs3, hC1_s2_29, hC3_s2_29, bbs2_29⟩
            · go_simp
              have hx30 := bl_alloc (bl_refl W27) (.cells #[.int .u32 0, .int .i64 0, .int .u32 0, .slice none 0 0] 47)
              have o4_30 := Own.new W27 47 #[.int .u32 0, .int .i64 0, .int .u32 0, .slice none 0 0]
              have hne30 : Y0.heap.size ≠ W27.heap.size := by have := o5_27.lt; omega
              have hlo30 := bb27.size
              have hloA30 := oA27.lt
              have hloB30 := oB27.lt
              have hloC30 := oC27.lt
              have oA30 := oA27.step hx30
              have oB30 := oB27.step hx30
              have oC30 := oC27.step hx30
              have hC1_30 := hC1_27.step hx30
              have o5_30 := o5_27.step hx30
              have bb30 := bl_trans bb27 hx30
              generalize hgx30 : (W27.alloc (.cells #[.int .u32 0, .int .i64 0, .int .u32 0, .slice none 0 0] 47)) = W30 at *
              clear hgx30
              refine hK.out _ _ ⟨oA30, oB30, oC30⟩ (fun hHeld2 => ?_)
              clear hK K hHeld
              have hHeld := hHeld2
              clear hHeld2
              try simp only [Act.put, List.getElem_toArray, List.getElem_cons_zero, List.getElem_cons_succ, List.setIfInBounds_toArray, List.set_cons_zero, List.set_cons_succ]
              refine wpAnyH_ready (rs := [11]) (by kernel_rfl) (by simp) ?_
              refine (AllReadyH.cons rfl (fun K hK => ?_) AllReadyH.nil)
              go_simp
              go_at_call 35
              refine (hMb.out P2 W30 (bl_trans hb2 bb30) hR2.1 hR2.2).mono ?_
              rintro e W31 ⟨A3, c3, L3, rfl, hk3, hs3, hC3_31, hx31⟩
              have oA31 := oA30.step hx31
              have oB31 := oB30.step hx31
              have oC31 := oC30.step hx31
              have hC1_31 := hC1_30.step hx31
              have o4_31 := o4_30.step hx31
              have o5_31 := o5_30.step hx31
              have bb31 := bl_trans bb30 hx31
              refine hK.out _ _ ⟨oA31, oB31, oC31⟩ (fun hHeld2 => ?_)
              clear hK K hHeld
              have hHeld := hHeld2
              clear hHeld2
              try simp only [Act.put, List.getElem_toArray, List.getElem_cons_zero, List.getElem_cons_succ, List.setIfInBounds_toArray, List.set_cons_zero, List.set_cons_succ]
              refine wpAnyH_ready (rs := [14]) (by kernel_rfl) (by simp) ?_
              refine (AllReadyH.cons rfl (fun K hK => ?_) AllReadyH.nil)
              have z0 := o4_31.frozen 0
              have z1 := o4_31.frozen 1
              have z2 := o4_31.frozen 2
              have z3 := o4_31.frozen 3
              obtain ⟨y0, y1, y2, y3⟩ := own_end o4_31
              go_simp
              rw [show ((((W31.setCell ⟨W27.heap.size, 0, none⟩ (.int .u32 P1)).setCell ⟨W27.heap.size, 1, none⟩ (.int .i64 90)).setCell ⟨W27.heap.size, 2, none⟩ (.int .u32 1)).setCell ⟨W27.heap.size, 3, none⟩ (.slice A1 (List.length L1) c1)) = sets4 W31 (W27.heap.size) (.int .u32 P1) (.int .i64 90) (.int .u32 1) (.slice A1 (List.length L1) c1) from rfl]
              have qs1_31 := sets4_own (a := .int .u32 P1) (b := .int .i64 90) (c := .int .u32 1) (d := .slice A1 (List.length L1) c1) o4_31
              have rs1_31 := sets4_far (g := W27.heap.size) (a := .int .u32 P1) (b := .int .i64 90) (c := .int .u32 1) (d := .slice A1 (List.length L1) c1) o5_31 (by omega)
              have oAs1_31 := sets4_far (g := W27.heap.size) (a := .int .u32 P1) (b := .int .i64 90) (c := .int .u32 1) (d := .slice A1 (List.length L1) c1) oA31 (by omega)
              have oBs1_31 := sets4_far (g := W27.heap.size) (a := .int .u32 P1) (b := .int .i64 90) (c := .int .u32 1) (d := .slice A1 (List.length L1) c1) oB31 (by omega)
              have oCs1_31 := sets4_far (g := W27.heap.size) (a := .int .u32 P1) (b := .int .i64 90) (c := .int .u32 1) (d := .slice A1 (List.length L1) c1) oC31 (by omega)
              have bbs1_31 := sets4_below (g := W27.heap.size) (a := .int .u32 P1) (b := .int .i64 90) (c := .int .u32 1) (d := .slice A1 (List.length L1) c1) bb31 (by omega)
              have hC1_s1_31 := sets4_caps (w := W31) (p := P1) (q := 90) (r := 1) (v := .slice A1 (List.length L1) c1) hC1_31 o4_31
              have hC3_s1_31 := sets4_caps (w := W31) (p := P1) (q := 90) (r := 1) (v := .slice A1 (List.length L1) c1) hC3_31 o4_31
              clear z0 y0 z1 y1 z2 y2 z3 y3 o4_31
              generalize hges1_31 : sets4 W31 (W27.heap.size) (.int .u32 P1) (.int .i64 90) (.int .u32 1) (.slice A1 (List.length L1) c1) = V31 at *
              clear hges1_31
              refine hK.out _ _ ⟨oAs1_31, oBs1_31, oCs1_31⟩ (fun hHeld2 => ?_)
              clear hK K hHeld
              have hHeld := hHeld2
              clear hHeld2
              try simp only [Act.put, List.getElem_toArray, List.getElem_cons_zero, List.getElem_cons_succ, List.setIfInBounds_toArray, List.set_cons_zero, List.set_cons_succ]
              have o5z31 := rs1_31
              refine wpAnyH_ready (rs := [15]) (by kernel_rfl) (by simp) ?_
              refine (AllReadyH.cons rfl (fun K hK => ?_) AllReadyH.nil)
              have z0 := o5z31.frozen 0
              have z1 := o5z31.frozen 1
              have z2 := o5z31.frozen 2
              have z3 := o5z31.frozen 3
              obtain ⟨y0, y1, y2, y3⟩ := own_end o5z31
              go_simp
              rw [show ((((V31.setCell ⟨Y0.heap.size, 0, none⟩ (.int .u32 P2)).setCell ⟨Y0.heap.size, 1, none⟩ (.int .i64 0)).setCell ⟨Y0.heap.size, 2, none⟩ (.int .u32 2)).setCell ⟨Y0.heap.size, 3, none⟩ (.slice A3 (List.length L3) c3)) = sets4 V31 (Y0.heap.size) (.int .u32 P2) (.int .i64 0) (.int .u32 2) (.slice A3 (List.length L3) c3) from rfl]
              have qs2_31 := sets4_own (a := .int .u32 P2) (b := .int .i64 0) (c := .int .u32 2) (d := .slice A3 (List.length L3) c3) o5z31
              have rs2_31 := sets4_far (g := Y0.heap.size) (a := .int .u32 P2) (b := .int .i64 0) (c := .int .u32 2) (d := .slice A3 (List.length L3) c3) qs1_31 (by omega)
              have oAs2_31 := sets4_far (g := Y0.heap.size) (a := .int .u32 P2) (b := .int .i64 0) (c := .int .u32 2) (d := .slice A3 (List.length L3) c3) oAs1_31 (by omega)
              have oBs2_31 := sets4_far (g := Y0.heap.size) (a := .int .u32 P2) (b := .int .i64 0) (c := .int .u32 2) (d := .slice A3 (List.length L3) c3) oBs1_31 (by omega)
              have oCs2_31 := sets4_far (g := Y0.heap.size) (a := .int .u32 P2) (b := .int .i64 0) (c := .int .u32 2) (d := .slice A3 (List.length L3) c3) oCs1_31 (by omega)
              have bbs2_31 := sets4_below (g := Y0.heap.size) (a := .int .u32 P2) (b := .int .i64 0) (c := .int .u32 2) (d := .slice A3 (List.length L3) c3) bbs1_31 (by omega)
              have hC1_s2_31 := sets4_caps (w := V31) (p := P2) (q := 0) (r := 2) (v := .slice A3 (List.length L3) c3) hC1_s1_31 o5z31
              have hC3_s2_31 := sets4_caps (w := V31) (p := P2) (q := 0) (r := 2) (v := .slice A3 (List.length L3) c3) hC3_s1_31 o5z31
              clear z0 y0 z1 y1 z2 y2 z3 y3 o5z31
              generalize hges2_31 : sets4 V31 (Y0.heap.size) (.int .u32 P2) (.int .i64 0) (.int .u32 2) (.slice A3 (List.length L3) c3) = U31 at *
              clear hges2_31
              refine hK.out _ _ ⟨oAs2_31, oBs2_31, oCs2_31⟩ (fun hHeld2 => ?_)
              clear hK K hHeld
              have hHeld := hHeld2
              clear hHeld2
              try simp only [Act.put, List.getElem_toArray, List.getElem_cons_zero, List.getElem_cons_succ, List.setIfInBounds_toArray, List.set_cons_zero, List.set_cons_succ]
              refine wpAnyH_done (by kernel_rfl) ?_ _
              try refine NoPanic.normal ?_
              go_wp2_with fail
              go_meet
              exact ⟨W27.heap.size, Y0.heap.size, P1, P2, A1, c1, L1, A3, c3, L3, rfl, rfl, rs2_31, qs2_31, ⟨hk1, hk3⟩, hs1, hs3, hC1_s2_31, hC3_s2_31, bbs2_31⟩
          · go_simp
            have hx32 := bl_alloc (bl_refl W26) (.cells #[.int .u32 0, .int .i64 0, .int .u32 0, .slice none 0 0] 47)
            have o4_32 := Own.new W26 47 #[.int .u32 0, .int .i64 0, .int .u32 0, .slice none 0 0]
            have hne32 : Y0.heap.size ≠ W26.heap.size := by have := o5_26.lt; omega
            have hlo32 := bb26.size
            have hloA32 := oA26.lt
            have hloB32 := oB26.lt
            have hloC32 := oC26.lt
            have oA32 := oA26.step hx32
            have oB32 := oB26.step hx32
            have oC32 := oC26.step hx32
            have o5_32 := o5_26.step hx32
            have bb32 := bl_trans bb26 hx32
            generalize hgx32 : (W26.alloc (.cells #[.int .u32 0, .int .i64 0, .int .u32 0, .slice none 0 0] 47)) = W32 at *
            clear hgx32
            refine hK.out _ _ ⟨oA32, oB32, oC32⟩ (fun hHeld2 => ?_)
            clear hK K hHeld
            have hHeld := hHeld2
            clear hHeld2
            try simp only [Act.put, List.getElem_toArray, List.getElem_cons_zero, List.getElem_cons_succ, List.setIfInBounds_toArray, List.set_cons_zero, List.set_cons_succ]
            refine wpAnyH_ready (rs := [5]) (by kernel_rfl) (by simp) ?_
            refine (AllReadyH.cons rfl (fun K hK => ?_) AllReadyH.nil)
            go_simp
            go_at_call 35
            refine (hMa.out P1 W32 (bl_trans hb2 bb32) hR1.1 hR1.2).mono ?_
            rintro e W33 ⟨A1, c1, L1, rfl, hk1, hs1, hC1_33, hx33⟩
            have oA33 := oA32.step hx33
            have oB33 := oB32.step hx33
            have oC33 := oC32.step hx33
            have o4_33 := o4_32.step hx33
            have o5_33 := o5_32.step hx33
            have bb33 := bl_trans bb32 hx33
            refine hK.out _ _ ⟨oA33, oB33, oC33⟩ (fun hHeld2 => ?_)
            clear hK K hHeld
            have hHeld := hHeld2
            clear hHeld2
            try simp only [Act.put, List.getElem_toArray, List.getElem_cons_zero, List.getElem_cons_succ, List.setIfInBounds_toArray, List.set_cons_zero, List.set_cons_succ]
            refine wpAnyH_ready (rs := [11]) (by kernel_rfl) (by simp) ?_
            refine (AllReadyH.cons rfl (fun K hK => ?_) AllReadyH.nil)
            go_simp
            go_at_call 35
            refine (hMb.out P2 W33 (bl_trans hb2 bb33) hR2.1 hR2.2).mono ?_
            rintro e W34 ⟨A3, c3, L3, rfl, hk3, hs3, hC3_34, hx34⟩
            have oA34 := oA33.step hx34
            have oB34 := oB33.step hx34
            have oC34 := oC33.step hx34
            have hC1_34 := hC1_33.step hx34
            have o4_34 := o4_33.step hx34
            have o5_34 := o5_33.step hx34
            have bb34 := bl_trans bb33 hx34
            refine hK.out _ _ ⟨oA34, oB34, oC34⟩ (fun hHeld2 => ?_)
            clear hK K hHeld
            have hHeld := hHeld2
            clear hHeld2
            try simp only [Act.put, List.getElem_toArray, List.getElem_cons_zero, List.getElem_cons_succ, List.setIfInBounds_toArray, List.set_cons_zero, List.set_cons_succ]
            refine wpAnyH_ready (rs := [14]) (by kernel_rfl) (by simp) ?_
            refine (AllReadyH.cons rfl (fun K hK => ?_) AllReadyH.nil)
            have z0 := o4_34.frozen 0
            have z1 := o4_34.frozen 1
            have z2 := o4_34.frozen 2
            have z3 := o4_34.frozen 3
            obtain ⟨y0, y1, y2, y3⟩ := own_end o4_34
            go_simp
            rw [show ((((W34.setCell ⟨W26.heap.size, 0, none⟩ (.int .u32 P1)).setCell ⟨W26.heap.size, 1, none⟩ (.int .i64 90)).setCell ⟨W26.heap.size, 2, none⟩ (.int .u32 1)).setCell ⟨W26.heap.size, 3, none⟩ (.slice A1 (List.length L1) c1)) = sets4 W34 (W26.heap.size) (.int .u32 P1) (.int .i64 90) (.int .u32 1) (.slice A1 (List.length L1) c1) from rfl]
            have qs1_34 := sets4_own (a := .int .u32 P1) (b := .int .i64 90) (c := .int .u32 1) (d := .slice A1 (List.length L1) c1) o4_34
            have rs1_34 := sets4_far (g := W26.heap.size) (a := .int .u32 P1) (b := .int .i64 90) (c := .int .u32 1) (d := .slice A1 (List.length L1) c1) o5_34 (by omega)
            have oAs1_34 := sets4_far (g := W26.heap.size) (a := .int .u32 P1) (b := .int .i64 90) (c := .int .u32 1) (d := .slice A1 (List.length L1) c1) oA34 (by omega)
            have oBs1_34 := sets4_far (g := W26.heap.size) (a := .int .u32 P1) (b := .int .i64 90) (c := .int .u32 1) (d := .slice A1 (List.length L1) c1) oB34 (by omega)
            have oCs1_34 := sets4_far (g := W26.heap.size) (a := .int .u32 P1) (b := .int .i64 90) (c := .int .u32 1) (d := .slice A1 (List.length L1) c1) oC34 (by omega)
            have bbs1_34 := sets4_below (g := W26.heap.size) (a := .int .u32 P1) (b := .int .i64 90) (c := .int .u32 1) (d := .slice A1 (List.length L1) c1) bb34 (by omega)
            have hC1_s1_34 := sets4_caps (w := W34) (p := P1) (q := 90) (r := 1) (v := .slice A1 (List.length L1) c1) hC1_34 o4_34
            have hC3_s1_34 := sets4_caps (w := W34) (p := P1) (q := 90) (r := 1) (v := .slice A1 (List.length L1) c1) hC3_34 o4_34
            clear z0 y0 z1 y1 z2 y2 z3 y3 o4_34
            generalize hges1_34 : sets4 W34 (W26.heap.size) (.int .u32 P1) (.int .i64 90) (.int .u32 1) (.slice A1 (List.length L1) c1) = V34 at *
            clear hges1_34
            refine hK.out _ _ ⟨oAs1_34, oBs1_34, oCs1_34⟩ (fun hHeld2 => ?_)
            clear hK K hHeld
            have hHeld := hHeld2
            clear hHeld2
            try simp only [Act.put, List.getElem_toArray, List.getElem_cons_zero, List.getElem_cons_succ, List.setIfInBounds_toArray, List.set_cons_zero, List.set_cons_succ]
            have o5z34 := rs1_34
            refine wpAnyH_ready (rs := [15]) (by kernel_rfl) (by simp) ?_
            refine (AllReadyH.cons rfl (fun K hK => ?_) AllReadyH.nil)
            have z0 := o5z34.frozen 0
            have z1 := o5z34.frozen 1
            have z2 := o5z34.frozen 2
            have z3 := o5z34.frozen 3
            obtain ⟨y0, y1, y2, y3⟩ := own_end o5z34
            go_simp
            rw [show ((((V34.setCell ⟨Y0.heap.size, 0, none⟩ (.int .u32 P2)).setCell ⟨Y0.heap.size, 1, none⟩ (.int .i64 0)).setCell ⟨Y0.heap.size, 2, none⟩ (.int .u32 2)).setCell ⟨Y0.heap.size, 3, none⟩ (.slice A3 (List.length L3) c3)) = sets4 V34 (Y0.heap.size) (.int .u32 P2) (.int .i64 0) (.int .u32 2) (.slice A3 (List.length L3) c3) from rfl]
            have qs2_34 := sets4_own (a := .int .u32 P2) (b := .int .i64 0) (c := .int .u32 2) (d := .slice A3 (List.length L3) c3) o5z34
            have rs2_34 := sets4_far (g := Y0.heap.size) (a := .int .u32 P2) (b := .int .i64 0) (c := .int .u32 2) (d := .slice A3 (List.length L3) c3) qs1_34 (by omega)
            have oAs2_34 := sets4_far (g := Y0.heap.size) (a := .int .u32 P2) (b := .int .i64 0) (c := .int .u32 2) (d := .slice A3 (List.length L3) c3) oAs1_34 (by omega)
            have oBs2_34 := sets4_far (g := Y0.heap.size) (a := .int .u32 P2) (b := .int .i64 0) (c := .int .u32 2) (d := .slice A3 (List.length L3) c3) oBs1_34 (by omega)
            have oCs2_34 := sets4_far (g := Y0.heap.size) (a := .int .u32 P2) (b := .int .i64 0) (c := .int .u32 2) (d := .slice A3 (List.length L3) c3) oCs1_34 (by omega)
            have bbs2_34 := sets4_below (g := Y0.heap.size) (a := .int .u32 P2) (b := .int .i64 0) (c := .int .u32 2) (d := .slice A3 (List.length L3) c3) bbs1_34 (by omega)
            have hC1_s2_34 := sets4_caps (w := V34) (p := P2) (q := 0) (r := 2) (v := .slice A3 (List.length L3) c3) hC1_s1_34 o5z34
            have hC3_s2_34 := sets4_caps (w := V34) (p := P2) (q := 0) (r := 2) (v := .slice A3 (List.length L3) c3) hC3_s1_34 o5z34
            clear z0 y0 z1 y1 z2 y2 z3 y3 o5z34
            generalize hges2_34 : sets4 V34 (Y0.heap.size) (.int .u32 P2) (.int .i64 0) (.int .u32 2) (.slice A3 (List.length L3) c3) = U34 at *
            clear hges2_34
            refine hK.out _ _ ⟨oAs2_34, oBs2_34, oCs2_34⟩ (fun hHeld2 => ?_)
            clear hK K hHeld
            have hHeld := hHeld2
            clear hHeld2
            try simp only [Act.put, List.getElem_toArray, List.getElem_cons_zero, List.getElem_cons_succ, List.setIfInBounds_toArray, List.set_cons_zero, List.set_cons_succ]
            refine wpAnyH_done (by kernel_rfl) ?_ _
            try refine NoPanic.normal ?_
            go_wp2_with fail
            go_meet
            exact ⟨W26.heap.size, Y0.heap.size, P1, P2, A1, c1, L1, A3, c3, L3, rfl, rfl, rs2_34, qs2_34, ⟨hk1, hk3⟩, hs1, hs3, hC1_s2_34, hC3_s2_34, bbs2_34⟩
      case rest =>
      obtain ⟨g5, g6, p, p', A1, c1, L1, A3, c3, L3, rfl, rfl, o5, o6, ⟨hk1, hk3⟩, hs1, hs3, hC1, hC3, hbx⟩ := hcut
      have hb4 := bl_trans hb2 hbx
      have oA3 := oA2.step hbx
      have oB3 := oB2.step hbx
      have hn1 : L1.length ≤ 10 := by have := congrArg List.length hk1; rw [List.length_map] at this; rw [this]; exact ofK_len _ _ _ _ _ _ _
      have hn3 : L3.length ≤ 10 := by have := congrArg List.length hk3; rw [List.length_map] at this; rw [this]; exact ofK_len _ _ _ _ _ _ _
      obtain ⟨z0, z1, z2, z3, z4, z5, ez⟩ : ∃ z0 z1 z2 z3 z4 z5, bothW a0 a1 a2 a3 a4 a5 b0 b1 b2 b3 b4 b5 = #[.bool z0, .bool z1, .bool z2, .bool z3, .bool z4, .bool z5] := ⟨_, _, _, _, _, _, rfl⟩
      have hto := tow_of a0 a1 a2 a3 a4 a5 b0 b1 b2 b3 b4 b5 p p'
      have hBt : Hid (∀ W, Below wc.heap.size wc W → Calls Tryd.prog 39 #[.agg #[.int .u32 p, .int .i64 90, .int .u32 1, .slice A1 (List.length L1) c1], .agg #[.int .u32 p', .int .i64 0, .int .u32 2, .slice A3 (List.length L3) c3]] W fun e w' => e = .returned (.tuple #[.agg #[.bool z0, .bool z1, .bool z2, .bool z3, .bool z4, .bool z5], .agg #[.bool z0, .bool z1, .bool z2, .bool z3, .bool z4, .bool z5]]) ∧ Below W.heap.size W w') := Lib.hid fun W hb => by
        have := between_any p 90 1 A1 L1.length c1 p' 0 2 A3 L3.length c3 L1 L3 W (hC1.step hb) (hC3.step hb) (by omega) (by omega) (fun s hs => Nat.le_trans (hs1 s hs) (by omega)) (fun s hs => Nat.le_trans (hs3 s hs) (by omega)) (HF.out.below (bl_trans hb4 hb))
        rwa [hk1, hk3, hto.1, hto.2, ez] at this
      have hRz := hRb.out
      rw [ez] at hRz
      have hRZ := Lib.hid hRz
      have hHo : Hid (∀ W, Calls Tryd.prog 44 #[.agg #[.int .u32 p, .int .i64 90, .int .u32 1, .slice A1 (List.length L1) c1], .agg #[.int .u32 p', .int .i64 0, .int .u32 2, .slice A3 (List.length L3) c3]] W fun e w' => e = .returned (.int .i64 0) ∧ Below W.heap.size W w') := Lib.hid fun W => nhold_any p 90 1 A1 L1.length c1 p' 0 2 A3 L3.length c3 W
      have HEZ := Lib.hid (fun W => op_same z0 z1 z2 z3 z4 z5 W)
      generalize L1.length = n1 at *
      generalize L3.length = n3 at *
      clear oA2 oB2 oCc hb2 hC1 hC3 hbx hs1 hs3 hk1 hk3 hn1 hn3 hto hRz hRb ez HF hMa hMb hsz
      obtain ⟨d0, d1, d2, d3⟩ := own_end o5
      obtain ⟨e0, e1, e2, e3⟩ := own_end o6
      go_wp2_with fail
      refine (hBt.out _ (bl_refl _)).mono ?_
      rintro e w4 ⟨rfl, hc4⟩
      clear d0 d1 d2 d3 e0 e1 e2 e3
      obtain ⟨V, hV, oP, oQ, hbV, hVs⟩ := two_boxesN w4 #[.bool z0, .bool z1, .bool z2, .bool z3, .bool z4, .bool z5] #[.bool z0, .bool z1, .bool z2, .bool z3, .bool z4, .bool z5] 23 23
      clear hVs
      go_upto_region 5 with fail
      rw [← hV]
      clear hV
      have hcV := bl_trans hc4 hbV
      have hdV := bl_trans hb4 hcV
      have oA4 := oA3.step hcV
      have oB4 := oB3.step hcV
      have oXp := o5.step hcV
      have oYp := o6.step hcV
      clear oA3 oB3 o5 o6 hc4 hbV hb4 hcV
      obtain ⟨d0, d1, d2, d3, d4, d5⟩ := own_six oA4
      obtain ⟨e0, e1, e2, e3, e4, e5⟩ := own_six oB4
      go_wp2_with fail
      refine (hRZ.out _).mono ?_
      rintro e w5 ⟨rfl, hc5⟩
      clear d0 d1 d2 d3 d4 d5 e0 e1 e2 e3 e4 e5
      have hdU := bl_trans hdV hc5
      have oP5 := oP.step hc5
      have oQ5 := oQ.step hc5
      have oX5 := oXp.step hc5
      have oY5 := oYp.step hc5
      have oR := Own.new w5 23 #[.bool z0, .bool z1, .bool z2, .bool z3, .bool z4, .bool z5]
      have hbR := bl_alloc (bl_refl w5) (.cells #[.bool z0, .bool z1, .bool z2, .bool z3, .bool z4, .bool z5] 23)
      have hdR := bl_trans hdU hbR
      have oP6 := oP5.step hbR
      have oQ6 := oQ5.step hbR
      have oX6 := oX5.step hbR
      have oY6 := oY5.step hbR
      clear oP oQ oA4 oB4 oXp oYp oP5 oQ5 oX5 oY5 hdU hdV hc5 hbR
      go_upto_region 6 with fail
      generalize w5.alloc (.cells #[.bool z0, .bool z1, .bool z2, .bool z3, .bool z4, .bool z5] 23) = U at *
      obtain ⟨d0, d1, d2, d3, d4, d5⟩ := own_six oP6
      go_wp2_with fail
      refine (hAl.out _ hdR).mono ?_
      rintro e w6 ⟨rfl, hc6⟩
      have hd6 := bl_trans hdR hc6
      have oP7 := oP6.step hc6
      have oQ7 := oQ6.step hc6
      have oR7 := oR.step hc6
      have oX7 := oX6.step hc6
      have oY7 := oY6.step hc6
      clear oP6 oQ6 oR oX6 oY6 hdR hc6 d0 d1 d2 d3 d4 d5
      obtain ⟨d0, d1, d2, d3, d4, d5⟩ := own_six oP7
      obtain ⟨e0, e1, e2, e3, e4, e5⟩ := own_six oQ7
      obtain ⟨f0, f1, f2, f3, f4, f5⟩ := own_six oR7
      obtain ⟨g0, g1, g2, g3⟩ := own_end oX7
      obtain ⟨k0, k1, k2, k3⟩ := own_end oY7
      have heZ := HEZ.out w6
      go_wp2_with fail
      refine (hHo.out _).mono ?_
      rintro e w7 ⟨rfl, hc7⟩
      have hd7 := bl_trans hd6 hc7
      go_wp2
      go_ret
      exact ⟨rfl, hd7⟩
end Go.Proofs.YtniheakafkakhaaDoor

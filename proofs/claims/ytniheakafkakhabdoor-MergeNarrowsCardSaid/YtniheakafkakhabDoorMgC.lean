/- peerageref21.Head -/
import Derived.Test.YtniheakafkakhabDoorMgB
namespace Go.Proofs.YtniheakafkakhabDoor
open Go.RowKit

theorem seg_sub {w : World} {B n b o : Nat} {ss : List Sg} (h : Segs w B (some ⟨b, o, none⟩) n ss) {j : Nat} (hj : j < n) : Segs w B (some ⟨b, o + j * 2, none⟩) 1 [sgth ss j] := by
  have hl : j < ss.length := by have := h.1; omega
  obtain ⟨b', o', hA, hb, h0, h1⟩ := h.at_ hj
  cases hA
  refine ⟨rfl, fun t ht => by rw [List.mem_singleton] at ht; subst ht; exact h.2.1 _ (sgth_mem hl), .inr ⟨b, o + j * 2, rfl, hb, fun i t hi => ?_⟩⟩
  rcases i with _ | i
  · cases hi
    exact ⟨by rw [Nat.zero_mul, Nat.add_zero]; exact h0, by rw [Nat.zero_mul, Nat.add_zero]; exact h1⟩
  · simp at hi
set_option maxRecDepth 100000 in
set_option maxHeartbeats 6400000 in
theorem rmhead_any (n : Int) (hn : n ≤ 9223372036854775807) (A : Option Addr) (N c : Nat) (hNc : N ≤ c) (hcm : c ≤ maxLen) (ss : List Sg) (w : World) (h : Segs w w.heap.size A N ss) (hN : N ≤ 500) (hs : ∀ s ∈ ss, s.n ≤ 1000) :
    Calls Tryd.prog 10 #[.int .i64 n, .slice A N c] w fun e w' => HeadR w (headK n (ss.map sgK)) 501 e w' := by
  unfold maxLen at hcm
  have HN := Lib.hid h.1
  have HV := Lib.hid h
  have HS := Lib.hid hs
  clear h hs
  go_enter Tryd.func10, Tryd.ntmps10
  go_wp2_with fail
  go_loopw [0, 5, 6] (fun nv ov i wr => ∃ (j : Nat) (m : Int) (L : List Sg), j ≤ N ∧ i = .int .i64 j ∧ nv = .int .i64 m ∧ m ≤ 9223372036854775807 ∧ SRow wr w.heap.size ov L ∧ Hid (headK n (ss.map sgK) = L.map sgK ++ headK m ((ss.drop j).map sgK) ∧ L.length = j ∧ ∀ s ∈ L, s.n ≤ 1000) ∧ Below w.heap.size w wr) (fun _ _ i _ => N - (intOf i).toNat)
  case atStart => exact ⟨0, n, [], Nat.zero_le _, rfl, rfl, hn, SRow.nil _ _, Lib.hid ⟨by rw [List.drop_zero]; rfl, rfl, fun _ h => by cases h⟩, bl_refl w⟩
  case round =>
    obtain ⟨j, m, L, hj, rfl, rfl, hm1, hrow, hL, hb⟩ := hrel
    obtain ⟨A1, c1, rfl⟩ := own_form hrow.1
    have hLl : L.length ≤ 500 := by have := hL.out.2.1; omega
    by_cases hlt : j < N
    · have HVb := HV.out.below hb
      obtain ⟨b, o, rfl, hbB, e0, e1⟩ := HVb.at_ hlt
      have hj1 := Lib.hid (show j < ss.length by rw [← HN.out]; exact hlt)
      have hDr := Lib.hid (drop_sgth hj1.out)
      have hE := Lib.hid (show SgE wr w.heap.size (sgth ss j) from SgE.below (HV.out.2.1 _ (sgth_mem hj1.out)) hb)
      have hsn := HS.out _ (sgth_mem hj1.out)
      have hH1 := hL.out
      rw [hDr.out, List.map_cons] at hH1
      have hL1 := Lib.hid (len_one (sgth ss j) hE.out.2.2.2.2.1)
      have hbs := hb.size
      have hLen := Lib.hid (rlength_any (some ⟨b, o + j * 2, none⟩) 1 (c - j) [sgth ss j] wr ((seg_sub HVb hlt).more hbs) (by omega) (by intro t ht; rw [List.mem_singleton] at ht; subst ht; exact hsn))
      have HC : Hid (∀ X, Below w.heap.size wr X → X.cell? ⟨b, o + j * 2, none⟩ = some (.int .i64 (sgth ss j).k) ∧ X.cell? ⟨b, o + j * 2 + 1, none⟩ = some (.slice (sgth ss j).A (sgth ss j).n (sgth ss j).c)) := Lib.hid (fun X hX => ⟨(hX.cell (p := ⟨b, o + j * 2, none⟩) hbB).trans e0, (hX.cell (p := ⟨b, o + j * 2 + 1, none⟩) hbB).trans e1⟩)
      rw [hL1.out] at hLen
      generalize sgth ss j = s at *
      obtain ⟨sk, sA, sn, sc, sx⟩ := s
      rw [show sgK (⟨sk, sA, sn, sc, sx⟩ : Sg) = (sk, sx) from rfl] at hH1 hL1 hLen
      dsimp only at e0 e1 hsn HC
      have hsx : sn = sx.length := hE.out.2.2.2.2.1
      have hSX := Lib.hid hsx
      have hsl : segLen (sk, sx) ≤ 1000 := by
        unfold segLen
        split
        · omega
        · split
          · show sx.length ≤ 1000
            omega
          · omega
      have hH2 := Lib.hid hH1
      have hnc : sn ≤ sc := hE.out.1
      have HRw := Lib.hid hrow
      have HB := Lib.hid hb
      have hRg : Hid (∀ x ∈ sx, 0 ≤ x ∧ x < 4294967296) := Lib.hid hE.out.2.2.2.1
      have hWf : Hid ((Lit.int .i64 sk).wf = true) := Lib.hid hE.out.2.2.1
      have hU : Hid (U32s wr w.heap.size sA sn sx) := Lib.hid hE.out.2.2.2.2
      clear hE hH1 hrow hb hsx HVb
      obtain ⟨z, hz⟩ : ∃ z, segLen (sk, sx) = z := ⟨_, rfl⟩
      rw [hz] at hLen hsl
      have HZ := Lib.hid hz
      clear hz
      have i1 : (0 : Int) ≤ (j : Int) := by omega
      have i2 : (j : Int) ≤ (j : Int) + 1 := by omega
      have i3 : (j : Int) + 1 ≤ (c : Int) := by omega
      have i4 : j + 1 ≤ c := by omega
      have i5 : ¬ c = j := by omega
      have i6 : IntKind.i64.wrap ((j : Int) + 1) = (j : Int) + 1 := IntWalk.i64_in _ (by omega)
      have hlen : ((j : Int) + 1).toNat - j = 1 := by omega
      go_wp2_with fail
      refine hLen.out.mono ?_
      rintro e w2 ⟨rfl, hb2⟩
      have hbB2 : Below w.heap.size wr w2 := hb2.mono hbs
      obtain ⟨f0, f1⟩ := HC.out _ hbB2
      clear hLen
      by_cases hle : (z : Int) ≤ m
      · have hK := Lib.hid (headK_yes (n := m) (p := (sk, sx)) (L := (ss.drop (j + 1)).map sgK) (by rw [HZ.out]; exact hle))
        rw [HZ.out] at hK
        have hw1 : IntKind.i64.wrap (m - (z : Int)) = m - (z : Int) := IntWalk.i64_in _ (by omega)
        go_wp2_with fail
        have hbd : Below w.heap.size wr w2.drew := ⟨hbB2.os, hbB2.tape, hbB2.output, hbB2.size, hbB2.block⟩
        refine wp_region_held_drew (S := (fun Y => Y.cell? ⟨b, o + j * 2, none⟩ = some (.int .i64 sk) ∧ Y.cell? ⟨b, o + j * 2 + 1, none⟩ = some (.slice sA sn sc))) (by kernel_rfl) (HC.out _ hbd) (fun hHeld => ?_)
        refine wpAnyH_take (i := 0) (v := ?_) rfl (by kernel_rfl) (by kernel_rfl) (by kernel_rfl) (fun _ _ _ h => h) (Or.inl ⟨by rfl, ?_⟩) (by assumption) ?_
        rotate_left
        · (intro W hSw; obtain ⟨s0, s1⟩ := hSw; go_simp; try with_reducible rfl)
        simp only [Act.put, List.getElem_toArray, List.getElem_cons_zero, List.setIfInBounds_toArray, List.set_cons_zero, List.set_cons_succ]
        refine wpAnyH_take (i := 1) (v := ?_) rfl (by kernel_rfl) (by kernel_rfl) (by kernel_rfl) (fun _ _ _ h => h) (Or.inl ⟨by rfl, ?_⟩) (by assumption) ?_
        rotate_left
        · (intro W hSw; obtain ⟨s0, s1⟩ := hSw; go_simp; try with_reducible rfl)
        simp only [Act.put, List.getElem_toArray, List.getElem_cons_zero, List.getElem_cons_succ, List.setIfInBounds_toArray, List.set_cons_zero, List.set_cons_succ]
        refine wpAnyH_take (i := 2) (v := ?_) rfl (by kernel_rfl) (by kernel_rfl) (by kernel_rfl) (fun _ _ _ h => h) (Or.inl ⟨by rfl, ?_⟩) (by assumption) ?_
        rotate_left
        · (intro W hSw; obtain ⟨s0, s1⟩ := hSw; go_simp; try with_reducible rfl)
        simp only [Act.put, List.getElem_toArray, List.getElem_cons_zero, List.getElem_cons_succ, List.setIfInBounds_toArray, List.set_cons_zero, List.set_cons_succ]
        refine wpAnyH_take (i := 3) (v := ?_) rfl (by kernel_rfl) (by kernel_rfl) (by kernel_rfl) (fun _ _ _ h => h) (Or.inl ⟨by rfl, ?_⟩) (by assumption) ?_
        rotate_left
        · (intro W hSw; obtain ⟨s0, s1⟩ := hSw; go_simp; try with_reducible rfl)
        simp only [Act.put, List.getElem_toArray, List.getElem_cons_zero, List.getElem_cons_succ, List.setIfInBounds_toArray, List.set_cons_zero, List.set_cons_succ]
        refine wpAnyH_take (i := 4) (v := ?_) rfl (by kernel_rfl) (by kernel_rfl) (by kernel_rfl) (fun _ _ _ h => h) (Or.inl ⟨by rfl, ?_⟩) (by assumption) ?_
        rotate_left
        · (intro W hSw; obtain ⟨s0, s1⟩ := hSw; go_simp; try with_reducible rfl)
        simp only [Act.put, List.getElem_toArray, List.getElem_cons_zero, List.getElem_cons_succ, List.setIfInBounds_toArray, List.set_cons_zero, List.set_cons_succ]
        refine wpAnyH_take (i := 5) (v := ?_) rfl (by kernel_rfl) (by kernel_rfl) (by kernel_rfl) (fun _ _ _ h => h) (Or.inl ⟨by rfl, ?_⟩) (by assumption) ?_
        rotate_left
        · (intro W hSw; obtain ⟨s0, s1⟩ := hSw; go_simp; try with_reducible rfl)
        simp only [Act.put, List.getElem_toArray, List.getElem_cons_zero, List.getElem_cons_succ, List.setIfInBounds_toArray, List.set_cons_zero, List.set_cons_succ]
        refine wpAnyH_take (i := 7) (v := ?_) rfl (by kernel_rfl) (by kernel_rfl) (by kernel_rfl) (fun _ _ _ h => h) (Or.inl ⟨by rfl, ?_⟩) (by assumption) ?_
        rotate_left
        · (intro W hSw; obtain ⟨s0, s1⟩ := hSw; go_simp; try with_reducible rfl)
        simp only [Act.put, List.getElem_toArray, List.getElem_cons_zero, List.getElem_cons_succ, List.setIfInBounds_toArray, List.set_cons_zero, List.set_cons_succ]
        refine wpAnyH_take (i := 8) (v := ?_) rfl (by kernel_rfl) (by kernel_rfl) (by kernel_rfl) (fun _ _ _ h => h) (Or.inl ⟨by rfl, ?_⟩) (by assumption) ?_
        rotate_left
        · (intro W hSw; obtain ⟨s0, s1⟩ := hSw; go_simp; try with_reducible rfl)
        simp only [Act.put, List.getElem_toArray, List.getElem_cons_zero, List.getElem_cons_succ, List.setIfInBounds_toArray, List.set_cons_zero, List.set_cons_succ]
        refine wpAnyH_take (i := 9) (v := ?_) rfl (by kernel_rfl) (by kernel_rfl) (by kernel_rfl) (fun _ _ _ h => h) (Or.inl ⟨by rfl, ?_⟩) (by assumption) ?_
        rotate_left
        · (intro W hSw; obtain ⟨s0, s1⟩ := hSw; go_simp; try with_reducible rfl)
        simp only [Act.put, List.getElem_toArray, List.getElem_cons_zero, List.getElem_cons_succ, List.setIfInBounds_toArray, List.set_cons_zero, List.set_cons_succ]
        refine wpAnyH_take (i := 10) (v := ?_) rfl (by kernel_rfl) (by kernel_rfl) (by kernel_rfl) (fun _ _ _ h => h) (Or.inl ⟨by rfl, ?_⟩) (by assumption) ?_
        rotate_left
        · (intro W hSw; obtain ⟨s0, s1⟩ := hSw; go_simp; try with_reducible rfl)
        simp only [Act.put, List.getElem_toArray, List.getElem_cons_zero, List.getElem_cons_succ, List.setIfInBounds_toArray, List.set_cons_zero, List.set_cons_succ]
        refine wpAnyH_take (i := 11) (v := ?_) rfl (by kernel_rfl) (by kernel_rfl) (by kernel_rfl) (fun _ _ _ h => h) (Or.inl ⟨by rfl, ?_⟩) (by assumption) ?_
        rotate_left
        · (intro W hSw; obtain ⟨s0, s1⟩ := hSw; go_simp; try with_reducible rfl)
        simp only [Act.put, List.getElem_toArray, List.getElem_cons_zero, List.getElem_cons_succ, List.setIfInBounds_toArray, List.set_cons_zero, List.set_cons_succ]
        have bE : Below wr.heap.size wr (w2.alloc (.cells #[] 40)).drew := bl_drewN (bl_alloc hb2 _) 1
        have oE : Own (w2.alloc (.cells #[] 40)).drew w2.heap.size 40 #[] := (Own.new w2 _ _).drew
        have hs2 := hb2.size
        have hr0 : (w2.alloc (.cells #[] 40)).drew.ownsRow w2.heap.size 40 1 (.slice (some ⟨w2.heap.size, 0, none⟩) 0 0) 0 [] := Own.row (cs := []) oE rfl (Nat.le_refl _) (by unfold maxLen; omega)
        have hse : w2.heap.size ≤ (w2.alloc (.cells #[] 40)).drew.heap.size := by simp
        refine wpAnyH_ready (rs := [6]) (by kernel_rfl) (by simp) ?_
        refine (AllReadyH.cons rfl (fun K hK => ?_) AllReadyH.nil)
        go_simp
        refine hK.out _ _ (HC.out _ (bE.mono hbs)) (fun hHeld2 => ?_)
        clear hK K hHeld
        have hHeld := hHeld2
        clear hHeld2
        try simp only [Act.put, List.getElem_toArray, List.getElem_cons_zero, List.getElem_cons_succ, List.setIfInBounds_toArray, List.set_cons_zero, List.set_cons_succ]
        generalize hgE : (w2.alloc (.cells #[] 40)).drew = XE at *
        clear hgE
        refine wpAnyH_ready (rs := [12]) (by kernel_rfl) (by simp) ?_
        refine (AllReadyH.cons rfl (fun K hK => ?_) AllReadyH.nil)
        refine step_append_at _ rfl _ _ rfl sl_u32 w2.heap.size _ 0 [] rfl hr0 w.heap.size sA sn sc (sx.map (Value.int .u32)) rfl (by rw [List.length_map, ← hSX.out, Nat.mul_one]) ((hU.out.2).below (bE.mono hbs)) ints1 (by unfold maxLen; omega) (by omega) hse ?_
        intro v3 w3 ho3 hg3 _
        rw [Nat.zero_add, List.nil_append] at ho3
        obtain ⟨A3, c3, rfl⟩ := own_form ho3
        have bX3 := bE.grown hg3 bE.size (fun k hk => by cases hk; exact hs2)
        refine hK.out _ _ (HC.out _ (bX3.mono hbs)) (fun hHeld2 => ?_)
        clear hK K hHeld
        have hHeld := hHeld2
        clear hHeld2
        try simp only [Act.put, List.getElem_toArray, List.getElem_cons_zero, List.getElem_cons_succ, List.setIfInBounds_toArray, List.set_cons_zero, List.set_cons_succ]
        refine wpAnyH_ready (rs := [13]) (by kernel_rfl) (by simp) ?_
        refine (AllReadyH.cons rfl (fun K hK => ?_) AllReadyH.nil)
        go_simp
        refine hK.out _ _ hHeld (fun hHeld2 => ?_)
        clear hK K hHeld
        have hHeld := hHeld2
        clear hHeld2
        try simp only [Act.put, List.getElem_toArray, List.getElem_cons_zero, List.getElem_cons_succ, List.setIfInBounds_toArray, List.set_cons_zero, List.set_cons_succ]
        refine wpAnyH_ready (rs := [14]) (by kernel_rfl) (by simp) ?_
        refine (AllReadyH.cons rfl (fun K hK => ?_) AllReadyH.nil)
        go_simp
        refine hK.out _ _ (HC.out _ ((bl_alloc bX3 (.cells #[.int .i64 sk, .slice A3 sn c3] 31)).mono hbs)) (fun hHeld2 => ?_)
        clear hK K hHeld
        have hHeld := hHeld2
        clear hHeld2
        try simp only [Act.put, List.getElem_toArray, List.getElem_cons_zero, List.getElem_cons_succ, List.setIfInBounds_toArray, List.set_cons_zero, List.set_cons_succ]
        have bX4 := bl_alloc bX3 (.cells #[.int .i64 sk, .slice A3 sn c3] 31)
        have oS := Own.new w3 31 #[.int .i64 sk, .slice A3 sn c3]
        have hs4 : w3.heap.size < (w3.alloc (.cells #[.int .i64 sk, .slice A3 sn c3] 31)).heap.size := by simp
        have hSD : SD (w3.alloc (.cells #[.int .i64 sk, .slice A3 sn c3] 31)) w.heap.size ⟨sk, A3, sn, c3, sx⟩ := ⟨own_belowG (own_leG ho3 (Nat.le_trans hbs hs2)) (bl_alloc (bl_refl _) _), hSX.out, hRg.out, hWf.out⟩
        have hr4 := own_belowG HRw.out.1 bX4
        have hbs4 := Nat.le_trans hbs bX4.size
        generalize hg4 : w3.alloc (.cells #[.int .i64 sk, .slice A3 sn c3] 31) = X4 at *
        clear hg4
        refine wpAnyH_ready (rs := [15]) (by kernel_rfl) (by simp) ?_
        refine (AllReadyH.cons rfl (fun K hK => ?_) AllReadyH.nil)
        refine step_append_at _ rfl _ _ rfl sl_segsM w.heap.size _ _ _ rfl hr4 _ (some ⟨w3.heap.size, 0, none⟩) 1 1 [.int .i64 sk, .slice A3 sn c3] rfl rfl (Shows.of_owned (xs := [.int .i64 sk, .slice A3 sn c3]) oS hs4) (oneS _ _ _ _) (by unfold maxLen; omega) (by omega) hbs4 ?_
        intro v5 w5 ho5 hg5 _
        have hfin := HRw.out.pushX (q := ⟨sk, A3, sn, c3, sx⟩) bX4 hSD ho5 hg5
        have hb5 := (bl_trans HB.out bX4).grown hg5 hbs4 (fun k hk => (row_typed hr4 hk).2)
        have hbw5 : Below w.heap.size wr w5 := (bX4.mono hbs).grown hg5 hbs4 (fun k hk => (row_typed hr4 hk).2)
        refine hK.out _ _ (HC.out _ hbw5) (fun hHeld2 => ?_)
        clear hK K hHeld
        have hHeld := hHeld2
        clear hHeld2
        try simp only [Act.put, List.getElem_toArray, List.getElem_cons_zero, List.getElem_cons_succ, List.setIfInBounds_toArray, List.set_cons_zero, List.set_cons_succ]
        refine wpAnyH_ready (rs := [16]) (by kernel_rfl) (by simp) ?_
        refine (AllReadyH.cons rfl (fun K hK => ?_) AllReadyH.nil)
        go_simp
        refine hK.out _ _ (HC.out _ hbw5) (fun hHeld2 => ?_)
        clear hK K hHeld
        have hHeld := hHeld2
        clear hHeld2
        try simp only [Act.put, List.getElem_toArray, List.getElem_cons_zero, List.getElem_cons_succ, List.setIfInBounds_toArray, List.set_cons_zero, List.set_cons_succ]
        refine wpAnyH_done (by kernel_rfl) ?_ _
        have hF := Lib.hid (show headK n (ss.map sgK) = (L ++ [(⟨sk, A3, sn, c3, sx⟩ : Sg)]).map sgK ++ headK (m - (z : Int)) ((ss.drop (j + 1)).map sgK) ∧ (L ++ [(⟨sk, A3, sn, c3, sx⟩ : Sg)]).length = j + 1 ∧ ∀ s ∈ L ++ [(⟨sk, A3, sn, c3, sx⟩ : Sg)], s.n ≤ 1000 from ⟨by rw [hH2.out.1, hK.out, List.map_append, List.append_assoc]; rfl, by rw [List.length_append, hH2.out.2.1]; rfl, fun s hs => by
          rcases List.mem_append.1 hs with hs | hs
          · exact hH2.out.2.2 s hs
          · rw [List.mem_singleton] at hs
            subst hs
            exact hsn⟩)
        clear bE oE hr0 bX3 bX4 oS hr4 hSD hg5 ho5 hbw5 ho3 hg3 f0 f1 e0 e1
        go_wp2
        go_roundw
        case rel => exact ⟨j + 1, m - (z : Int), _, by omega, by go_num, rfl, by omega, hfin, hF, hb5⟩
        case measure => simp [intOf]; omega
      · have hle' : ¬ segLen (sk, sx) ≤ m := by rw [HZ.out]; exact hle
        by_cases hm0 : 0 < m
        · by_cases hk2 : sk = 2
          · have hK := Lib.hid (headK_part (n := m) (p := (sk, sx)) (L := (ss.drop (j + 1)).map sgK) hle' ⟨hk2, hm0⟩)
            have q1 : (sk == 2) = true := by simpa using hk2
            have hzn : z = sn := by
              have h0 := HZ.out
              unfold segLen at h0
              rw [if_neg (by omega), if_pos hk2] at h0
              rw [hSX.out]
              exact h0.symm
            have hm3 : m ≤ (sn : Int) := by omega
            have hmn : m.toNat ≤ sn := by omega
            have hmc : m ≤ (sc : Int) := by omega
            have hm00 : (0 : Int) ≤ m := by omega
            have hmc2 : m.toNat ≤ sc := by omega
            have oE := Own.new w2 40 #[]
            have bE := bl_alloc hb2 (.cells #[] 40)
            have hr0 : (w2.alloc (.cells #[] 40)).ownsRow w2.heap.size 40 1 (.slice (some ⟨w2.heap.size, 0, none⟩) 0 0) 0 [] := Own.row (cs := []) oE rfl (Nat.le_refl _) (by unfold maxLen; omega)
            obtain ⟨g0, g1⟩ := HC.out _ (bE.mono hbs)
            have hsU := ((u32s_front hU.out hmn).2).below (bE.mono hbs)
            have hlu : ((sx.take m.toNat).map (Value.int .u32)).length = m.toNat * 1 := by rw [List.length_map, List.length_take, Nat.mul_one]; have := hSX.out; omega
            have hs2 := hb2.size
            clear hk2 hle' hzn
            go_wp2_with (first
              | (at_builtin; refine wpList_append_grow _ rfl _ _ rfl sl_u32 w2.heap.size _ 0 [] rfl hr0 w.heap.size sA m.toNat sc ((sx.take m.toNat).map (Value.int .u32)) rfl hlu hsU ints1 (by unfold maxLen; omega) (by omega) (by simp) ?_; intro v3 w3 ho3 hg3; rw [Nat.zero_add, List.nil_append] at ho3; obtain ⟨A3, c3, rfl⟩ := own_form ho3; have bX3 := bE.grown hg3 bE.size (fun k hk => by cases hk; exact hs2); have bX4 := bl_alloc bX3 (.cells #[.int .i64 2, .slice A3 m.toNat c3] 31); have oS4 := Own.new w3 31 #[.int .i64 2, .slice A3 m.toNat c3]; have hr4 := Lib.hid (own_belowG HRw.out.1 bX4); have hbs4 := Nat.le_trans hbs bX4.size)
              | (at_builtin; refine wpList_append_grow _ rfl _ _ rfl sl_segsM w.heap.size _ L.length (cellsS L) rfl hr4.out (w3.heap.size + 1) (some ⟨w3.heap.size, 0, none⟩) 1 1 [.int .i64 2, .slice A3 m.toNat c3] rfl rfl (Shows.of_owned (xs := [.int .i64 2, .slice A3 m.toNat c3]) oS4 (Nat.lt_succ_self _)) (oneS _ _ _ _) (by unfold maxLen; omega) (by omega) hbs4 ?_; intro v5 w5 ho5 hg5))
            have hSD : SD (w3.alloc (.cells #[.int .i64 2, .slice A3 m.toNat c3] 31)) w.heap.size ⟨2, A3, m.toNat, c3, sx.take m.toNat⟩ := ⟨own_belowG (own_leG ho3 (Nat.le_trans hbs hs2)) (bl_alloc (bl_refl _) _), by show m.toNat = _; rw [List.length_take]; have := hSX.out; omega, fun x hx => hRg.out x (List.mem_of_mem_take hx), rfl⟩
            have hfin := HRw.out.pushX (q := ⟨2, A3, m.toNat, c3, sx.take m.toNat⟩) bX4 hSD ho5 hg5
            have hb5 := (bl_trans HB.out bX4).grown hg5 hbs4 (fun k hk => (row_typed hr4.out hk).2)
            have hF := Lib.hid (show (L ++ [(⟨2, A3, m.toNat, c3, sx.take m.toNat⟩ : Sg)]).map sgK = headK n (ss.map sgK) by rw [hH2.out.1, hK.out, List.map_append]; rfl)
            have hG := Lib.hid (show (L ++ [(⟨2, A3, m.toNat, c3, sx.take m.toNat⟩ : Sg)]).length ≤ 501 ∧ ∀ s ∈ L ++ [(⟨2, A3, m.toNat, c3, sx.take m.toNat⟩ : Sg)], s.n ≤ 1000 from ⟨by rw [List.length_append]; show L.length + 1 ≤ 501; omega, fun s hs => by
              rcases List.mem_append.1 hs with hs | hs
              · exact hH2.out.2.2 s hs
              · rw [List.mem_singleton] at hs
                subst hs
                show m.toNat ≤ 1000
                omega⟩)
            go_ret
            exact ⟨_, _, rfl, hfin, Lib.hid ⟨hF.out, hG.out.1, hG.out.2⟩, hb5⟩
          · have hK := Lib.hid (headK_end (n := m) (p := (sk, sx)) (L := (ss.drop (j + 1)).map sgK) hle' (fun h => hk2 h.1))
            have q1 : (sk == 2) = false := by simpa using hk2
            have hR := Lib.hid (show L.map sgK = headK n (ss.map sgK) by rw [hH2.out.1, hK.out, List.append_nil])
            clear hk2 hle' hK
            go_wp2
            go_ret
            exact ⟨_, L, rfl, HRw.out.below hb2, Lib.hid ⟨hR.out, by omega, hH2.out.2.2⟩, bl_trans HB.out hb2⟩
        · have hK := Lib.hid (headK_end (n := m) (p := (sk, sx)) (L := (ss.drop (j + 1)).map sgK) hle' (fun h => hm0 h.2))
          have hR := Lib.hid (show L.map sgK = headK n (ss.map sgK) by rw [hH2.out.1, hK.out, List.append_nil])
          clear hle' hK
          go_wp2
          go_ret
          exact ⟨_, L, rfl, HRw.out.below hb2, Lib.hid ⟨hR.out, by omega, hH2.out.2.2⟩, bl_trans HB.out hb2⟩
    · have hjn : j = N := by omega
      have hR := Lib.hid (show L.map sgK = headK n (ss.map sgK) by rw [hL.out.1, List.drop_eq_nil_of_le (by have := HN.out; omega)]; show _ = _ ++ []; rw [List.append_nil])
      go_wp2
      go_ret
      exact ⟨_, L, rfl, hrow, Lib.hid ⟨hR.out, by omega, hL.out.2.2⟩, hb⟩
end Go.Proofs.YtniheakafkakhabDoor

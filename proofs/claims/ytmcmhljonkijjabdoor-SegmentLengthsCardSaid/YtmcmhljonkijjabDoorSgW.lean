/- SegmentLengths: the walk -/
import Derived.Test.YtmcmhljonkijjabDoorSgV
namespace Go.Proofs.YtmcmhljonkijjabDoor
open Go.RowKit Go.Sort

set_option maxRecDepth 100000 in
set_option maxHeartbeats 3200000 in
theorem seglen_yes (A : Option Addr) (n c : Nat) (ss : List Sg) (w : World) (h : Segs w w.heap.size A n ss) (hn : n ≤ 50) (hs : ∀ s ∈ ss, s.n ≤ 1000) (N : Nat) (hNl : lenS ss n = N) (_hN2 : N ≤ 1000000) (V : Bool) (hVl : ss.all (sgOk 4) = V)
    (h1 : Hid (GivesV w 11 #[.slice A n c] (.bool true))) (hL1 : Hid (GivesV w 23 #[.slice A n c] (.int .i64 N))) (hL2 : Hid (GivesV w 24 #[.slice A n c] (.int .i64 N)))
    (hV4 : Hid (GivesV w 26 #[.int .i64 4, .slice A n c] (.bool V))) (hA : Hid (GivesV w 12 #[] (.bool true))) :
    Calls Tryd.prog 5 #[.slice A n c] w fun e w' => e = .returned (.bool true) ∧ Below w.heap.size w w' := by
  unfold GivesV at *
  have HV := Lib.hid h
  have HN := Lib.hid h.1
  have HS := Lib.hid hs
  have HNl := Lib.hid hNl
  have HVl := Lib.hid hVl
  clear h hs hNl hVl
  go_enter Tryd.func5, Tryd.ntmps5
  go_wp2_with fail
  refine (h1.out _ (bl_refl w)).mono ?_
  rintro e w1 ⟨rfl, hb1⟩
  go_wp2_with fail
  go_loopw [3, 16] (fun v i wr => ∃ (j : Nat) (L : List Sg), j ≤ n ∧ i = .int .i64 j ∧ SRow wr w.heap.size v L ∧ Hid (L.map sgK = (ss.take j).map sgK ∧ L.length = j ∧ ∀ s ∈ L, s.n ≤ 1000) ∧ Below w.heap.size w wr) (fun _ i _ => n - (intOf i).toNat)
  case atStart => exact ⟨0, [], Nat.zero_le _, rfl, SRow.nil _ _, Lib.hid ⟨rfl, rfl, (fun _ h => by cases h)⟩, hb1⟩
  case round =>
    obtain ⟨j, L, hj, rfl, hrow, hL, hbw⟩ := hrel
    clear hb1
    obtain ⟨A0, c0, rfl⟩ := own_form hrow.1
    by_cases hlt : j < n
    · obtain ⟨b, o, rfl, hbB, e0, e1⟩ := (HV.out.below hbw).at_ hlt
      have hj1 := Lib.hid (show j < ss.length by rw [← HN.out]; exact hlt)
      have hSt := Lib.hid (show (ss.take (j + 1)).map sgK = (ss.take j).map sgK ++ [sgK (sgth ss j)] by rw [take_sgth hj1.out, List.map_append]; rfl)
      have hU := (segs_u32 HV.out hj1.out).below hbw
      have hR := Lib.hid ((HV.out.2.1 _ (sgth_mem hj1.out)).2.2.2.1)
      have hW := Lib.hid ((HV.out.2.1 _ (sgth_mem hj1.out)).2.2.1)
      have hsn := HS.out _ (sgth_mem hj1.out)
      have hK : Hid (sgK (sgth ss j) = ((sgth ss j).k, (sgth ss j).xs)) := Lib.hid rfl
      generalize sgK (sgth ss j) = kq at *
      generalize sgth ss j = s at *
      obtain ⟨sk, sA, sn, sc, sx⟩ := s
      dsimp only at *
      have HLx := Lib.hid hU.1
      have hbs := hbw.size
      have hCl := Lib.hid (fun W (hb : Below wr.heap.size wr W) => cloneU_any sA sn sc sx W ((hU.below (Joins.below_le hb hbs)).more (by have := hb.size; omega)) (by omega))
      have HRw := Lib.hid hrow
      have HBw := Lib.hid hbw
      have oB := Own.new wr 36 #[.int .i64 sk, .slice sA sn sc]
      have bX : Below wr.heap.size wr _ := bl_alloc (bl_refl wr) (.cells #[.int .i64 sk, .slice sA sn sc] 36)
      have hLl : L.length ≤ 50 := by have := hL.out.2.1; omega
      clear hrow hbw hU
      go_wp2_with fail
      have bD := bX.drew
      obtain ⟨d0, d1⟩ := seg_two oB.drew
      generalize (wr.alloc (.cells #[.int .i64 sk, .slice sA sn sc] 36)) = X at *
      have hXs := bD.size
      go_region_law ((first
        | (go_simp; go_at_call 20; (with_reducible refine (hCl.out _ bD).mono ?_); rintro e w2 ⟨v2, rfl, ho2, hb2⟩; obtain ⟨A1, c1, rfl⟩ := own_form ho2; have bW := bl_trans bD hb2; have bY := bl_alloc bW (.cells #[.int .i64 sk, .slice A1 sn c1] 36); have o2 := oB.drew.step hb2; have o3 := o2.alloc (.cells #[.int .i64 sk, .slice A1 sn c1] 36); have f0 := o2.cell (i := 0) rfl; have g0 := o3.cell (i := 0) rfl; have oS := Own.new w2 36 #[.int .i64 sk, .slice A1 sn c1]; have HO2 := Lib.hid ho2; clear ho2; dsimp only)
        | (refine step_append_at _ rfl _ _ rfl sl_segs w.heap.size _ L.length (cellsS L) rfl (HRw.out.below bY).1 (w2.heap.size + 1) (some ⟨w2.heap.size, 0, none⟩) 1 1 [.int .i64 sk, .slice A1 sn c1] rfl rfl (Shows.of_owned (xs := [.int .i64 sk, .slice A1 sn c1]) oS (Nat.lt_succ_self _)) (oneS _ _ _ _) (by unfold maxLen; omega) (by omega) (by have := bY.size; omega) ?_; intro v3 w3 ho3 hg3 _)))
      all_goals
        have hSD := show SD w2 w.heap.size ⟨sk, A1, sn, c1, sx⟩ from ⟨own_leG HO2.out (by have := bD.size; omega), HLx.out, hR.out, hW.out⟩
        have hr3 := (HRw.out.below bW).push hSD ho3 hg3
        have hb3 := ((bl_trans HBw.out bW).alloc (bl_trans HBw.out bW).size _).grown hg3 (by have := bY.size; omega) (own_base (HRw.out.below bW).1)
        have hF := Lib.hid (show (L ++ [(⟨sk, A1, sn, c1, sx⟩ : Sg)]).map sgK = (ss.take (j + 1)).map sgK ∧ (L ++ [(⟨sk, A1, sn, c1, sx⟩ : Sg)]).length = j + 1 ∧ ∀ s ∈ L ++ [(⟨sk, A1, sn, c1, sx⟩ : Sg)], s.n ≤ 1000 from ⟨by rw [hSt.out, List.map_append, hL.out.1, hK.out]; rfl, by rw [List.length_append, hL.out.2.1]; rfl, fun s hs => by
          rcases List.mem_append.1 hs with hs | hs
          · exact hL.out.2.2 s hs
          · rw [List.mem_singleton] at hs
            subst hs
            exact hsn⟩)
        go_wp2
        go_roundw
        case rel => exact ⟨j + 1, _, by omega, by go_num, hr3, hF, hb3⟩
        case measure => simp [intOf]; omega
    · obtain rfl : n = j := by omega
      obtain ⟨W1, rfl⟩ : ∃ x, x = wr := ⟨_, rfl⟩
      have hLS := Lib.hid (show L.map sgK = ss.map sgK by have := hL.out.1; rwa [List.take_of_length_le (by rw [← HN.out]; exact Nat.le_refl _)] at this)
      have hLl := hL.out.2.1
      obtain ⟨A0', c0', hv0, hSg⟩ := hrow.segs
      rw [hLl] at hv0 hSg
      injection hv0 with q1 _ q2
      subst q1 q2
      rw [hLl]
      have HSg := Lib.hid hSg
      have HBw := Lib.hid hbw
      have hXl : Hid (∀ s ∈ L, s.n = s.xs.length) := Lib.hid (fun s hs => (hrow.2 s hs).2.1)
      have hSl : Hid (∀ s ∈ ss, s.n = s.xs.length) := Lib.hid (fun s hs => (HV.out.2.1 s hs).2.2.2.2.1)
      have hL0 := Lib.hid hL.out
      clear hrow hbw hL hLl hSg
      go_wp2_with fail
      refine (snarrow_any A0 n c0 L W1 HSg.out (by omega) hL0.out.2.2).mono ?_
      rintro e w2 ⟨v2, M, rfl, hM, hMf, hb2⟩
      obtain ⟨A2, c2, rfl⟩ := own_form hM.1
      have hMn := hMf.out.2.1
      obtain ⟨A2', c2', hv2, hSM⟩ := hM.segs
      rw [hMn] at hv2 hSM
      rw [hMn]
      injection hv2 with q1 _ q2
      subst q1 q2
      have HSM := Lib.hid hSM
      have HMs := Lib.hid hM.mseg
      have hMK := Lib.hid (show M.map sgK = ss.map narK by
        rw [hMf.out.1]
        have e1 : ∀ l : List Sg, l.map narK = (l.map sgK).map fun p => (p.1, p.2.map nar) := fun l => by rw [List.map_map]; rfl
        rw [e1, e1, hLS.out])
      have hMx : Hid (∀ s ∈ M, s.n = s.xs.length) := Lib.hid (fun s hs => (hM.2 s hs).2.1)
      have hM1 := Lib.hid hMf.out.2.2
      have hB2 := Lib.hid (bl_trans HBw.out hb2)
      have hC2 := Lib.hid hb2
      clear hM hSM hMn hb2 hMf
      go_wp2_with fail
      refine (rnarrow_any A n c ss w2 ((HV.out.below hB2.out).more hB2.out.size) (by omega) HS.out).mono ?_
      rintro e w3 ⟨v3, R, rfl, hRr, hRf, hb3⟩
      obtain ⟨A3, c3, rfl⟩ := own_form hRr.1
      have hRn := hRf.out.2.1
      obtain ⟨A3', c3', hv3, hSR⟩ := hRr.segs
      rw [hRn] at hv3 hSR
      rw [hRn]
      injection hv3 with q1 _ q2
      subst q1 q2
      have hSame := Lib.hid (rsameS_any A2 A3 n n c2 c3 M R w3 _ _ (HSM.out.below hb3) hSR (by omega) (by omega) hM1.out hRf.out.2.2)
      rw [decide_eq_true (hMK.out.trans hRf.out.1.symm)] at hSame
      have hB3 := bl_trans hB2.out hb3
      have hC3 := hb3
      clear hRr hSR hRn hb3 hRf
      go_wp2_with fail
      refine hSame.out.mono ?_
      rintro e w' ⟨rfl, m4, rfl⟩
      have hB4 := bl_drewN hB3 m4
      have hC4 := bl_drewN hC3 m4
      generalize w3.drewN m4 = w4 at *
      clear hB3 hC3 hSame
      have hLM : Hid (∀ W, Below w2.heap.size w2 W → Calls Tryd.prog 23 #[.slice A2 n c2] W fun e w' => e = .returned (.int .i64 N) ∧ Below W.heap.size W w') := Lib.hid (fun W hb => (slength_any A2 n c2 M W ((HSM.out.below hb).more hb.size) (by omega) hM1.out).mono fun e w' ⟨he, hw⟩ => ⟨by rw [he, lenS_eq hMK.out hMx.out hSl.out, HNl.out], hw⟩)
      have hVM : Hid (∀ W, Below w2.heap.size w2 W → Calls Tryd.prog 25 #[.int .i64 2, .slice A2 n c2] W fun e w' => e = .returned (.bool V) ∧ Below W.heap.size W w') := Lib.hid (fun W hb => (svalid_yes 2 (.inl rfl) A2 n c2 M W ((HSM.out.below hb).more hb.size) (by omega)).mono fun e w' ⟨he, hw⟩ => ⟨by rw [he, ok_eq hMK.out hMx.out hSl.out, HVl.out], hw⟩)
      skip
      · skip
        go_wp2_with fail
        refine (hL1.out _ hB4).mono ?_
        rintro e w5 ⟨rfl, hb5⟩
        have hB5 := bl_trans hB4 hb5
        have hC5 := bl_trans hC4 hb5
        go_wp2_with fail
        refine (hL2.out _ hB5).mono ?_
        rintro e w6 ⟨rfl, hb6⟩
        have hB6 := bl_trans hB5 hb6
        have hC6 := bl_trans hC5 hb6
        go_wp2_with fail
        refine (hLM.out _ hC6).mono ?_
        rintro e w7 ⟨rfl, hb7⟩
        have hB7 := bl_trans hB6 hb7
        have hC7 := bl_trans hC6 hb7
        go_wp2_with fail
        refine (hL2.out _ hB7).mono ?_
        rintro e w8 ⟨rfl, hb8⟩
        have hB8 := bl_trans hB7 hb8
        have hC8 := bl_trans hC7 hb8
        go_wp2_with fail
        refine (hVM.out _ hC8).mono ?_
        rintro e w9 ⟨rfl, hb9⟩
        have hB9 := bl_trans hB8 hb9
        have hC9 := bl_trans hC8 hb9
        go_wp2_with fail
        refine (hV4.out _ hB9).mono ?_
        rintro e wa ⟨rfl, hba⟩
        have hBa := bl_trans hB9 hba
        have hCa := bl_trans hC9 hba
        clear hB4 hC4 hb5 hB5 hC5 hb6 hB6 hC6 hb7 hB7 hC7 hb8 hB8 hC8 hb9 hB9 hC9 hba
        have hMa := HMs.out.below hCa
        have hDa := (hC2.out.trans (Joins.below_le hCa hC2.out.size))
        have hsa := hDa.size
        have HBa := Lib.hid hBa
        clear hBa hCa
        go_wp2_with fail
        go_loopw [60] (fun i wr => (∃ j : Nat, j ≤ n ∧ i = .int .i64 j) ∧ MSeg wr W1.heap.size A2 M ∧ Below W1.heap.size W1 wr) (fun i _ => n - (intOf i).toNat)
        case atStart => exact ⟨⟨0, Nat.zero_le _, rfl⟩, hMa, hDa⟩
        case round =>
          obtain ⟨⟨j, hj, rfl⟩, hms, hbr⟩ := hrel
          clear hMa hDa hsa
          by_cases hltj : j < n
          · obtain ⟨hrow, hrd⟩ := hms
            have hjM := Lib.hid (show j < M.length by rw [← HSM.out.1]; exact hltj)
            have hrow' := hrow.resolve_left (fun e => by have := hjM.out; rw [e] at this; simp at this)
            obtain ⟨b, o, rfl, hty, hcell⟩ := hrow'
            have hcc := hcell j _ (sgth_some hjM.out)
            have hsm := Lib.hid (sgth_mem hjM.out)
            have hs1 := hM1.out _ hsm.out
            have hbl := hty.lt
            obtain ⟨e0, e1⟩ := hcc
            have hMR : MSeg wr W1.heap.size (some ⟨b, o, none⟩) M := ⟨hrow, hrd⟩
            have HMR := Lib.hid hMR
            have HBR := Lib.hid hbr
            clear hrow hrd hcell hMR hbr
            generalize sgth M j = s at *
            obtain ⟨sk, sA, sn, sc, sx⟩ := s
            dsimp only at *
            obtain ⟨wo, rfl⟩ : ∃ x, x = wr := ⟨_, rfl⟩
            have hwo := HBR.out.size
            have oS := Own.new wo 36 #[.int .i64 sk, .slice sA sn sc]
            have hm0 := HMR.out.below (bl_alloc (bl_refl wo) (.cells #[.int .i64 sk, .slice sA sn sc] 36))
            have hb0 := HBR.out.alloc hwo (.cells #[.int .i64 sk, .slice sA sn sc] 36)
            go_wp2_with fail
            go_loopw [67] (fun i wi => (∃ q : Nat, q ≤ sn ∧ i = .int .i64 q) ∧ MSeg wi W1.heap.size (some ⟨b, o, none⟩) M ∧ Below W1.heap.size W1 wi ∧ Own wi wo.heap.size 36 #[.int .i64 sk, .slice sA sn sc]) (fun i _ => sn - (intOf i).toNat)
            case atStart => exact ⟨⟨0, Nat.zero_le _, rfl⟩, hm0, hb0, oS⟩
            case round =>
              obtain ⟨⟨q, hq, rfl⟩, hmi, hbi, oi⟩ := hrel
              clear hm0 hb0 oS
              by_cases hltq : q < sn
              · have hru := (hmi.2 _ hsm.out).resolve_left (by dsimp only; omega)
                obtain ⟨b2, o2, hA2, ⟨hlo, hty2⟩, hz⟩ := hru
                dsimp only at hA2
                subst hA2
                obtain ⟨z, hz⟩ := hz q hltq
                have hc1 := oi.cell (i := 1) rfl
                have hfr := TypedV.frozen hty2 (o2 + q)
                have hl2 := hty2.lt
                have HMI := Lib.hid hmi
                have HBI := Lib.hid hbi
                have hne := Lib.hid (oi.typed.ne hty2 seg_types)
                have HOI := Lib.hid oi
                have HTY := Lib.hid hty2
                clear hmi hbi oi hty2
                go_wp2
                go_roundw
                case rel => exact ⟨⟨q + 1, by omega, by go_num⟩, HMI.out.set_ HTY.out _, HBI.out.setCell (by exact hlo) _, HOI.out.far (by exact hne.out) _⟩
                case measure => simp [intOf]; omega
              · go_wp2
                go_roundw
                case rel => exact ⟨⟨j + 1, by omega, by go_num⟩, hmi, hbi⟩
                case measure => simp [intOf]; omega
          · have hBz : Below w.heap.size w wr := bl_trans HBw.out hbr
            have hFin : Hid (∀ W, Below W1.heap.size W1 W → Calls Tryd.prog 13 #[.slice A0 n c0, .slice A n c] W fun e w' => e = .returned (.bool true) ∧ Below W.heap.size W w') := Lib.hid (fun W hb => (rsameS_any A0 A n n c0 c L ss W _ _ (HSg.out.below hb) (HV.out.below (bl_trans HBw.out hb)) (by omega) (by omega) hL0.out.2.2 HS.out).mono fun e w' ⟨he, m, hw⟩ => ⟨by rw [he, decide_eq_true hLS.out], by subst hw; exact bl_drewN (bl_refl _) m⟩)
            have HBR := Lib.hid hbr
            clear hms hbr
            go_wp2_with fail
            refine (hA.out _ hBz).mono ?_
            rintro e wb ⟨rfl, hbb⟩
            have hBq := bl_trans hBz hbb
            have hDq := HBR.out.trans (Joins.below_le hbb HBR.out.size)
            go_wp2_with fail
            refine (hFin.out _ hDq).mono ?_
            rintro e wc ⟨rfl, hbc⟩
            have hBw2 := bl_trans hBq hbc
            go_wp2
            go_ret
            exact ⟨rfl, hBw2⟩
set_option maxRecDepth 100000 in
theorem seglen_all (A : Option Addr) (n c : Nat) (ss : List Sg) (w : World) (ht : Tens w) (hbk : Brk w) (hx : Segs w w.heap.size A n ss) (hm : n ≤ maxLen) :
    Calls Tryd.prog 5 #[.slice A n c] w fun e w' => e = .returned (.bool true) ∧ Below w.heap.size w w' := by
  by_cases hf : fewB ss = true
  · obtain ⟨l1, b1⟩ := few_lenV hf
    have hn : n ≤ 50 := by rw [hx.1]; exact l1
    have X : ∀ W, Below w.heap.size w W → Segs W W.heap.size A n ss := fun W hb => (hx.below hb).more hb.size
    have b1' : ∀ s ∈ ss, s.n ≤ 1000 := fun s hs => by have := b1 s hs; omega
    refine seglen_yes A n c ss w hx hn b1' (lenS ss n) rfl (by have := lenS_le (ss := ss) n b1'; omega) (ss.all (sgOk 4)) rfl
      (Lib.hid fun W hb => (few_any A n c ss W (X W hb) hm).mono fun e w' ⟨he, hw⟩ => ⟨by rw [he, hf], by subst hw; exact bl_refl _⟩)
      (Lib.hid fun W hb => slength_any A n c ss W (X W hb) (by omega) b1') (Lib.hid fun W hb => rlength_any A n c ss W (X W hb) (by omega) b1')
      (Lib.hid fun W hb => rvalid_any A n c ss W (X W hb) (by omega) b1') (Lib.hid fun W hb => alive06_any W (ht.below hb) (hbk.below hb))
  · exact seglen_few A n c ss w ht hbk hx hm (by simpa using hf)
end Go.Proofs.YtmcmhljonkijjabDoor

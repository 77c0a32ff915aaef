/- FindingLogs: the walk -/
import Derived.Test.YtmcmhljonkijjaaDoorLgB
namespace Go.Proofs.YtmcmhljonkijjaaDoor
open Go.RowKit Go.Sort

def wantV (ps : List VPart) (k : Nat) : List Vd := (ps.take k).flatMap fun p => errV p.xs
theorem wantV_succ {ps : List VPart} {k : Nat} (h : k < ps.length) : wantV ps (k + 1) = wantV ps k ++ errV (vpth ps k).xs := by
  unfold wantV
  rw [List.take_add_one, vpth_some h]
  simp
theorem errV_lenle (vs : List Vd) : (errV vs).length ≤ vs.length := List.length_filter_le _ _
theorem errV_sub {vs : List Vd} {x : Vd} (h : x ∈ errV vs) : x ∈ vs := (List.mem_filter.1 h).1
/-- A row that shares nothing with the other: who owns what. -/
theorem flogs_end (W0 : List Vd) (k : Int) (j : Nat) (h : W0.length ≤ j) : cntS k ((W0.take j).map sgV) = cntS k (W0.map sgV) := by rw [List.take_of_length_le h]
set_option maxRecDepth 100000 in
set_option maxHeartbeats 12800000 in
theorem flogs_main (A : Option Addr) (n c : Nat) (ps : List VPart) (kd : Int) (w : World) (ht : Tens w) (hx : VParts w w.heap.size A n ps) (hn : n ≤ 20) (hpm : ∀ p ∈ ps, p.n ≤ maxLen) :
    Calls Tryd.prog 4 #[.slice A n c, .int .i64 kd] w fun e w' => e = .returned (.bool true) ∧ Below w.heap.size w w' := by
  have HN := Lib.hid hx.1
  have HX := Lib.hid hx
  have HPM := Lib.hid hpm
  have HT := Lib.hid ht
  have hni : ¬ (20 : Int) < (n : Int) := by omega
  clear hx hpm ht
  go_enter Tryd.func4, Tryd.ntmps4
  go_wp2_with fail
  refine (log_new _).mono ?_
  rintro e w1 ⟨rfl, hl1, hz1, hb1⟩
  go_wp2_with fail
  go_loopw [6, 8, 27] (fun vw _ i wr => ∃ (k : Nat) (vl : Value), k ≤ n ∧ i = .int .i64 k ∧ LogIs wr (w.heap.size + 1) w.heap.size vl ((wantV ps k).map sgV) ∧ wr.ownsRow w.heap.size 40 5 vw (wantV ps k).length (flatV (wantV ps k)) ∧ Hid (∀ j, vw.ownBlock = some j → vl.ownBlock ≠ some j) ∧ Hid ((∀ x ∈ wantV ps k, x.Ok w w.heap.size ∧ x.n ≤ 200) ∧ (wantV ps k).length ≤ 50 * k) ∧ w.heap.size + 1 ≤ wr.heap.size ∧ Below w.heap.size w wr) (fun _ _ i _ => n - (intOf i).toNat)
  case atStart => exact ⟨0, .slice none 0 0, Nat.zero_le _, rfl, hl1, World.ownsRow_nil _ _ _ _, Lib.hid (fun j hj => by cases hj), Lib.hid ⟨(fun _ h => by cases h), by simp [wantV]⟩, by omega, hb1⟩
  case round =>
    obtain ⟨k, vl, hk, rfl, hlog, hrow, hsep, hwok, hzr, hb⟩ := hrel
    clear hl1 hz1 hb1
    by_cases hlt : k < n
    · have hkl := Lib.hid (show k < ps.length by have := HN.out; omega)
      obtain ⟨b, o, rfl, hbB, hc, hV⟩ := (HX.out.below hb).at_ hlt
      have hpn := HPM.out _ (vpth_mem hkl.out)
      have HW := Lib.hid (wantV_succ hkl.out)
      have hV0 := Lib.hid ((HX.out.2.1 _ (vpth_mem hkl.out)))
      generalize vpth ps k = p at *
      obtain ⟨pA, pn, pc, px⟩ := p
      dsimp only at hc hV hpn HW hV0
      unfold VPart.ok at hV0
      dsimp only at hV0
      have hbs := hb.size
      have hFew := Lib.hid (few11_any pA pn pc px wr (hV.more hbs) hpn)
      cases hfw : fewV px with
      | false =>
        rw [hfw] at hFew
        clear hV hlog hrow
        go_wp2_with fail
        refine hFew.out.mono ?_
        rintro e w2 ⟨rfl, hb2⟩
        have hb3 := bl_trans hb hb2
        go_wp2_with fail
        refine (alive11_any _ (HT.out.below hb3)).mono ?_
        rintro e w3 ⟨rfl, hb4⟩
        go_wp2
        go_ret
        exact ⟨rfl, bl_trans hb3 hb4⟩
      | true =>
        rw [hfw] at hFew
        unfold fewV smallV at hfw
        simp only [Bool.and_eq_true, List.all_eq_true, decide_eq_true_eq] at hfw
        have hp50 : pn ≤ 50 := by rw [hV.1]; exact hfw.2
        have hp200 := Lib.hid hfw.1
        have hElen := Lib.hid (errV_lenle px)
        have hpl := Lib.hid hV.1
        clear hfw hpn
        go_wp2_with fail
        refine hFew.out.mono ?_
        rintro e w2 ⟨rfl, hb2⟩
        have hb3 := bl_trans hb hb2
        have hlog2 := hlog.below hb2
        have hrow2 := own_belowG hrow hb2
        have hV2 := (hV0.out.below hb3).more hb3.size
        have hz2 := Nat.le_trans hzr hb2.size
        clear hlog hrow hb hb2 hV hzr hbs hFew
        go_wp2_with fail
        refine (rerrs_any pA pn pc px _ hV2 (by omega)).mono ?_
        rintro e w3 ⟨ve, rfl, hre, hb4⟩
        obtain ⟨Ae, ce, rfl⟩ := own_form hre
        have hsE := Shows.of_own hre
        have hb5 := bl_trans hb3 hb4
        have hlog3 := hlog2.below hb4
        have hrow3 := own_belowG hrow2 hb4
        have hz3 := Nat.le_trans hz2 hb4.size
        clear hlog2 hrow2 hb3 hb4 hV2 hz2 hre
        have hwl := hwok.out.2
        generalize hE : errV px = E at *
        have HE := Lib.hid hE
        have hEl : E.length ≤ 50 := by have := hElen.out; have := hpl.out; omega
        clear hE
        have hkk : k ≤ 20 := by omega
        generalize hWk : wantV ps k = Wk at *
        have HWk := Lib.hid hWk
        clear hWk
        go_wp2_with (at_builtin; refine wpList_append_at _ rfl _ _ rfl sl_vds w.heap.size _ Wk.length (flatV Wk) rfl hrow3 w3.heap.size Ae E.length ce (flatV E) rfl flatV_len hsE (flatV_one _) (by unfold maxLen; omega) (by omega) (by omega) ?_; intro v4 w4 hrow4 hgr4 hob4)
        have hR4 : Rest w3 w4 (fun i => u6.ownBlock = some i) := Rest.of_grown hgr4 (fun j hj => hj)
        have hlog4 := hlog3.rest hR4 (fun e => by
          obtain ⟨L, _, og, _⟩ := hlog3
          exact og.typed.ne (row_typed hrow3 e).1 log_types.1 rfl) (fun j hj e => hsep.out j e hj) (fun j _ hj e => hj.ne (row_typed hrow3 e).1 (Ne.symm log_types.2.2) rfl)
        have hb6 : Below w.heap.size w w4 := hb5.grown hgr4 hb5.size (fun j hj => (hrow3.lt j hj).1)
        have hz4 := Nat.le_trans hz3 hgr4.size
        have hsep4 := Lib.hid (show ∀ j, v4.ownBlock = some j → vl.ownBlock ≠ some j from fun j hj => by
          rcases hob4 with h | h
          · exact hsep.out j (h ▸ hj)
          · rw [h] at hj
            cases hj
            intro e
            obtain ⟨L, _, _, hr, _⟩ := hlog3
            exact absurd (hr.lt _ e).2 (Nat.lt_irrefl _))
        clear hlog3 hrow3 hgr4 hob4 hR4 hb5 hsE hz3 hsep
        have hvl : ∀ j, vl.ownBlock = some j → w.heap.size + 1 ≤ j := fun j hj => by
          obtain ⟨L, _, _, hr, _⟩ := hlog4
          exact (hr.lt j hj).1
        have hAdd := Lib.hid (add_anyL w.heap.size (w.heap.size + 1) vl (Wk.map sgV) pA pn pc px w4 hlog4 hz4 (fun W hR => by
          have hbW : Below w.heap.size w W := hb6.trans (hR.to_below hb6.size (fun i hi h => by
            rcases h with h | h
            · omega
            · have := hvl i h; omega))
          exact (hV0.out.below hbW).more hb6.size) (by omega) (by rw [List.length_map]; omega) (fun x hx => by have := hp200.out x hx; omega))
        rw [HE.out] at hAdd
        have hvl' := Lib.hid hvl
        obtain ⟨A4, c4, rfl⟩ := own_form hrow4
        have hty : ∀ j, (Value.slice A4 (Wk.length + E.length) c4).ownBlock = some j → ¬ (j = w.heap.size ∨ vl.ownBlock = some j) := fun j hj h => by
          rcases h with h | h
          · obtain ⟨L, _, og, _⟩ := hlog4
            exact og.typed.ne (row_typed hrow4 hj).1 log_types.1 h.symm
          · exact hsep4.out j hj h
        have HTY := Lib.hid hty
        have HL4 := Lib.hid (fun j (hj : (Value.slice A4 (Wk.length + E.length) c4).ownBlock = some j) => (hrow4.lt j hj).2)
        clear hvl hty hlog4
        go_wp2_with fail
        refine hAdd.out.mono ?_
        rintro e w5 ⟨rfl, vl5, hlog5, hob5, hR5⟩
        have hrow5 := row_rest hrow4 hR5 HTY.out
        have hb7 : Below w.heap.size w w5 := hb6.trans (hR5.to_below hb6.size (fun i hi h => by
          rcases h with h | h
          · omega
          · have := hvl'.out i h; omega))
        have hz5 := Nat.le_trans hz4 hR5.size
        have hsep5 := Lib.hid (show ∀ j, (Value.slice A4 (Wk.length + E.length) c4).ownBlock = some j → vl5.ownBlock ≠ some j from fun j hj e => by
          rcases hob5 with h | h
          · exact hsep4.out j hj (h ▸ e)
          · have h1 := h j e
            have h2 := HL4.out j hj
            omega)
        have hlenE : Hid ((Wk.map sgV ++ E.map sgV).length = Wk.length + E.length) := Lib.hid (by rw [List.length_append, List.length_map, List.length_map])
        clear hrow4 hR5 hob5 hb6 hz4 hsep4
        rw [hlenE.out]
        have HWn := Lib.hid (show wantV ps (k + 1) = Wk ++ E from HW.out)
        have hfin := Lib.hid (show (∀ x ∈ Wk ++ E, x.Ok w w.heap.size ∧ x.n ≤ 200) ∧ (Wk ++ E).length ≤ 50 * (k + 1) from ⟨fun x hx => by
          rcases List.mem_append.1 hx with hx | hx
          · exact hwok.out.1 x hx
          · rw [← HE.out] at hx
            exact ⟨hV0.out.2.1 x (errV_sub hx), hp200.out x (errV_sub hx)⟩, by rw [List.length_append]; omega⟩)
        go_wp2
        go_roundw
        case rel => exact ⟨k + 1, vl5, by omega, by go_num, by rw [HWn.out, List.map_append]; exact hlog5, by rw [HWn.out, List.length_append, flatV_append]; exact hrow5, hsep5, by rw [HWn.out]; exact hfin, hz5, hb7⟩
        case measure => simp [intOf]; omega
    · obtain rfl : k = n := by omega
      have hwl := hwok.out.2
      generalize wantV ps k = W0 at *
      obtain ⟨A0, c0, rfl, hV⟩ := own_vds hrow (fun x hx => ⟨((hwok.out.1 x hx).1.1.below hb).more hb.size, (hwok.out.1 x hx).1.2⟩)
      have HV := Lib.hid hV
      have hW0 : W0.length ≤ 1000 := by omega
      have hend := Lib.hid (fun j h => flogs_end W0 kd j h)
      have hcst := Lib.hid (fun j h => cnt_step (k := kd) (L := W0) (j := j) h)
      have hcle := Lib.hid (fun j => Nat.le_trans (cntS_le kd ((W0.take j).map sgV)) (show ((W0.take j).map sgV).length ≤ 1000 by rw [List.length_map, List.length_take]; omega))
      have hC0 := Lib.hid (show cntS kd ((W0.take 0).map sgV) = 0 from rfl)
      have HL := Lib.hid hlog
      have hfs := Lib.hid (fun x hx => (hwok.out.1 x hx).2)
      have hBB := Lib.hid hb
      clear hrow hV hsep hlog hwok hb
      generalize hm : W0.length = m at *
      have Hm := Lib.hid hm
      clear hm
      go_wp2_with fail
      go_loopw [9, 48] (fun s i w2 => ∃ j : Nat, j ≤ m ∧ i = .int .i64 j ∧ s = .int .i64 (cntS kd ((W0.take j).map sgV) : Nat) ∧ Below wr.heap.size wr w2) (fun _ i _ => m - (intOf i).toNat)
      case atStart => exact ⟨0, Nat.zero_le _, rfl, by rw [hC0.out]; rfl, bl_refl _⟩
      case round =>
        obtain ⟨j, hj, rfl, rfl, hb2⟩ := hrel
        have hqle := hcle.out j
        by_cases hlj : j < m
        · obtain ⟨b, o, rfl, hbB, _, hrg⟩ := (HV.out.below hb2).at_ hlj
          have hst := Lib.hid (hcst.out j (by have := Hm.out; omega))
          generalize nthV W0 j = x at *
          generalize cntS kd ((W0.take j).map sgV) = q at *
          obtain ⟨d0, d1, d2, d3, d4⟩ := range5 hrg
          have hbs := hb2.size
          have hbw : b < wr.heap.size := by omega
          clear hrg
          by_cases hk : x.k = kd
          · have hk2 : (x.k == kd) = true := by simpa using hk
            have HK := Lib.hid hk
            clear hk
            go_wp2
            go_roundw
            case rel => exact ⟨j + 1, by omega, by go_num, by rw [hst.out, if_pos HK.out]; go_num, bl_alloc hb2 _⟩
            case measure => simp [intOf]; omega
          · have hk2 : (x.k == kd) = false := by simpa using hk
            have HK := Lib.hid hk
            clear hk
            go_wp2
            go_roundw
            case rel => exact ⟨j + 1, by omega, by go_num, by rw [hst.out, if_neg HK.out]; rfl, bl_alloc hb2 _⟩
            case measure => simp [intOf]; omega
        · obtain rfl : j = m := by omega
          have hce := Lib.hid (hend.out j (Nat.le_refl _))
          rw [hce.out] at hqle ⊢
          have hb3 := bl_trans hBB.out hb2
          have hlg := HL.out.below hb2
          have hlen : (W0.map sgV).length ≤ 100000 := by rw [List.length_map, Hm.out]; omega
          have HAl := Lib.hid (fun W (h : Below wr.heap.size wr W) => all_anyL w.heap.size (w.heap.size + 1) vl (W0.map sgV) W (hlg.below h) hlen)
          have HCt := Lib.hid (fun W (h : Below wr.heap.size wr W) => count_anyL w.heap.size (w.heap.size + 1) vl (W0.map sgV) kd W (hlg.below h) hlen)
          have HWo := Lib.hid (fun W (h : Below wr.heap.size wr W) => worst_anyL w.heap.size (w.heap.size + 1) vl W0 W (hlg.below h) (by rw [Hm.out]; omega))
          have HVv := Lib.hid (fun W (h : Below wr.heap.size wr W) => (HV.out.below (bl_trans hb2 h)).more (bl_trans hb2 h).size)
          clear hlen hlg
          generalize cntS kd (W0.map sgV) = q at *
          go_wp2_with fail
          refine (alive11_any _ (HT.out.below hb3)).mono ?_
          rintro e w4 ⟨rfl, hb4⟩
          go_wp2_with fail
          refine (HAl.out _ hb4).mono ?_
          rintro e w5 ⟨va, La, rfl, hma, hra, hb5⟩
          obtain ⟨Aa, ca, rfl, hVa⟩ := hra.vds
          have hla : La.length ≤ 1000 := by have := congrArg List.length hma; rw [List.length_map, List.length_map] at this; rw [this, Hm.out]; omega
          have hd := decide_eq_true hma
          have hEq := Lib.hid (requal_any Aa A0 La.length ca j c0 La W0 _ hVa (HVv.out _ (bl_trans hb4 hb5)) (by omega) (by omega))
          rw [hd] at hEq
          have hb6 := bl_trans hb4 hb5
          clear hma hra hVa hd hb4 hb5
          generalize La.length = la at *
          go_wp2_with fail
          refine hEq.out.mono ?_
          rintro e w6 ⟨rfl, hb7⟩
          have hb8 := bl_trans hb6 hb7
          clear hEq hb6 hb7
          go_wp2_with fail
          refine (HCt.out _ hb8).mono ?_
          rintro e w7 ⟨rfl, hb9⟩
          have hb10 := bl_trans hb8 hb9
          clear hb8 hb9
          go_wp2_with fail
          refine (HWo.out _ hb10).mono ?_
          rintro e w8 ⟨x, rfl, hokx, hsx, hb11⟩
          have hb12 := bl_trans hb10 hb11
          clear hb10 hb11
          have HX1 := Lib.hid (And.intro hokx (sgV_iff.1 hsx))
          clear hokx hsx
          go_wp2_with fail
          refine (rfold_any A0 j c0 W0 _ (HVv.out _ hb12) (by unfold maxLen; omega)).mono ?_
          rintro e w9 ⟨rfl, hb13⟩
          have hb14 := bl_trans hb12 hb13
          have hSm := Lib.hid (rsame4_any x (foldV W0) _ ((HX1.out.1.below hb13).more hb13.size) (foldV_ok (HVv.out _ hb14).2.1))
          rw [HX1.out.2] at hSm
          clear hb12 hb13
          go_wp2_with fail
          refine hSm.out.mono ?_
          rintro e w10 ⟨rfl, hb15⟩
          go_wp2
          go_ret
          exact ⟨rfl, bl_trans hb3 (bl_trans hb14 hb15)⟩
set_option maxRecDepth 100000 in
theorem flogs_all (A : Option Addr) (n c : Nat) (ps : List VPart) (kd : Int) (w : World) (ht : Tens w) (hx : VParts w w.heap.size A n ps) (hm : n ≤ maxLen) (hpm : ∀ p ∈ ps, p.n ≤ maxLen) :
    Calls Tryd.prog 4 #[.slice A n c, .int .i64 kd] w fun e w' => e = .returned (.bool true) ∧ Below w.heap.size w w' := by
  by_cases h : n ≤ 20
  · exact flogs_main A n c ps kd w ht hx h hpm
  · unfold maxLen at hm
    have hni : (20 : Int) < (n : Int) := by omega
    clear hx hpm
    go_enter Tryd.func4, Tryd.ntmps4
    go_wp2_with fail
    refine (log_new _).mono ?_
    rintro e w1 ⟨rfl, hl1, hz1, hb1⟩
    clear hl1 hz1
    go_wp2_with fail
    refine (alive11_any _ (ht.below hb1)).mono ?_
    rintro e w2 ⟨rfl, hb2⟩
    go_wp2
    go_ret
    exact ⟨rfl, bl_trans hb1 hb2⟩
end Go.Proofs.YtmcmhljonkijjaaDoor

/- FrameCuts: the walk -/
import Derived.Test.YtgahjchngmojlabDoorFrMd
import Derived.Test.YtgahjchngmojlabDoorConB
namespace Go.Proofs.YtgahjchngmojlabDoor
open Go.RowKit

/-- One Feed behind another, the events in one row. -/
theorem FeedR.join {w w1 w2 w3 : World} {B g Br B' : Nat} {s1 s2 : FS} {ps qs : List EvP} {L L2 : List Ev} {v v2 v3 : Value} (hgl : 0 < w.heap.size) (h : FeedR w w1 B g s1 ps Br L v) (k : FeedR w1 w2 Br g s2 qs B' L2 v2)
    (hr3 : w3.ownsRow w.heap.size 57 6 v3 (L.length + L2.length) (flatE L ++ flatE L2)) (hg3 : w2.grownBy w3 v.ownBlock) : FeedR w w3 B g s2 (ps ++ qs) B' (L ++ L2) v3 := by
  obtain ⟨hL, hrow, hev, hf, hB, hR⟩ := h
  obtain ⟨hL2, hrow2, hev2, hf2, hB2, hR2⟩ := k
  have R3 : Rest w2 w3 (fun i => v.ownBlock = some i) := Rest.of_grown hg3 (fun j hj => hj)
  have hrow' := row_pu hf hrow hR2
  have hno : ∀ i, Typed w2 i 5 → ¬ (v.ownBlock = some i) := fun i ht e => (row_typed hrow' e).1.ne ht fr_types.2.2.1 rfl
  have keep : ∀ x : Ev, x.Ok w2 B' → x.T w2 B B' → x.Ok w3 B' ∧ x.T w3 B B' := fun x h1 h2 => ⟨h1.rest R3 (fun i _ ht => hno i ht) hf2.size.2, h2.rest R3 (fun i _ ht => hno i ht)⟩
  refine ⟨by rw [List.map_append, hL, hL2], by rw [List.length_append, flatE_append]; exact hr3, fun x hx => ?_, hf2.rest R3 (fun e => (row_typed hrow' e).1.ne hf2.typed (Ne.symm fr_types.2.1) rfl) (fun j _ ht => hno j ht) (fun e => by have := (row_typed hrow' e).2; omega), Nat.le_trans hB hB2, (hR.pu hR2 hB).trans R3 (fun i hi e => by have := (row_typed hrow' e).2; omega)⟩
  rcases List.mem_append.1 hx with hx | hx
  · exact keep x (((hev x hx).1.rest hR2 (fun i hi ht => pu_not hf hi ht) hf.size.2).more hB2) (((hev x hx).2.rest hR2 (fun i hi ht => pu_not hf hi ht)).more hB2)
  · exact keep x (hev2 x hx).1 ((hev2 x hx).2.low hB)
theorem o6_range {W : World} {g : Nat} {T : TypeId} {a b c d e f : Bool} (h : Own W g T #[.bool a, .bool b, .bool c, .bool d, .bool e, .bool f]) : W.cell? ⟨g, 0, none⟩ = some (.bool a) ∧ W.cell? ⟨g, 1, none⟩ = some (.bool b) ∧ W.cell? ⟨g, 2, none⟩ = some (.bool c) ∧ W.cell? ⟨g, 3, none⟩ = some (.bool d) ∧ W.cell? ⟨g, 4, none⟩ = some (.bool e) ∧ W.cell? ⟨g, 5, none⟩ = some (.bool f) := ⟨h.cell rfl, h.cell rfl, h.cell rfl, h.cell rfl, h.cell rfl, h.cell rfl⟩
theorem and8 {W : World} {a b c d e f : Prop} {p q : Addr} {x y : Value} (h : a ∧ b ∧ c ∧ d ∧ e ∧ f) (h1 : W.cell? p = some x) (h2 : W.cell? q = some y) : a ∧ b ∧ c ∧ d ∧ e ∧ f ∧ W.cell? p = some x ∧ W.cell? q = some y := ⟨h.1, h.2.1, h.2.2.1, h.2.2.2.1, h.2.2.2.2.1, h.2.2.2.2.2, h1, h2⟩
set_option maxRecDepth 100000 in
set_option maxHeartbeats 12800000 in
theorem fcuts_main (a0 a1 a2 a3 a4 a5 : Bool) (A : Option Addr) (n c : Nat) (ps : List Part) (w : World) (ht : HRows w) (hx : Parts w w.heap.size A n ps) (hm : n ≤ maxLen) (hpm : ∀ p ∈ ps, p.n ≤ maxLen) :
    Calls Tryd.prog 4 #[.agg #[.bool a0, .bool a1, .bool a2, .bool a3, .bool a4, .bool a5], .slice A n c] w fun e w' => e = .returned (.bool true) ∧ Below w.heap.size w w' := by
  have HN := Lib.hid hx.1
  have HX := Lib.hid hx
  have hb0 := bl_alloc (bl_refl w) (.cells #[.bool a0, .bool a1, .bool a2, .bool a3, .bool a4, .bool a5] 23)
  have oo0 := Own.new w 23 #[.bool a0, .bool a1, .bool a2, .bool a3, .bool a4, .bool a5]
  have ht0 := ht.below hb0
  have HNw := Lib.hid (fnewE_any ⟨a0, a1, a2, a3, a4, a5⟩ _ ht0)
  have HFw := Lib.hid (fun W (hW : Parts W w.heap.size A n ps) => few23_any A n c ps W w.heap.size hW hm hpm)
  clear hx ht ht0 hpm
  go_enter Tryd.func4, Tryd.ntmps4
  go_wp2_with fail
  refine HNw.out.mono ?_
  rintro e w1 ⟨rfl, hE, hb1⟩
  rw [show (w.alloc (.cells #[.bool a0, .bool a1, .bool a2, .bool a3, .bool a4, .bool a5] 23)).heap.size = w.heap.size + 1 by simp] at hE ⊢
  have oo1 := oo0.step hb1
  have hb2 := bl_trans hb0 hb1
  have HF1 := Lib.hid (HFw.out _ (HX.out.below hb2))
  clear hb0 hb1 oo0 HNw HFw
  cases hf : fewP ps with
  | false =>
    rw [hf] at HF1
    have ht1 := hE.2.1
    go_wp2_with fail
    refine HF1.out.mono ?_
    rintro e w' ⟨rfl, rfl⟩
    go_wp2_with fail
    refine (alive23_any _ ht1).mono ?_
    rintro e w3 ⟨rfl, hb3⟩
    go_wp2
    go_ret
    exact ⟨rfl, bl_trans hb2 hb3⟩
  | true =>
    rw [hf] at HF1
    unfold fewP at hf
    simp only [Bool.and_eq_true, decide_eq_true_eq] at hf
    obtain ⟨hfl, hpl⟩ := hf
    have hn60 : n ≤ 60 := by have := HN.out; omega
    go_wp2_with fail
    refine HF1.out.mono ?_
    rintro e w' ⟨rfl, rfl⟩
    obtain ⟨g, hg⟩ : ∃ z, z = w.heap.size + 1 + 1 := ⟨_, rfl⟩
    rw [← hg] at hE ⊢
    have Hgw := Lib.hid (show w.heap.size + 1 < g by omega)
    have HGL := Lib.hid hE.2.1.2
    have hst : FeedR w1 w1 w1.heap.size g ((fs0 ⟨a0, a1, a2, a3, a4, a5⟩).feed (flat (ps.take 0))).1 ((fs0 ⟨a0, a1, a2, a3, a4, a5⟩).feed (flat (ps.take 0))).2 w1.heap.size [] (.slice none 0 0) := ⟨rfl, World.ownsRow_nil _ _ _ _, (fun _ h => by cases h), hE.is, Nat.le_refl _, Rest.refl _ _⟩
    have HB2 := Lib.hid hb2
    have HOO := Lib.hid oo1
    have HST := Lib.hid hst
    have hrf : ∀ x ∈ flat ps, 0 ≤ x ∧ x ≤ 255 := fun x hx => by
      obtain ⟨q, hq, hxq⟩ := List.mem_flatMap.1 hx
      exact (HX.out.2.1 q hq).2.1 x hxq
    have HRg := Lib.hid hrf
    have HFO := Lib.hid (fun k => show ((fs0 ⟨a0, a1, a2, a3, a4, a5⟩).feed (flat (ps.take k))).2.length ≤ 1500 ∧ ((fs0 ⟨a0, a1, a2, a3, a4, a5⟩).feed (flat (ps.take k))).1.fr ≤ 1500 from by
      have h1 := FS.feed_ok (fs0_ok ⟨a0, a1, a2, a3, a4, a5⟩) (flat (ps.take k)) (fun x hx => hrf x (by
        obtain ⟨q, hq, hxq⟩ := List.mem_flatMap.1 hx
        exact List.mem_flatMap.2 ⟨q, List.mem_of_mem_take hq, hxq⟩))
      have h2 := lenTo_le ps k
      have h3 : (fs0 ⟨a0, a1, a2, a3, a4, a5⟩).fr = 0 := rfl
      unfold lenTo at h2
      omega)
    have HRF : Hid (∀ W Aa la ca, Bytes W W.heap.size Aa la (flat ps) → la ≤ 100000 → Calls Tryd.prog 11 #[.agg #[.bool a0, .bool a1, .bool a2, .bool a3, .bool a4, .bool a5, .slice none 0 0, .int .i64 0, .bool false, .int .i64 0], .slice Aa la ca] W fun e w' => OneX ((fs0 ⟨a0, a1, a2, a3, a4, a5⟩).feed (flat ps)).1 ((fs0 ⟨a0, a1, a2, a3, a4, a5⟩).feed (flat ps)).2 W e w') :=
      Lib.hid (fun W Aa la ca h1 h2 => rfeed_any (fs0 ⟨a0, a1, a2, a3, a4, a5⟩) none 0 0 Aa la ca (flat ps) W (BT.nil _ _ _) h1 (fs0_ok _) h2 (Nat.zero_le _))
    have HSp : Hid (∀ W Aa la ca, HRows W → Bytes W W.heap.size Aa la (flat ps) → la ≤ 100000 → Calls Tryd.prog 21 #[.agg #[.bool a0, .bool a1, .bool a2, .bool a3, .bool a4, .bool a5], .slice Aa la ca] W fun e w' => ∃ (A' : Option Addr) (c' : Nat) (L : List Ev), e = .returned (.slice A' L.length c') ∧ Evs w' w'.heap.size A' L.length L ∧ L.map Ev.p = ((fs0 ⟨a0, a1, a2, a3, a4, a5⟩).feed (flat ps)).2 ∧ Below W.heap.size W w') :=
      Lib.hid (fun W Aa la ca h1 h2 h3 => fsplit_any ⟨a0, a1, a2, a3, a4, a5⟩ Aa la ca (flat ps) W h1 h2 h3)
    clear hrf
    generalize fs0 ⟨a0, a1, a2, a3, a4, a5⟩ = s0 at *
    clear hg HF1 hst hb2 oo1 hE
    go_wp2_with fail
    go_loopw [6, 8, 28] (fun gv _ i wr => ∃ (k : Nat) (L : List Ev) (Br : Nat), k ≤ n ∧ i = .int .i64 k ∧ FeedR w1 wr w1.heap.size g (s0.feed (flat (ps.take k))).1 (s0.feed (flat (ps.take k))).2 Br L gv) (fun _ _ i _ => n - (intOf i).toNat)
    case atStart => exact ⟨0, [], w1.heap.size, Nat.zero_le _, rfl, HST.out⟩
    case round =>
      obtain ⟨k, L, Br, hk, rfl, hI⟩ := hrel
      clear HST
      have hlow : Below w.heap.size w wr := HB2.out.trans (hI.2.2.2.2.2.to_below HB2.out.size (fun i hi e => by
        have h1 := Hgw.out
        have h2 := HB2.out.size
        rcases e with e | e
        · omega
        · have := e.1
          omega))
      have hfo := HFO.out k
      have HLn := Lib.hid (show L.length ≤ 1500 by have h2 := congrArg List.length hI.1; rw [List.length_map] at h2; omega)
      by_cases hlt : k < n
      · obtain ⟨b, o, rfl, hbB, hc, hB⟩ := (HX.out.below hlow).at_ hlt
        have hkl : k < ps.length := by have := HN.out; omega
        have h1 := lenTo_succ hkl HX.out.2.1
        have h2 := lenTo_le ps (k + 1)
        have HFT := Lib.hid (show s0.feed (flat (ps.take (k + 1))) = (((s0.feed (flat (ps.take k))).1.feed (pth ps k).xs).1, (s0.feed (flat (ps.take k))).2 ++ ((s0.feed (flat (ps.take k))).1.feed (pth ps k).xs).2) by rw [flat_take hkl, FS.feed_append])
        have hpn : (pth ps k).n ≤ 1500 := by omega
        have HN1 := Lib.hid (HFO.out (k + 1)).1
        rw [HFT.out] at HN1
        have hF := Lib.hid (ffeed_any g Br (pth ps k).n (pth ps k).c (s0.feed (flat (ps.take k))).1 (pth ps k).a (pth ps k).xs wr hI.2.2.2.1 (hB.more (by have := hI.2.2.2.2.1; have := HB2.out.size; omega)) (by omega) (by omega))
        have hbs : b < wr.heap.size := by have := hlow.size; omega
        generalize s0.feed (flat (ps.take k)) = p at *
        generalize pth ps k = q at *
        obtain ⟨s1, pp⟩ := p
        obtain ⟨qa, qn, qc, qx⟩ := q
        dsimp only at hI hF HFT hfo hc hpn HN1
        have HI := Lib.hid hI
        clear h1 h2 hB hlow hfo hI
        go_wp2_with fail
        refine hF.out.mono ?_
        rintro e w4 ⟨v2, L2, B', rfl, hR⟩
        obtain ⟨A2, c2, rfl⟩ := own_form hR.2.1
        have HRow := Lib.hid (row_pu HI.out.2.2.2.1 HI.out.2.1 hR.2.2.2.2.2)
        have HSh := Lib.hid (Shows.of_own hR.2.1)
        have hsz : w1.heap.size ≤ w4.heap.size := Nat.le_trans HI.out.2.2.2.2.2.size hR.2.2.2.2.2.size
        have hll : L.length + L2.length ≤ 3000 := by
          have h1 := HLn.out
          have h3 := HN1.out
          have h4 := congrArg List.length hR.1
          rw [List.length_map] at h4
          rw [List.length_append] at h3
          omega
        have HR := Lib.hid hR
        clear hF hR hc
        go_wp2_with (at_builtin; refine wpList_append_grow _ rfl _ _ rfl sl_evs w1.heap.size _ L.length (flatE L) rfl HRow.out w4.heap.size A2 L2.length c2 (flatE L2) rfl flatE_len HSh.out (flatE_one _) (by unfold maxLen; omega) (by omega) hsz ?_; intro v6 w6 hrow6 hg6)
        have HFin := Lib.hid (FeedR.join HGL.out HI.out HR.out hrow6 hg6)
        clear hrow6 hg6 HRow HSh HR HI
        go_roundw
        case rel => exact ⟨k + 1, L ++ L2, B', by omega, by go_num, by rw [HFT.out]; exact HFin.out⟩
        case measure => simp [intOf]; omega
      · obtain rfl : k = n := by omega
        have HTk := Lib.hid (show ps.take k = ps by rw [List.take_of_length_le (by rw [← HN.out]; exact Nat.le_refl _)])
        rw [HTk.out] at hI hfo
        have hXr : Parts wr wr.heap.size A k ps := by
          have h0 := HX.out.below hlow
          exact ⟨h0.1, fun p hp => (h0.2.1 p hp).more hlow.size, h0.2.2.more hlow.size⟩
        have HCc := Lib.hid (bconcat_any A k c ps wr hXr (by omega) (by omega))
        obtain ⟨Ag, cg, rfl, hEg, hLg⟩ := hI.evs
        have hf0 := hI.2.2.2.1
        have oo2 := Own.below HOO.out (hI.2.2.2.2.2.to_below (B := w.heap.size + 1) (by have := HOO.out.lt; omega) (fun i hi e => by
          have h1 := Hgw.out
          have h2 := HOO.out.lt
          rcases e with e | e
          · omega
          · have := e.1
            omega)) (by omega)
        generalize hpE : s0.feed (flat ps) = pE at *
        obtain ⟨sE, qE⟩ := pE
        dsimp only at hf0 hLg hfo
        clear hI hXr hpE
        go_wp2_with fail
        refine HCc.out.mono ?_
        rintro e w5 ⟨va, rfl, hra, hb5⟩
        obtain ⟨Aa, ca, rfl⟩ := own_form hra
        obtain ⟨hxa, _, _⟩ := row_bytes hra HRg.out
        have hf5 := hf0.below hb5
        have hE5 := hEg.below hb5
        have oo5 := oo2.step hb5
        have hl5 := bl_trans hlow hb5
        generalize hla : (flat ps).length = la at *
        have HLa := Lib.hid (show la ≤ 1500 from hfl)
        have HR5 := Lib.hid (HRF.out w5 Aa la ca hxa (by omega))
        obtain ⟨q0, q1, q2, q3, q4, q5⟩ := o6_range oo5
        clear HCc hra hb5 hf0 hEg oo2 hlow HRF hla hfl
        go_wp2_with fail
        refine HR5.out.mono ?_
        rintro e w6 hone
        obtain ⟨K', n', c', A', c2, Lw, rfl, hbt, hLw, hEw, hb6⟩ := hone.out
        simp only [rfa]
        go_upto_region 12 with fail
        obtain ⟨bw, hbw⟩ : ∃ z, z = w6.heap.size := ⟨_, rfl⟩
        have ow7 := Own.new w6 34 #[.bool sE.o.a0, .bool sE.o.a1, .bool sE.o.a2, .bool sE.o.a3, .bool sE.o.a4, .bool sE.o.a5, .slice K' n' c', .int .i64 sE.len, .bool sE.closed, .int .i64 sE.fr]
        have hb7 := bl_alloc hb6 (.cells #[.bool sE.o.a0, .bool sE.o.a1, .bool sE.o.a2, .bool sE.o.a3, .bool sE.o.a4, .bool sE.o.a5, .slice K' n' c', .int .i64 sE.len, .bool sE.closed, .int .i64 sE.fr] 34)
        have hbx := bl_alloc (bl_refl w6) (.cells #[.bool sE.o.a0, .bool sE.o.a1, .bool sE.o.a2, .bool sE.o.a3, .bool sE.o.a4, .bool sE.o.a5, .slice K' n' c', .int .i64 sE.len, .bool sE.closed, .int .i64 sE.fr] 34)
        rw [← hbw] at ow7 ⊢
        have hf7 := hf5.below hb7
        have hE7 := hE5.below hb7
        have oo7 := oo5.step hb7
        have hx7 := (hxa.below hb7).more hb7.size
        have hEw7 := hEw.below hbx
        have hl7 := bl_trans hl5 hb7
        have hnk := hbt.1.1
        generalize w6.alloc (.cells #[.bool sE.o.a0, .bool sE.o.a1, .bool sE.o.a2, .bool sE.o.a3, .bool sE.o.a4, .bool sE.o.a5, .slice K' n' c', .int .i64 sE.len, .bool sE.closed, .int .i64 sE.fr] 34) = w7 at *
        have HAl := Lib.hid (fun W (h : Below w7.heap.size w7 W) => alive23_any W (hf7.hrows.below h))
        have HBk := Lib.hid (fun W (h : Below w7.heap.size w7 W) => back_any Ag L.length cg L W (hE7.below h) (by have := HLn.out; omega))
        have HHd := Lib.hid (fun W (h : Below w7.heap.size w7 W) => held_st (hf7.below h))
        have HCl := Lib.hid (fun W (h : Below w7.heap.size w7 W) => closed_st (hf7.below h))
        rw [← hnk] at HHd
        have HSS := Lib.hid (fun W (h : Below w7.heap.size w7 W) => and8 (o6_range (oo7.step h)) ((ow7.step h).cell (i := 6) rfl) ((ow7.step h).cell (i := 8) rfl))
        generalize sE.closed = cl at *
        have hncl : (cl == cl) = true := by simp
        have hnn : ((n' : Int) == (n' : Int)) = true := by simp
        have hpp : L.map Ev.p = Lw.map Ev.p := by rw [hLg, hLw]
        have HEw := Lib.hid (fun W (h : Below w7.heap.size w7 W) => hEw7.below h)
        have HX7 := Lib.hid (fun W (h : Below w7.heap.size w7 W) => And.intro (hf7.hrows.below h) ((hx7.below h).more h.size))
        have HPP := Lib.hid hpp
        have HLw := Lib.hid hLw
        have hfo1 := Lib.hid hfo.1
        have b0 := (bl_refl w7).drew
        clear hbw hb6 hb7 hbx hone hbt hEw ow7 hf5 hf7 hE5 hE7 oo5 oo7 hxa hx7 hEw7 hnk q0 q1 q2 q3 q4 q5 hl5 hLg hLw hpp hfo HR5
        refine wp_region_noPanic ?_
        refine wp_region_held_drew (S := (fun W => W.cell? ⟨w.heap.size, 0, none⟩ = some (.bool a0) ∧ W.cell? ⟨w.heap.size, 1, none⟩ = some (.bool a1) ∧ W.cell? ⟨w.heap.size, 2, none⟩ = some (.bool a2) ∧ W.cell? ⟨w.heap.size, 3, none⟩ = some (.bool a3) ∧ W.cell? ⟨w.heap.size, 4, none⟩ = some (.bool a4) ∧ W.cell? ⟨w.heap.size, 5, none⟩ = some (.bool a5) ∧ W.cell? ⟨bw, 6, none⟩ = some (.slice K' n' c') ∧ W.cell? ⟨bw, 8, none⟩ = some (.bool cl))) (by kernel_rfl) (HSS.out _ b0) (fun hHeld => ?_)
        refine wpAnyH_ready (rs := [0]) (by kernel_rfl) (by simp) ?_
        refine AllReadyH.cons rfl (fun K hK => ?_) AllReadyH.nil
        go_simp
        (go_at_call 10; refine (HAl.out _ b0).mono ?_; rintro e v1 ⟨rfl, hv1⟩)
        have b1 := bl_trans b0 hv1
        refine hK.out _ _ (HSS.out _ b1) (fun hHeld2 => ?_)
        clear hK K hHeld
        have hHeld := hHeld2
        clear hHeld2
        try simp only [Act.put, List.getElem_toArray, List.getElem_cons_zero, List.setIfInBounds_toArray, List.set_cons_zero, List.set_cons_succ]
        refine wpAnyH_take (i := 1) (v := ?_) rfl (by kernel_rfl) (by kernel_rfl) (by kernel_rfl) (fun _ _ _ h => h) (Or.inl ⟨by rfl, ?_⟩) (by assumption) ?_
        rotate_left
        · (intro W hSw; obtain ⟨s0, s1, s2, s3, s4, s5, s6, s7⟩ := hSw; go_simp; try with_reducible rfl)
        simp only [Act.put, List.getElem_toArray, List.getElem_cons_zero, List.getElem_cons_succ, List.setIfInBounds_toArray, List.set_cons_zero, List.set_cons_succ]
        refine wpAnyH_take (i := 2) (v := ?_) rfl (by kernel_rfl) (by kernel_rfl) (by kernel_rfl) (fun _ _ _ h => h) (Or.inl ⟨by rfl, ?_⟩) (by assumption) ?_
        rotate_left
        · (intro W hSw; obtain ⟨s0, s1, s2, s3, s4, s5, s6, s7⟩ := hSw; go_simp; try with_reducible rfl)
        simp only [Act.put, List.getElem_toArray, List.getElem_cons_zero, List.getElem_cons_succ, List.setIfInBounds_toArray, List.set_cons_zero, List.set_cons_succ]
        refine wpAnyH_take (i := 4) (v := ?_) rfl (by kernel_rfl) (by kernel_rfl) (by kernel_rfl) (fun _ _ _ h => h) (Or.inl ⟨by rfl, ?_⟩) (by assumption) ?_
        rotate_left
        · (intro W hSw; obtain ⟨s0, s1, s2, s3, s4, s5, s6, s7⟩ := hSw; go_simp; try with_reducible rfl)
        simp only [Act.put, List.getElem_toArray, List.getElem_cons_zero, List.getElem_cons_succ, List.setIfInBounds_toArray, List.set_cons_zero, List.set_cons_succ]
        refine wpAnyH_ready (rs := [3]) (by kernel_rfl) (by simp) ?_
        refine AllReadyH.cons rfl (fun K hK => ?_) AllReadyH.nil
        go_simp
        (go_at_call 13; refine (HBk.out _ b1).mono ?_; rintro e v2 ⟨Ab, cb, rfl, heb, hv2⟩)
        have b2 := bl_trans b1 hv2
        refine hK.out _ _ (HSS.out _ b2) (fun hHeld2 => ?_)
        clear hK K hHeld
        have hHeld := hHeld2
        clear hHeld2
        try simp only [Act.put, List.getElem_toArray, List.getElem_cons_zero, List.getElem_cons_succ, List.setIfInBounds_toArray, List.set_cons_zero, List.set_cons_succ]
        refine wpAnyH_ready (rs := [5]) (by kernel_rfl) (by simp) ?_
        refine AllReadyH.cons rfl (fun K hK => ?_) AllReadyH.nil
        go_simp
        (go_at_call 12; refine (rsame23_any Ab A' _ _ cb c2 L Lw _ heb (HEw.out _ b2) HPP.out (by have := HLn.out; omega)).mono ?_; rintro e v3 ⟨rfl, hv3⟩)
        have b3 := bl_trans b2 hv3
        refine hK.out _ _ (HSS.out _ b3) (fun hHeld2 => ?_)
        clear hK K hHeld
        have hHeld := hHeld2
        clear hHeld2
        try simp only [Act.put, List.getElem_toArray, List.getElem_cons_zero, List.getElem_cons_succ, List.setIfInBounds_toArray, List.set_cons_zero, List.set_cons_succ]
        refine wpAnyH_take (i := 6) (v := ?_) rfl (by kernel_rfl) (by kernel_rfl) (by kernel_rfl) (fun _ _ _ h => h) (Or.inl ⟨by rfl, ?_⟩) (by assumption) ?_
        rotate_left
        · (intro W hSw; obtain ⟨s0, s1, s2, s3, s4, s5, s6, s7⟩ := hSw; go_simp; try with_reducible rfl)
        simp only [Act.put, List.getElem_toArray, List.getElem_cons_zero, List.getElem_cons_succ, List.setIfInBounds_toArray, List.set_cons_zero, List.set_cons_succ]
        refine wpAnyH_take (i := 7) (v := ?_) rfl (by kernel_rfl) (by kernel_rfl) (by kernel_rfl) (fun _ _ _ h => h) (Or.inl ⟨by rfl, ?_⟩) (by assumption) ?_
        rotate_left
        · (intro W hSw; obtain ⟨s0, s1, s2, s3, s4, s5, s6, s7⟩ := hSw; go_simp; try with_reducible rfl)
        simp only [Act.put, List.getElem_toArray, List.getElem_cons_zero, List.getElem_cons_succ, List.setIfInBounds_toArray, List.set_cons_zero, List.set_cons_succ]
        refine wpAnyH_take (i := 8) (v := ?_) rfl (by kernel_rfl) (by kernel_rfl) (by kernel_rfl) (fun _ _ _ h => h) (Or.inl ⟨by rfl, ?_⟩) (by assumption) ?_
        rotate_left
        · (intro W hSw; obtain ⟨s0, s1, s2, s3, s4, s5, s6, s7⟩ := hSw; go_simp; try with_reducible rfl)
        simp only [Act.put, List.getElem_toArray, List.getElem_cons_zero, List.getElem_cons_succ, List.setIfInBounds_toArray, List.set_cons_zero, List.set_cons_succ]
        refine wpAnyH_take (i := 9) (v := ?_) rfl (by kernel_rfl) (by kernel_rfl) (by kernel_rfl) (fun _ _ _ h => h) (Or.inl ⟨by rfl, ?_⟩) (by assumption) ?_
        rotate_left
        · (intro W hSw; obtain ⟨s0, s1, s2, s3, s4, s5, s6, s7⟩ := hSw; go_simp; try with_reducible rfl)
        simp only [Act.put, List.getElem_toArray, List.getElem_cons_zero, List.getElem_cons_succ, List.setIfInBounds_toArray, List.set_cons_zero, List.set_cons_succ]
        refine wpAnyH_take (i := 12) (v := ?_) rfl (by kernel_rfl) (by kernel_rfl) (by kernel_rfl) (fun _ _ _ h => h) (Or.inl ⟨by rfl, ?_⟩) (by assumption) ?_
        rotate_left
        · (intro W hSw; obtain ⟨s0, s1, s2, s3, s4, s5, s6, s7⟩ := hSw; go_simp; try with_reducible rfl)
        simp only [Act.put, List.getElem_toArray, List.getElem_cons_zero, List.getElem_cons_succ, List.setIfInBounds_toArray, List.set_cons_zero, List.set_cons_succ]
        refine wpAnyH_ready (rs := [10]) (by kernel_rfl) (by simp) ?_
        refine AllReadyH.cons rfl (fun K hK => ?_) AllReadyH.nil
        go_simp
        (go_at_call 21; refine (HSp.out _ Aa la ca (HX7.out _ b3).1 (HX7.out _ b3).2 (by have := HLa.out; omega)).mono ?_; rintro e v4 ⟨As, cs, Ls, rfl, hes, hps, hv4⟩)
        have b4 := bl_trans b3 hv4
        refine hK.out _ _ (HSS.out _ b4) (fun hHeld2 => ?_)
        clear hK K hHeld
        have hHeld := hHeld2
        clear hHeld2
        try simp only [Act.put, List.getElem_toArray, List.getElem_cons_zero, List.getElem_cons_succ, List.setIfInBounds_toArray, List.set_cons_zero, List.set_cons_succ]
        refine wpAnyH_ready (rs := [11]) (by kernel_rfl) (by simp) ?_
        refine AllReadyH.cons rfl (fun K hK => ?_) AllReadyH.nil
        go_simp
        (go_at_call 13; refine (back_any As _ cs Ls _ hes (by have h1 := congrArg List.length hps; rw [List.length_map] at h1; have := hfo1.out; omega)).mono ?_; rintro e v5 ⟨At, ct, rfl, het, hv5⟩)
        have b5 := bl_trans b4 hv5
        refine hK.out _ _ (HSS.out _ b5) (fun hHeld2 => ?_)
        clear hK K hHeld
        have hHeld := hHeld2
        clear hHeld2
        try simp only [Act.put, List.getElem_toArray, List.getElem_cons_zero, List.getElem_cons_succ, List.setIfInBounds_toArray, List.set_cons_zero, List.set_cons_succ]
        refine wpAnyH_ready (rs := [13]) (by kernel_rfl) (by simp) ?_
        refine AllReadyH.cons rfl (fun K hK => ?_) AllReadyH.nil
        go_simp
        (go_at_call 12; refine (rsame23_any At A' _ _ ct c2 Ls Lw _ het (HEw.out _ b5) (hps.trans HLw.out.symm) (by have h1 := congrArg List.length hps; rw [List.length_map] at h1; have := hfo1.out; omega)).mono ?_; rintro e v6 ⟨rfl, hv6⟩)
        have b6 := bl_trans b5 hv6
        refine hK.out _ _ (HSS.out _ b6) (fun hHeld2 => ?_)
        clear hK K hHeld
        have hHeld := hHeld2
        clear hHeld2
        try simp only [Act.put, List.getElem_toArray, List.getElem_cons_zero, List.getElem_cons_succ, List.setIfInBounds_toArray, List.set_cons_zero, List.set_cons_succ]
        refine wpAnyH_take (i := 14) (v := ?_) rfl (by kernel_rfl) (by kernel_rfl) (by kernel_rfl) (fun _ _ _ h => h) (Or.inl ⟨by rfl, ?_⟩) (by assumption) ?_
        rotate_left
        · (intro W hSw; obtain ⟨s0, s1, s2, s3, s4, s5, s6, s7⟩ := hSw; go_simp; try with_reducible rfl)
        simp only [Act.put, List.getElem_toArray, List.getElem_cons_zero, List.getElem_cons_succ, List.setIfInBounds_toArray, List.set_cons_zero, List.set_cons_succ]
        refine wpAnyH_take (i := 15) (v := ?_) rfl (by kernel_rfl) (by kernel_rfl) (by kernel_rfl) (fun _ _ _ h => h) (Or.inl ⟨by rfl, ?_⟩) (by assumption) ?_
        rotate_left
        · (intro W hSw; obtain ⟨s0, s1, s2, s3, s4, s5, s6, s7⟩ := hSw; go_simp; try with_reducible rfl)
        simp only [Act.put, List.getElem_toArray, List.getElem_cons_zero, List.getElem_cons_succ, List.setIfInBounds_toArray, List.set_cons_zero, List.set_cons_succ]
        refine wpAnyH_take (i := 16) (v := ?_) rfl (by kernel_rfl) (by kernel_rfl) (by kernel_rfl) (fun _ _ _ h => h) (Or.inl ⟨by rfl, ?_⟩) (by assumption) ?_
        rotate_left
        · (intro W hSw; obtain ⟨s0, s1, s2, s3, s4, s5, s6, s7⟩ := hSw; go_simp; try with_reducible rfl)
        simp only [Act.put, List.getElem_toArray, List.getElem_cons_zero, List.getElem_cons_succ, List.setIfInBounds_toArray, List.set_cons_zero, List.set_cons_succ]
        refine wpAnyH_take (i := 18) (v := ?_) rfl (by kernel_rfl) (by kernel_rfl) (by kernel_rfl) (fun _ _ _ h => h) (Or.inl ⟨by rfl, ?_⟩) (by assumption) ?_
        rotate_left
        · (intro W hSw; obtain ⟨s0, s1, s2, s3, s4, s5, s6, s7⟩ := hSw; go_simp; try with_reducible rfl)
        simp only [Act.put, List.getElem_toArray, List.getElem_cons_zero, List.getElem_cons_succ, List.setIfInBounds_toArray, List.set_cons_zero, List.set_cons_succ]
        refine wpAnyH_take (i := 19) (v := ?_) rfl (by kernel_rfl) (by kernel_rfl) (by kernel_rfl) (fun _ _ _ h => h) (Or.inl ⟨by rfl, ?_⟩) (by assumption) ?_
        rotate_left
        · (intro W hSw; obtain ⟨s0, s1, s2, s3, s4, s5, s6, s7⟩ := hSw; go_simp; try with_reducible rfl)
        simp only [Act.put, List.getElem_toArray, List.getElem_cons_zero, List.getElem_cons_succ, List.setIfInBounds_toArray, List.set_cons_zero, List.set_cons_succ]
        refine wpAnyH_take (i := 20) (v := ?_) rfl (by kernel_rfl) (by kernel_rfl) (by kernel_rfl) (fun _ _ _ h => h) (Or.inl ⟨by rfl, ?_⟩) (by assumption) ?_
        rotate_left
        · (intro W hSw; obtain ⟨s0, s1, s2, s3, s4, s5, s6, s7⟩ := hSw; go_simp; try with_reducible rfl)
        simp only [Act.put, List.getElem_toArray, List.getElem_cons_zero, List.getElem_cons_succ, List.setIfInBounds_toArray, List.set_cons_zero, List.set_cons_succ]
        refine wpAnyH_ready (rs := [17]) (by kernel_rfl) (by simp) ?_
        refine AllReadyH.cons rfl (fun K hK => ?_) AllReadyH.nil
        go_simp
        (go_at_call 17; refine (HHd.out _ b6).mono ?_; rintro e v7 ⟨rfl, rfl⟩)
        refine hK.out _ _ (HSS.out _ b6) (fun hHeld2 => ?_)
        clear hK K hHeld
        have hHeld := hHeld2
        clear hHeld2
        try simp only [Act.put, List.getElem_toArray, List.getElem_cons_zero, List.getElem_cons_succ, List.setIfInBounds_toArray, List.set_cons_zero, List.set_cons_succ]
        refine wpAnyH_take (i := 21) (v := ?_) rfl (by kernel_rfl) (by kernel_rfl) (by kernel_rfl) (fun _ _ _ h => h) (Or.inl ⟨by rfl, ?_⟩) (by assumption) ?_
        rotate_left
        · (intro W hSw; obtain ⟨s0, s1, s2, s3, s4, s5, s6, s7⟩ := hSw; go_simp; try with_reducible rfl)
        simp only [Act.put, List.getElem_toArray, List.getElem_cons_zero, List.getElem_cons_succ, List.setIfInBounds_toArray, List.set_cons_zero, List.set_cons_succ]
        refine wpAnyH_take (i := 22) (v := ?_) rfl (by kernel_rfl) (by kernel_rfl) (by kernel_rfl) (fun _ _ _ h => h) (Or.inl ⟨by rfl, ?_⟩) (by assumption) ?_
        rotate_left
        · (intro W hSw; obtain ⟨s0, s1, s2, s3, s4, s5, s6, s7⟩ := hSw; go_simp; try with_reducible rfl)
        simp only [Act.put, List.getElem_toArray, List.getElem_cons_zero, List.getElem_cons_succ, List.setIfInBounds_toArray, List.set_cons_zero, List.set_cons_succ]
        refine wpAnyH_take (i := 23) (v := ?_) rfl (by kernel_rfl) (by kernel_rfl) (by kernel_rfl) (fun _ _ _ h => h) (Or.inl ⟨by rfl, ?_⟩) (by assumption) ?_
        rotate_left
        · (intro W hSw; obtain ⟨s0, s1, s2, s3, s4, s5, s6, s7⟩ := hSw; go_simp; try with_reducible rfl)
        simp only [Act.put, List.getElem_toArray, List.getElem_cons_zero, List.getElem_cons_succ, List.setIfInBounds_toArray, List.set_cons_zero, List.set_cons_succ]
        refine wpAnyH_take (i := 24) (v := ?_) rfl (by kernel_rfl) (by kernel_rfl) (by kernel_rfl) (fun _ _ _ h => h) (Or.inl ⟨by rfl, ?_⟩) (by assumption) ?_
        rotate_left
        · (intro W hSw; obtain ⟨s0, s1, s2, s3, s4, s5, s6, s7⟩ := hSw; go_simp; try with_reducible rfl)
        simp only [Act.put, List.getElem_toArray, List.getElem_cons_zero, List.getElem_cons_succ, List.setIfInBounds_toArray, List.set_cons_zero, List.set_cons_succ]
        refine wpAnyH_take (i := 26) (v := ?_) rfl (by kernel_rfl) (by kernel_rfl) (by kernel_rfl) (fun _ _ _ h => h) (Or.inl ⟨by rfl, ?_⟩) (by assumption) ?_
        rotate_left
        · (intro W hSw; obtain ⟨s0, s1, s2, s3, s4, s5, s6, s7⟩ := hSw; go_simp; try with_reducible rfl)
        simp only [Act.put, List.getElem_toArray, List.getElem_cons_zero, List.getElem_cons_succ, List.setIfInBounds_toArray, List.set_cons_zero, List.set_cons_succ]
        refine wpAnyH_take (i := 27) (v := ?_) rfl (by kernel_rfl) (by kernel_rfl) (by kernel_rfl) (fun _ _ _ h => h) (Or.inl ⟨by rfl, ?_⟩) (by assumption) ?_
        rotate_left
        · (intro W hSw; obtain ⟨s0, s1, s2, s3, s4, s5, s6, s7⟩ := hSw; go_simp; try with_reducible rfl)
        simp only [Act.put, List.getElem_toArray, List.getElem_cons_zero, List.getElem_cons_succ, List.setIfInBounds_toArray, List.set_cons_zero, List.set_cons_succ]
        refine wpAnyH_ready (rs := [25]) (by kernel_rfl) (by simp) ?_
        refine AllReadyH.cons rfl (fun K hK => ?_) AllReadyH.nil
        go_simp
        (go_at_call 18; refine (HCl.out _ b6).mono ?_; rintro e v8 ⟨rfl, rfl⟩)
        refine hK.out _ _ (HSS.out _ b6) (fun hHeld2 => ?_)
        clear hK K hHeld
        have hHeld := hHeld2
        clear hHeld2
        try simp only [Act.put, List.getElem_toArray, List.getElem_cons_zero, List.getElem_cons_succ, List.setIfInBounds_toArray, List.set_cons_zero, List.set_cons_succ]
        refine wpAnyH_take (i := 28) (v := ?_) rfl (by kernel_rfl) (by kernel_rfl) (by kernel_rfl) (fun _ _ _ h => h) (Or.inl ⟨by rfl, ?_⟩) (by assumption) ?_
        rotate_left
        · (intro W hSw; obtain ⟨s0, s1, s2, s3, s4, s5, s6, s7⟩ := hSw; go_simp; try with_reducible rfl)
        simp only [Act.put, List.getElem_toArray, List.getElem_cons_zero, List.getElem_cons_succ, List.setIfInBounds_toArray, List.set_cons_zero, List.set_cons_succ]
        refine wpAnyH_take (i := 29) (v := ?_) rfl (by kernel_rfl) (by kernel_rfl) (by kernel_rfl) (fun _ _ _ h => h) (Or.inl ⟨by rfl, ?_⟩) (by assumption) ?_
        rotate_left
        · (intro W hSw; obtain ⟨s0, s1, s2, s3, s4, s5, s6, s7⟩ := hSw; go_simp; try with_reducible rfl)
        simp only [Act.put, List.getElem_toArray, List.getElem_cons_zero, List.getElem_cons_succ, List.setIfInBounds_toArray, List.set_cons_zero, List.set_cons_succ]
        refine wpAnyH_take (i := 30) (v := ?_) rfl (by kernel_rfl) (by kernel_rfl) (by kernel_rfl) (fun _ _ _ h => h) (Or.inl ⟨by rfl, ?_⟩) (by assumption) ?_
        rotate_left
        · (intro W hSw; obtain ⟨s0, s1, s2, s3, s4, s5, s6, s7⟩ := hSw; go_simp; try with_reducible rfl)
        simp only [Act.put, List.getElem_toArray, List.getElem_cons_zero, List.getElem_cons_succ, List.setIfInBounds_toArray, List.set_cons_zero, List.set_cons_succ]
        refine wpAnyH_done (by kernel_rfl) ?_ _
        refine NoPanic.normal ?_
        go_wp2
        go_ret
        exact ⟨rfl, bl_trans hl7 b6⟩
end Go.Proofs.YtgahjchngmojlabDoor

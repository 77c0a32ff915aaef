/- FrameMatches: the walk -/
import Derived.Test.YtgahjchngmojlabDoorFrMi
import Derived.Deep.CutBlock
namespace Go.Proofs.YtgahjchngmojlabDoor
open Go.RowKit Go.Sort

set_option maxRecDepth 100000 in
theorem fop_info (a b c d e f g h : Value) : (Tryd.prog.info? 28).map (·.size) = some (#[a, b, c, d, e, f, g, h] : Array Value).size := by kernel_rfl
theorem part_one {v : Part} : ∀ u ∈ [v.v], u.oneCell' = true := fun u hu => by
  rw [List.mem_singleton] at hu
  subst hu
  rfl
theorem o6_rangeM {W : World} {g : Nat} {T : TypeId} {a b c d e f : Bool} (h : Own W g T #[.bool a, .bool b, .bool c, .bool d, .bool e, .bool f]) : W.cell? ⟨g, 0, none⟩ = some (.bool a) ∧ W.cell? ⟨g, 1, none⟩ = some (.bool b) ∧ W.cell? ⟨g, 2, none⟩ = some (.bool c) ∧ W.cell? ⟨g, 3, none⟩ = some (.bool d) ∧ W.cell? ⟨g, 4, none⟩ = some (.bool e) ∧ W.cell? ⟨g, 5, none⟩ = some (.bool f) := ⟨h.cell rfl, h.cell rfl, h.cell rfl, h.cell rfl, h.cell rfl, h.cell rfl⟩
theorem Parts.more2 {w : World} {B B' : Nat} {A : Option Addr} {n : Nat} {ps : List Part} (h : Parts w B A n ps) (hB : B ≤ B') : Parts w B' A n ps := ⟨h.1, fun p hp => (h.2.1 p hp).more hB, h.2.2.more hB⟩
theorem flat_mem_le {vs : List Fop} {v : Fop} (h : v ∈ vs) : v.xs.length ≤ (flat (vs.map Fop.part)).length := by
  induction vs with
  | nil => cases h
  | cons x t ih =>
    rw [List.map_cons]
    show _ ≤ (x.part.xs ++ flat (t.map Fop.part)).length
    rw [List.length_append]
    rcases List.mem_cons.1 h with rfl | h
    · exact Nat.le_add_right _ _
    · have := ih h
      omega
theorem rfa_set (s : FS) (K : Option Addr) (n c : Nat) (e0 e1 e2 e3 e4 e5 : Bool) : setManyF (rfa s K n c) 0 [.bool e0, .bool e1, .bool e2, .bool e3, .bool e4, .bool e5] = rfa { s with o := ⟨e0, e1, e2, e3, e4, e5⟩ } K n c := by
  obtain ⟨⟨_, _, _, _, _, _⟩, _, _, _, _⟩ := s
  rfl
theorem own_rfa_set {w : World} {g : Nat} {s : FS} {K : Option Addr} {n c : Nat} (h : Own w g 34 (rfa s K n c)) (e0 e1 e2 e3 e4 e5 : Bool) : Own (w.setCells g 0 [.bool e0, .bool e1, .bool e2, .bool e3, .bool e4, .bool e5]) g 34 (rfa { s with o := ⟨e0, e1, e2, e3, e4, e5⟩ } K n c) := by
  have h2 := Own.setCellsF [.bool e0, .bool e1, .bool e2, .bool e3, .bool e4, .bool e5] 0 w _ h
  rw [rfa_set] at h2
  exact h2
theorem own_rfa_shut {w : World} {g : Nat} {s : FS} {K : Option Addr} {n c : Nat} (h : Own w g 34 (rfa s K n c)) : Own ((w.setCell ⟨g, 8, none⟩ (.bool true)).setCell ⟨g, 6, none⟩ (.slice none 0 0)) g 34 (rfa s.shut none 0 0) := by
  have h2 := (h.set_ 8 (.bool true)).set_ 6 (.slice none 0 0)
  obtain ⟨⟨_, _, _, _, _, _⟩, _, _, _, _⟩ := s
  exact h2
theorem shut_same {s : FS} (h : s.Ok) (hc : s.closed = true) : s.shut = s := by
  have hk := h.cl hc
  obtain ⟨o, kept, len, closed, fr⟩ := s
  dsimp only at hk hc
  subst hk hc
  rfl
set_option maxRecDepth 100000 in
set_option maxHeartbeats 12800000 in
theorem fmatch_main (a0 a1 a2 a3 a4 a5 : Bool) (A : Option Addr) (n c : Nat) (vs : List Fop) (w : World) (ht : HRows w) (hx : Fops w w.heap.size A n vs) (hnb : n ≤ 4000000000000) :
    Calls Tryd.prog 3 #[.agg #[.bool a0, .bool a1, .bool a2, .bool a3, .bool a4, .bool a5], .slice A n c] w fun e w' => e = .returned (.bool true) ∧ Below w.heap.size w w' := by
  have HN := Lib.hid hx.1
  have HX := Lib.hid hx
  have hb0 := bl_alloc (bl_refl w) (.cells #[.bool a0, .bool a1, .bool a2, .bool a3, .bool a4, .bool a5] 23)
  have oo0 := Own.new w 23 #[.bool a0, .bool a1, .bool a2, .bool a3, .bool a4, .bool a5]
  obtain ⟨w0, hw0⟩ : ∃ z, z = w.alloc (.cells #[.bool a0, .bool a1, .bool a2, .bool a3, .bool a4, .bool a5] 23) := ⟨_, rfl⟩
  rw [← hw0] at hb0 oo0
  have hs0 : w0.heap.size = w.heap.size + 1 := by rw [hw0]; simp
  have HT0 := Lib.hid (ht.below hb0)
  have HB0 := Lib.hid hb0
  have HOO := Lib.hid oo0
  have HGL := Lib.hid ht.2
  have HS0 := Lib.hid hs0
  clear hx ht hs0 oo0 hb0
  go_enter Tryd.func3, Tryd.ntmps3
  go_wp2_with fail
  rw [← hw0]
  clear hw0
  go_loopw [5, 7, 15] (fun pv _ i wr => ∃ k : Nat, k ≤ n ∧ i = .int .i64 k ∧ wr.ownsRow w0.heap.size 26 1 pv k (fpv (vs.take k)) ∧ Below w0.heap.size w0 wr) (fun _ _ i _ => n - (intOf i).toNat)
  case atStart => exact ⟨0, Nat.zero_le _, rfl, by simpa [fpv] using World.ownsRow_nil _ _ _ _, bl_refl _⟩
  case round =>
    obtain ⟨k, hk, rfl, hrow, hb⟩ := hrel
    by_cases hlt : k < n
    · obtain ⟨b, o, rfl, hbB, hok, hrg⟩ := ((HX.out.below (HB0.out.trans (hb.mono HB0.out.size)))).at_ hlt
      have hst := Lib.hid (show fpv (vs.take (k + 1)) = fpv (vs.take k) ++ [(nthO vs k).part.v] by unfold fpv; rw [take_nthO (by have := HN.out; omega), List.map_append]; rfl)
      have hbw : b < wr.heap.size := by have h1 := HB0.out.size; have h2 := hb.size; omega
      generalize nthO vs k = E at *
      obtain ⟨Ek, EA, En, Ec, Ex, ⟨e0, e1, e2, e3, e4, e5⟩⟩ := E
      obtain ⟨d0, d1, d2, d3, d4, d5, d6, d7⟩ := range8 hrg
      dsimp only at d0 d1 d2 d3 d4 d5 d6 d7
      have bX := bl_alloc (bl_refl wr) (.cells #[.int .i64 Ek, .slice EA En Ec, .bool e0, .bool e1, .bool e2, .bool e3, .bool e4, .bool e5] 28)
      have oX := Own.new wr 28 #[.int .i64 Ek, .slice EA En Ec, .bool e0, .bool e1, .bool e2, .bool e3, .bool e4, .bool e5]
      have oS := Own.new (wr.alloc (.cells #[.int .i64 Ek, .slice EA En Ec, .bool e0, .bool e1, .bool e2, .bool e3, .bool e4, .bool e5] 28)) 26 #[.slice EA En Ec]
      rw [show (wr.alloc (.cells #[.int .i64 Ek, .slice EA En Ec, .bool e0, .bool e1, .bool e2, .bool e3, .bool e4, .bool e5] 28)).heap.size = wr.heap.size + 1 by simp] at oS
      have bY := bl_alloc bX (.cells #[.slice EA En Ec] 26)
      have x1 := oX.cell (i := 1) (v := .slice EA En Ec) rfl
      have HRow := Lib.hid (own_belowG hrow bY)
      have hbY := bl_trans hb bY
      have hbs := hb.size
      clear hrg hrow hb bX bY hok oX
      go_wp2_with (at_builtin; refine wpList_append_grow _ rfl _ _ rfl sl_partsF w0.heap.size _ k (fpv (vs.take k)) rfl HRow.out (wr.heap.size + 1 + 1) (some ⟨wr.heap.size + 1, 0, none⟩) 1 1 [.slice EA En Ec] rfl rfl (Shows.of_owned (xs := [.slice EA En Ec]) oS (Nat.lt_succ_self _)) (part_one (v := ⟨EA, En, Ec, Ex⟩)) (by unfold maxLen; omega) (by omega) (by simp; omega) ?_; intro v6 w6 hrow6 hg6)
      have hb6 := hbY.grown hg6 hbY.size (fun j hj => (row_typed HRow.out hj).2)
      go_roundw
      case rel => exact ⟨k + 1, by omega, by go_num, by rw [hst.out]; exact hrow6, hb6⟩
      case measure => simp [intOf]; omega
    · obtain rfl : n = k := by omega
      have HL := Lib.hid (show vs.take n = vs by rw [List.take_of_length_le (by rw [← HN.out]; exact Nat.le_refl _)])
      rw [HL.out] at hrow
      obtain ⟨Ap, cp, rfl⟩ := own_form hrow
      have hbw : Below w.heap.size w wr := bl_trans HB0.out hb
      have HP := Lib.hid (parts_of_row hrow HN.out (fun v hv => ((HX.out.2.1 v hv).below hbw).more hbw.size))
      have HBW := Lib.hid hbw
      have HNw := Lib.hid (fnewE_any ⟨a0, a1, a2, a3, a4, a5⟩ wr (HT0.out.below hb))
      have oo := HOO.out.step hb
      have hsw := hb.size
      have hs0 := HS0.out
      have HLW := Lib.hid (show w.heap.size < wr.heap.size by omega)
      obtain ⟨q0, q1, q2, q3, q4, q5⟩ := o6_rangeM oo
      clear hrow hlt hb hbw hk HT0 hsw HL
      go_wp2_with fail
      refine HNw.out.mono ?_
      rintro e w1 ⟨rfl, hE, hb1⟩
      obtain ⟨g, hg⟩ : ∃ z, z = wr.heap.size + 1 := ⟨_, rfl⟩
      rw [← hg] at hE ⊢
      have hm : n ≤ maxLen := by unfold maxLen; omega
      have HFw := Lib.hid (few23_any Ap n cp (vs.map Fop.part) w1 w1.heap.size (Parts.more2 (HP.out.below hb1) hb1.size) hm (fun p hp => by
        obtain ⟨v, hv, rfl⟩ := List.mem_map.1 hp
        have h2 := (HX.out.2.1 v hv).2
        exact Nat.le_trans h2.1 h2.2))
      have HB1 := Lib.hid (bl_trans HBW.out hb1)
      have oo1 := oo.step hb1
      have HG := Lib.hid (show w.heap.size ≤ g by have := HLW.out; omega)
      clear hb1 hg HP HNw hm oo q0 q1 q2 q3 q4 q5 HOO
      cases hf : fewP (vs.map Fop.part) with
      | false =>
        rw [hf] at HFw
        have ht1 := hE.2.1
        go_wp2_with fail
        refine HFw.out.mono ?_
        rintro e w' ⟨rfl, rfl⟩
        go_wp2_with fail
        refine (alive23_any _ ht1).mono ?_
        rintro e w3 ⟨rfl, hb3⟩
        go_wp2
        go_ret
        exact ⟨rfl, bl_trans HB1.out hb3⟩
      | true =>
        rw [hf] at HFw
        unfold fewP at hf
        simp only [Bool.and_eq_true, decide_eq_true_eq] at hf
        obtain ⟨hfl, hpl⟩ := hf
        rw [List.length_map] at hpl
        have hn60 : n ≤ 60 := by have := HN.out; omega
        have HVN := Lib.hid (fun v (hv : v ∈ vs) => show v.n ≤ 1500 by have h1 := flat_mem_le hv; have h2 := (HX.out.2.1 v hv).1.1; omega)
        clear hfl hpl
        go_wp2_with fail
        refine HFw.out.mono ?_
        rintro e w' ⟨rfl, rfl⟩
        obtain ⟨bX, hbX⟩ : ∃ z, z = w1.heap.size := ⟨_, rfl⟩
        have o2 := Own.new w1 34 #[.bool a0, .bool a1, .bool a2, .bool a3, .bool a4, .bool a5, .slice none 0 0, .int .i64 0, .bool false, .int .i64 0]
        have hb2 := bl_alloc (bl_refl w1) (.cells #[.bool a0, .bool a1, .bool a2, .bool a3, .bool a4, .bool a5, .slice none 0 0, .int .i64 0, .bool false, .int .i64 0] 34)
        have hMI : MI w _ g w1.heap.size (fs0 ⟨a0, a1, a2, a3, a4, a5⟩) none 0 0 none _ := ⟨(hE.below hb2).is, o2, BT.nil _ _ _, .inl rfl, bl_trans HB1.out hb2, HG.out, HB1.out.size, HGL.out⟩
        have HST := Lib.hid hMI
        obtain ⟨q0, q1, q2, q3, q4, q5⟩ := o6_rangeM oo1
        clear hMI o2 hb2 hE HFw HB1 oo1
        go_wp2_with fail
        rw [← hbX] at HST ⊢
        clear hbX q0 q1 q2 q3 q4 q5
        go_loopw [11, 12, 43] (fun _ _ i wr => ∃ (k : Nat) (s : FS) (K : Option Addr) (kn kc : Nat) (kb : Option Nat) (B' : Nat), k ≤ n ∧ i = .int .i64 k ∧ Hid (s.fr ≤ 1500 * k) ∧ Hid (MI w wr g bX s K kn kc kb B')) (fun _ _ i _ => n - (intOf i).toNat)
        case atStart => exact ⟨0, _, _, _, _, _, _, Nat.zero_le _, rfl, Lib.hid (Nat.le_refl _), HST⟩
        case round =>
          obtain ⟨k, s, K, kn, kc, kb, B', hk, rfl, hfr, HM⟩ := hrel
          clear HST
          by_cases hlt : k < n
          · obtain ⟨b, o, rfl, hbB, hok, hrg⟩ := (HX.out.below HM.out.2.2.2.2.1).at_ hlt
            have hbw : b < wr.heap.size := by have h1 := HM.out.2.2.2.2.1.size; omega
            have hvm := nthO_mem (show k < vs.length by have := HN.out; omega)
            have hEn := HVN.out _ hvm
            have hby := (HX.out.2.1 _ hvm).1
            clear hvm
            generalize nthO vs k = E at *
            obtain ⟨Ek, EA, En, Ec, Ex, ⟨e0, e1, e2, e3, e4, e5⟩⟩ := E
            obtain ⟨d0, d1, d2, d3, d4, d5, d6, d7⟩ := range8 hrg
            dsimp only at d0 d1 d2 d3 d4 d5 d6 d7 hEn hby
            have bX' := bl_alloc (bl_refl wr) (.cells #[.int .i64 Ek, .slice EA En Ec, .bool e0, .bool e1, .bool e2, .bool e3, .bool e4, .bool e5] 28)
            have oX := Own.new wr 28 #[.int .i64 Ek, .slice EA En Ec, .bool e0, .bool e1, .bool e2, .bool e3, .bool e4, .bool e5]
            have HM2 := Lib.hid (HM.out.below bX')
            have HOX := Lib.hid oX
            have HBy := Lib.hid hby
            have HGB := Lib.hid (show g < wr.heap.size from HM.out.1.typed.lt)
            have HAX : ∀ (P : Nat → Prop) W, Rest (wr.alloc (.cells #[.int .i64 Ek, .slice EA En Ec, .bool e0, .bool e1, .bool e2, .bool e3, .bool e4, .bool e5] 28)) W P → ¬ P wr.heap.size → Own W wr.heap.size 28 #[.int .i64 Ek, .slice EA En Ec, .bool e0, .bool e1, .bool e2, .bool e3, .bool e4, .bool e5] := fun P W R hn => R.own oX hn
            have HAX := Lib.hid HAX
            have HFR := Lib.hid (show s.fr ≤ 100000 by have := hfr.out; omega)
            have HLB := Lib.hid (show bX < wr.heap.size from HM.out.2.1.lt)
            have x0 := oX.cell (i := 0) (v := .int .i64 Ek) rfl
            clear hrg bX' oX hok HM hby
            go_upto_block 4 with fail
            go_cut [] (fun wx => ∃ (s' : FS) (K' : Option Addr) (kn' kc' : Nat) (kb' : Option Nat) (B2 : Nat), Hid (s'.fr ≤ 1500 * (k + 1)) ∧ Hid (MI w wx g bX s' K' kn' kc' kb' B2))
            case first =>
              by_cases hk0 : Ek = 0
              · subst hk0
                have oB := HM2.out.2.1
                have hfo := FS.feed_ok HM2.out.1.ok Ex HBy.out.2.1
                have hxl := HBy.out.1
                have HRF := Lib.hid (rfeed_any s K kn kc EA En Ec Ex _ HM2.out.2.2.1 ((HBy.out.below HM2.out.2.2.2.2.1).more HM2.out.2.2.2.2.1.size) HM2.out.1.ok (by omega) HFR.out)
                have HFm := Lib.hid (fun W (h : FrIs W B' g s kb) (h2 : Below w.heap.size w W) (h3 : w.heap.size ≤ B') => ffeed_any g B' En Ec kb s EA Ex W h ((HBy.out.below h2).more h3) (by omega) HFR.out)
                have HFE := Lib.hid (show (s.feed Ex).1.fr ≤ 1500 * (k + 1) ∧ (s.feed Ex).2.length ≤ 1500 by have := hfr.out; omega)
                clear hfo hxl
                generalize s.feed Ex = pE at *
                obtain ⟨sE, qE⟩ := pE
                dsimp only at HRF HFm HFE
                go_wp2_with (refine wpList_load_row rfl 34 _ rfl bX rfl 34 (rfa s K kn kc) (0, 0) (.struct (Tryd.prog.fieldsOf 34)) oB rf_desc rfl (rfa_info _ _ _ _) ?_)
                refine HRF.out.mono ?_
                rintro e w2 hone
                obtain ⟨K2, n2, c2, Aw, c3, nw, rfl, oB2, hblt, hb2, HQ⟩ := HM2.out.feed hone
                have R3 := Rest.setRowF w2 bX (rfa sE K2 n2 c2)
                obtain ⟨hf3, hl3, hwB, HQ2⟩ := HQ (w2.setRow bX (rfa sE K2 n2 c2)) oB2.setRow R3 (by simp)
                have ox3 := HAX.out _ _ ((Rest.of_below hb2 (fun i => i = bX)).trans R3 (fun _ _ e => e)) (fun e => by have e2 : wr.heap.size = bX := e; have := HLB.out; omega)
                have x3 := ox3.cell (i := 1) (v := .slice EA En Ec) rfl
                have HFd := Lib.hid (HFm.out _ hf3 hl3 hwB)
                have HQ3 := Lib.hid HQ2
                have hxs := ox3.lt
                clear HQ HQ2 hf3 hl3 hwB ox3 R3 hone HRF HFm oB hb2
                go_wp2_with (refine wpList_store_row rfl 34 _ _ rfl bX (rfa sE K2 n2 c2) rfl rfl 34 (rfa s K kn kc) oB2 (rfa_info _ _ _ _) rfl (rfa_one _ _ _ _) ?_)
                refine HFd.out.mono ?_
                rintro e w4 ⟨v, L, B3, kb3, rfl, hR⟩
                obtain ⟨A5, c6, rfl, hE4, hL4⟩ := hR.evs
                obtain ⟨hMI4, Lw, rfl, hEw, hpp⟩ := HQ3.out w4 B3 kb3 L _ hR
                have hlen : L.length ≤ 1500 := by
                  have h1 := congrArg List.length hL4
                  rw [List.length_map] at h1
                  have := HFE.out.2
                  omega
                have HM4 := Lib.hid hMI4
                clear hMI4 hR HQ3 HFd hL4
                go_wp2_with fail
                refine (back_any A5 _ c6 L _ hE4 (by omega)).mono ?_
                rintro e w5 ⟨Ab, cb, rfl, hEb, hb5⟩
                have hEw5 := hEw.below hb5
                clear hE4 hEw
                go_wp2_with fail
                refine (rsame23_any Ab Aw _ _ cb c3 L Lw w5 hEb hEw5 hpp (by omega)).mono ?_
                rintro e w6 ⟨rfl, hb6⟩
                have HM6 := Lib.hid ((HM4.out.below hb5).below hb6)
                clear hEb hEw5 hb5 hb6
                go_wp2
                go_meet
                exact ⟨sE, K2, n2, c2, kb3, B3, Lib.hid HFE.out.1, HM6⟩
              · by_cases hk1 : Ek = 1
                · subst hk1
                  have HS := Lib.hid (set_st ⟨e0, e1, e2, e3, e4, e5⟩ HM2.out.1)
                  simp only [O6.cs] at HS
                  obtain ⟨y2, y3, y4, y5, y6, y7⟩ : _ ∧ _ ∧ _ ∧ _ ∧ _ ∧ _ := ⟨HOX.out.cell (i := 2) rfl, HOX.out.cell (i := 3) rfl, HOX.out.cell (i := 4) rfl, HOX.out.cell (i := 5) rfl, HOX.out.cell (i := 6) rfl, HOX.out.cell (i := 7) rfl⟩
                  go_wp2_with fail
                  refine HS.out.mono ?_
                  rintro e w2 ⟨rfl, hf2, R2⟩
                  have oB2 := HM2.out.own2 R2
                  have ox2 := HAX.out _ _ R2 (fun e => by have e2 : wr.heap.size = g := e; have := HGB.out; omega)
                  clear y2 y3 y4 y5 y6 y7
                  obtain ⟨y2, y3, y4, y5, y6, y7⟩ : _ ∧ _ ∧ _ ∧ _ ∧ _ ∧ _ := ⟨ox2.cell (i := 2) rfl, ox2.cell (i := 3) rfl, ox2.cell (i := 4) rfl, ox2.cell (i := 5) rfl, ox2.cell (i := 6) rfl, ox2.cell (i := 7) rfl⟩
                  have HT := Lib.hid (oB2.thereF (o := 0) (n := 6) (by simp [rfa]))
                  have oB3 := own_rfa_set oB2 e0 e1 e2 e3 e4 e5
                  have HF := Lib.hid (HM2.out.set_ hf2 R2 oB3 (Rest.setCellsF (g := bX) [.bool e0, .bool e1, .bool e2, .bool e3, .bool e4, .bool e5] 0 w2))
                  have hxs := ox2.lt
                  clear oB2 oB3 ox2 hf2 R2 HS
                  go_wp2_with (refine wpList_store_mid rfl 23 _ _ rfl bX 0 #[.bool e0, .bool e1, .bool e2, .bool e3, .bool e4, .bool e5] rfl rfl HT.out (o6_info _ _ _ _ _ _) (o6_one _ _ _ _ _ _) ?_)
                  go_meet
                  exact ⟨_, K, kn, kc, kb, B', Lib.hid (by have := hfr.out; dsimp only; omega), HF⟩
                · have hc8 := HM2.out.2.1.cell (i := 8) (v := .bool s.closed) rfl
                  have hlb := HLB.out
                  cases hcl : s.closed with
                  | false =>
                    rw [hcl] at hc8
                    have HC := Lib.hid (close_st (HM2.out.1.below (bl_refl _).drew) hcl)
                    have hq0 : (Ek == 0) = false := by simpa using hk0
                    have hq1 : (Ek == 1) = false := by simpa using hk1
                    have HS0 : (wr.alloc (.cells #[.int .i64 Ek, .slice EA En Ec, .bool e0, .bool e1, .bool e2, .bool e3, .bool e4, .bool e5] 28)).drew.cell? ⟨bX, 8, none⟩ = some (.bool false) := hc8
                    go_wp2_with fail
                    go_region_held3 (fun W => W.cell? ⟨bX, 8, none⟩ = some (.bool false)) (with_reducible first | exact HS0 | exact HS2) ((go_at_call 16; (with_reducible refine HC.out.mono ?_); rintro e w3 ⟨rfl, hf3, R3⟩; have HM3 := Lib.hid (And.intro (HM2.out.below (bl_refl _).drew) (And.intro hf3 R3)); have oB3 := HM3.out.1.own2 R3; have HS2 : w3.cell? ⟨bX, 8, none⟩ = some (.bool false) := (oB3.cell (i := 8) rfl).trans (congrArg (fun b => some (Value.bool b)) hcl)))
                    have oB4 := own_rfa_shut oB3
                    have hz8 := oB3.frozen 8
                    have hc6 := oB3.cell (i := 6) (v := .slice K kn kc) rfl
                    have hz6 := oB3.frozen 6
                    have hbl := oB3.lt
                    have HF := Lib.hid (HM3.out.1.shut HM3.out.2.1 HM3.out.2.2 oB4 ((Rest.setCell w3 ⟨bX, 8, none⟩ (.bool true)).trans (Rest.setCell _ ⟨bX, 6, none⟩ (.slice none 0 0)) (fun _ _ e => e)))
                    clear oB3 oB4 hf3 R3
                    go_wp2_with fail
                    go_meet
                    exact ⟨s.shut, none, 0, 0, none, _, Lib.hid (by have := hfr.out; show s.fr ≤ _; omega), HF⟩
                  | true =>
                    rw [hcl] at hc8
                    have HC := Lib.hid (close_st2 (HM2.out.1.below (bl_refl _).drew) hcl)
                    have hq0 : (Ek == 0) = false := by simpa using hk0
                    have hq1 : (Ek == 1) = false := by simpa using hk1
                    have HS0 : (wr.alloc (.cells #[.int .i64 Ek, .slice EA En Ec, .bool e0, .bool e1, .bool e2, .bool e3, .bool e4, .bool e5] 28)).drew.cell? ⟨bX, 8, none⟩ = some (.bool true) := hc8
                    go_wp2_with fail
                    go_region_held3 (fun W => W.cell? ⟨bX, 8, none⟩ = some (.bool true)) (with_reducible first | exact HS0 | exact HS2) ((go_at_call 16; (with_reducible refine HC.out.mono ?_); rintro e w3 ⟨rfl, hb3⟩; have HM3 := Lib.hid ((HM2.out.below (bl_refl _).drew).below hb3); have oB3 := HM3.out.2.1; have HS2 : w3.cell? ⟨bX, 8, none⟩ = some (.bool true) := (oB3.cell (i := 8) rfl).trans (congrArg (fun b => some (Value.bool b)) hcl)))
                    have oB4 := own_rfa_shut oB3
                    have hz8 := oB3.frozen 8
                    have hc6 := oB3.cell (i := 6) (v := .slice K kn kc) rfl
                    have hz6 := oB3.frozen 6
                    have hbl := oB3.lt
                    have HF := Lib.hid (HM3.out.shut (B2 := B') (kb2 := kb) (by rw [shut_same HM3.out.1.ok hcl]; exact HM3.out.1) (Rest.refl _ _) oB4 ((Rest.setCell w3 ⟨bX, 8, none⟩ (.bool true)).trans (Rest.setCell _ ⟨bX, 6, none⟩ (.slice none 0 0)) (fun _ _ e => e)))
                    clear oB3 oB4
                    go_wp2_with fail
                    go_meet
                    exact ⟨s.shut, none, 0, 0, kb, _, Lib.hid (by have := hfr.out; show s.fr ≤ _; omega), HF⟩
            case rest =>
              obtain ⟨s', K', kn', kc', kb', B2, hfr', HM'⟩ := hcut
              obtain rfl : kn' = s'.kept.length := HM'.out.2.2.1.1.1
              have HH := Lib.hid (rg_ofF (w := wc) (fun W hW => (held_st (HM'.out.1.below hW)).mono (fun e w' h => ⟨h.1, by rw [← h.2]; exact bl_refl _⟩)))
              have HCl := Lib.hid (rg_ofF (w := wc) (fun W hW => (closed_st (HM'.out.1.below hW)).mono (fun e w' h => ⟨h.1, by rw [← h.2]; exact bl_refl _⟩)))
              have HFs := Lib.hid (rg_ofF (w := wc) (fun W hW => (frames_st (HM'.out.1.below hW)).mono (fun e w' h => ⟨h.1, by rw [← h.2]; exact bl_refl _⟩)))
              have z6 := HM'.out.2.1.cell (i := 6) (v := .slice K' s'.kept.length kc') rfl
              have z8 := HM'.out.2.1.cell (i := 8) (v := .bool s'.closed) rfl
              have z9 := HM'.out.2.1.cell (i := 9) (v := .int .i64 s'.fr) rfl
              have z6r := cell_regrown z6
              have z8r := cell_regrown z8
              have z9r := cell_regrown z9
              have hbl := HM'.out.2.1.lt
              have hp1 : ((s'.kept.length : Int) != (s'.kept.length : Int)) = false := by simp
              have hp2 : (s'.closed != s'.closed) = false := by simp
              have hp3 : ((s'.fr : Int) != (s'.fr : Int)) = false := by simp
              go_wp2_with fail
              refine wp_region_quiet_below (by kernel_rfl) (by kernel_rfl) ?_
              repeat (first
                | go_big_quiet_skip
                | go_big_quiet_step (with_reducible first | exact HH.out _ _ | exact HCl.out _ _ | exact HFs.out _ _))
              refine wpQuiet_nil ?_
              rintro w' ⟨⟨dq, osq⟩, rfl⟩
              have hgw := below_regrown wc dq osq
              have HMf := Lib.hid (HM'.out.below hgw)
              generalize grow (redrawn wc dq) osq = wf at *
              clear HH HCl HFs hgw z6 z8 z9 z6r z8r z9r hbl
              go_wp2
              go_roundw
              case rel => exact ⟨k + 1, s', K', s'.kept.length, kc', kb', B2, by omega, by go_num, hfr', HMf⟩
              case measure => simp [intOf]; omega
          · obtain rfl : n = k := by omega
            have hlow := HM.out.2.2.2.2.1
            go_wp2_with fail
            refine (alive23_any _ HM.out.1.hrows).mono ?_
            rintro e w9 ⟨rfl, hb9⟩
            go_wp2
            go_ret
            exact ⟨rfl, bl_trans hlow hb9⟩
end Go.Proofs.YtgahjchngmojlabDoor

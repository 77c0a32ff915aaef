/- peerageref06.Narrow, right, Valid -/
import Derived.Test.YtniheakafkakhabDoorSgN
namespace Go.Proofs.YtniheakafkakhabDoor
open Go.RowKit Go.Sort

theorem seg_two {W : World} {g : Nat} {T : TypeId} {a b : Value} (o : Own W g T #[a, b]) : W.cell? ⟨g, 0, none⟩ = some a ∧ W.cell? ⟨g, 1, none⟩ = some b := ⟨o.cell rfl, o.cell rfl⟩
set_option maxRecDepth 100000 in
set_option maxHeartbeats 6400000 in
theorem rnarrow_any (A : Option Addr) (n c : Nat) (ss : List Sg) (w : World) (h : Segs w w.heap.size A n ss) (hn : n ≤ 1000) (hs : ∀ s ∈ ss, s.n ≤ 1000) :
    Calls Tryd.prog 26 #[.slice A n c] w fun e w' => ∃ v L, e = .returned v ∧ SRow w' w.heap.size v L ∧ Hid (L.map sgK = ss.map narK ∧ L.length = n ∧ ∀ s ∈ L, s.n ≤ 1000) ∧ Below w.heap.size w w' := by
  have HV := Lib.hid h
  have HN := Lib.hid h.1
  have HS := Lib.hid hs
  clear h hs
  go_enter Tryd.func26, Tryd.ntmps26
  go_wp2_with fail
  go_loopw [3, 4] (fun v i wr => ∃ (j : Nat) (L : List Sg), j ≤ n ∧ i = .int .i64 j ∧ SRow wr w.heap.size v L ∧ Hid (L.map sgK = (ss.take j).map narK ∧ L.length = j ∧ ∀ s ∈ L, s.n ≤ 1000) ∧ Below w.heap.size w wr) (fun _ i _ => n - (intOf i).toNat)
  case atStart => exact ⟨0, [], Nat.zero_le _, rfl, SRow.nil _ _, Lib.hid ⟨rfl, rfl, (fun _ h => by cases h)⟩, bl_refl w⟩
  case round =>
    obtain ⟨j, L, hj, rfl, hrow, hL, hbw⟩ := hrel
    by_cases hlt : j < n
    · obtain ⟨b, o, rfl, hbB, e0, e1⟩ := (HV.out.below hbw).at_ hlt
      have hj1 := Lib.hid (show j < ss.length by rw [← HN.out]; exact hlt)
      have hSt := Lib.hid (narK_take hj1.out)
      have HU := Lib.hid ((segs_u32 HV.out hj1.out).below hbw)
      have hR := Lib.hid ((HV.out.2.1 _ (sgth_mem hj1.out)).2.2.2.1)
      have hW := Lib.hid ((HV.out.2.1 _ (sgth_mem hj1.out)).2.2.1)
      have hsn := HS.out _ (sgth_mem hj1.out)
      have hK : Hid (narK (sgth ss j) = ((sgth ss j).k, (sgth ss j).xs.map nar)) := Lib.hid rfl
      generalize narK (sgth ss j) = kq at *
      generalize sgth ss j = s at *
      obtain ⟨sk, sA, sn, sc, sx⟩ := s
      dsimp only at *
      have HL := Lib.hid HU.out.1
      have hbs := hbw.size
      have hbl0 : b < wr.heap.size := by omega
      obtain ⟨w0, rfl⟩ : ∃ x, x = wr := ⟨_, rfl⟩
      have HRw := Lib.hid hrow
      have HBw := Lib.hid hbw
      have HE1 := Lib.hid e1
      have oS := Own.new w0 31 #[.int .i64 sk, .slice none 0 0]
      have hbS : Below w0.heap.size w0 _ := bl_alloc (bl_refl w0) (.cells #[.int .i64 sk, .slice none 0 0] 31)
      clear hrow hbw
      go_wp2_with fail
      go_loopw [6] (fun i wq => ∃ (q : Nat) (A1 : Option Addr) (c1 : Nat), q ≤ sn ∧ i = .int .i64 q ∧ wq.ownsRow (w0.heap.size + 1) 40 1 (.slice A1 q c1) q (((sx.take q).map nar).map (Value.int .u32)) ∧ Own wq w0.heap.size 31 #[.int .i64 sk, .slice A1 q c1] ∧ Below w0.heap.size w0 wq ∧ w0.heap.size + 1 ≤ wq.heap.size) (fun i _ => sn - (intOf i).toNat)
      case atStart => exact ⟨0, none, 0, Nat.zero_le _, rfl, World.ownsRow_nil _ _ _ _, oS, hbS, by simp⟩
      case round =>
        obtain ⟨q, A1, c1, hq, rfl, hoq, oq, hbq, hsq⟩ := hrel
        clear oS hbS
        have e2 := (hbq.cell (p := ⟨b, o + j * 2 + 1, none⟩) hbl0).trans HE1.out
        have d1 := oq.cell (i := 1) rfl
        have dlt := oq.lt
        by_cases hltq : q < sn
        · obtain ⟨b2, o2, rfl, hb2B, hc2⟩ := (HU.out.below (Joins.below_le hbq hbs)).at_ hltq
          have hq1 := Lib.hid (show q < sx.length by rw [← HL.out]; exact hltq)
          have hD := Lib.hid (nar_take hq1.out)
          have hbl1 : b < wr.heap.size := by omega
          have hbl2 : b2 < wr.heap.size := by omega
          generalize nth sx q = x at *
          by_cases hx : 65535 < x
          · have hxn := Lib.hid (show nar x = 23456 by unfold nar; rw [if_pos hx])
            have HOQ := Lib.hid hoq
            have HB := Lib.hid hbq
            have HO := Lib.hid oq
            clear hoq hbq oq
            go_wp2_with (at_builtin; refine wpList_append_grow _ rfl _ _ rfl sl_u32 (w0.heap.size + 1) _ q _ rfl (HOQ.out.alloc _) (wr.heap.size + 1) (some ⟨wr.heap.size, 0, none⟩) 1 1 [_] rfl rfl (Shows.of_owned (Own.new _ _ _) (by simp)) (one1 rfl) (by unfold maxLen; omega) (by omega) (by simp; omega) ?_; intro v3 w3 hoq2 hgrow2; obtain ⟨A3, c3, rfl⟩ := own_form hoq2; have oq3 := (HO.out.alloc (.cells #[.int .u32 23456] 40)).grown hgrow2 (by intro e; have := own_base HOQ.out _ e.symm; omega); have cq3 := oq3.cell (i := 1) rfl; have fq3 := oq3.frozen 1; have hq3 := oq3.lt)
            have hbq3 : Below w0.heap.size w0 w3 := (HB.out.alloc HB.out.size _).grown hgrow2 (by simp; omega) (fun j hj => Nat.le_trans (by omega) (own_base HOQ.out j hj))
            have hbq4 := hbq3.setCell (p := ⟨w0.heap.size, 1, none⟩) (Nat.le_refl _) (.slice A3 (q + 1) c3)
            have oq4 := oq3.set_ 1 (.slice A3 (q + 1) c3)
            have hs4 : w0.heap.size + 1 ≤ (w3.setCell ⟨w0.heap.size, 1, none⟩ (.slice A3 (q + 1) c3)).heap.size := by have := (Rest.setCell w3 ⟨w0.heap.size, 1, none⟩ (.slice A3 (q + 1) c3)).size; omega
            rw [← hxn.out, ← hD.out] at hoq2
            have hoq4 := row_rest hoq2 (Rest.setCell w3 ⟨w0.heap.size, 1, none⟩ (.slice A3 (q + 1) c3)) (fun j hj e => by have := (row_typed hoq2 hj).2; dsimp only at e; omega)
            go_roundw
            case rel => exact ⟨q + 1, A3, c3, by omega, by go_num, hoq4, by simpa using oq4, hbq4, hs4⟩
            case measure => simp [intOf]; omega
          · have hxn := Lib.hid (show nar x = x by unfold nar; rw [if_neg hx])
            have HOQ := Lib.hid hoq
            have HB := Lib.hid hbq
            have HO := Lib.hid oq
            clear hoq hbq oq
            go_wp2_with fail
            go_region_law ((first
              | (refine step_append_at _ rfl _ _ rfl sl_u32 (w0.heap.size + 1) _ q _ rfl (own_belowG HOQ.out (show Below wr.heap.size wr (wr.drew.alloc (.cells #[.int .u32 x] 40)) from bl_alloc (show Below wr.heap.size wr wr.drew from bl_drewN (bl_refl wr) 1) _)) (wr.heap.size + 1) (some ⟨wr.heap.size, 0, none⟩) 1 1 [.int .u32 x] rfl rfl (Shows.of_owned (xs := [.int .u32 x]) (Own.new wr.drew 40 #[.int .u32 x]) (Nat.lt_succ_self _)) (one1 rfl) (by unfold maxLen; omega) (by omega) (by simp; omega) ?_; intro v3 w3 hoq2 hgrow2 _; obtain ⟨A3, c3, rfl⟩ := own_form hoq2; have oq3 := (HO.out.drew.alloc (.cells #[.int .u32 x] 40)).grown hgrow2 (by intro e; have := own_base HOQ.out _ e.symm; omega); have cq3 := oq3.cell (i := 1) rfl; have fq3 := oq3.frozen 1; have hq3 := oq3.lt)))
            all_goals
              have hbq3 : Below w0.heap.size w0 w3 := ((show Below w0.heap.size w0 wr.drew from bl_drewN HB.out 1).alloc HB.out.size _).grown hgrow2 (by simp; omega) (fun j hj => Nat.le_trans (by omega) (own_base HOQ.out j hj))
              have hbq4 := hbq3.setCell (p := ⟨w0.heap.size, 1, none⟩) (Nat.le_refl _) (.slice A3 (q + 1) c3)
              have oq4 := oq3.set_ 1 (.slice A3 (q + 1) c3)
              have hs4 : w0.heap.size + 1 ≤ (w3.setCell ⟨w0.heap.size, 1, none⟩ (.slice A3 (q + 1) c3)).heap.size := by have := (Rest.setCell w3 ⟨w0.heap.size, 1, none⟩ (.slice A3 (q + 1) c3)).size; omega
              rw [hxn.out] at hD
              rw [← hD.out] at hoq2
              have hoq4 := row_rest hoq2 (Rest.setCell w3 ⟨w0.heap.size, 1, none⟩ (.slice A3 (q + 1) c3)) (fun j hj e => by have := (row_typed hoq2 hj).2; dsimp only at e; omega)
              go_wp2
              go_roundw
              case rel => exact ⟨q + 1, A3, c3, by omega, by go_num, hoq4, by simpa using oq4, hbq4, hs4⟩
              case measure => simp [intOf]; omega
        · obtain rfl : sn = q := by omega
          have hRow := Lib.hid (HRw.out.below hbq)
          have hbx := Lib.hid (bl_trans HBw.out hbq)
          have hsz := hbx.out.size
          have hc0 := oq.cell (i := 0) rfl
          have hSD := Lib.hid (show SD wr w.heap.size ⟨sk, A1, sn, c1, sx.map nar⟩ from ⟨own_leG (by rw [List.take_of_length_le (by rw [← HL.out]; exact Nat.le_refl _)] at hoq; exact hoq) (by omega), by show sn = (sx.map nar).length; rw [List.length_map]; exact HL.out, fun x hx => by
            obtain ⟨y, hy, rfl⟩ := List.mem_map.1 hx
            exact nar_range (hR.out y hy), hW.out⟩)
          have hLl : L.length ≤ 1000 := by have := hL.out.2.1; omega
          clear hoq oq hbq
          go_wp2_with (at_builtin; refine wpList_append_grow _ rfl _ _ rfl sl_segs w.heap.size _ L.length _ rfl (hRow.out.1.alloc _) (wr.heap.size + 1) (some ⟨wr.heap.size, 0, none⟩) 1 1 [.int .i64 sk, .slice A1 sn c1] rfl rfl (Shows.of_owned (Own.new _ _ _) (by simp)) (oneS _ _ _ _) (by unfold maxLen; omega) (by omega) (by simp; omega) ?_; intro v3 w3 ho3 hg3)
          have hr3 := hRow.out.push hSD.out ho3 hg3
          have hb3 := (hbx.out.alloc hbx.out.size _).grown hg3 (by simp; omega) (own_base hRow.out.1)
          have hF := Lib.hid (show (L ++ [(⟨sk, A1, sn, c1, sx.map nar⟩ : Sg)]).map sgK = (ss.take (j + 1)).map narK ∧ (L ++ [(⟨sk, A1, sn, c1, sx.map nar⟩ : Sg)]).length = j + 1 ∧ ∀ s ∈ L ++ [(⟨sk, A1, sn, c1, sx.map nar⟩ : Sg)], s.n ≤ 1000 from ⟨by rw [hSt.out, List.map_append, hL.out.1, hK.out]; rfl, by rw [List.length_append, hL.out.2.1]; rfl, fun s hs => by
            rcases List.mem_append.1 hs with hs | hs
            · exact hL.out.2.2 s hs
            · rw [List.mem_singleton] at hs
              subst hs
              exact hsn⟩)
          go_roundw
          case rel => exact ⟨j + 1, _, by omega, by go_num, hr3, hF, hb3⟩
          case measure => simp [intOf]; omega
    · have hjn : j = n := by omega
      have hF := Lib.hid (show L.map sgK = ss.map narK ∧ L.length = n ∧ ∀ s ∈ L, s.n ≤ 1000 by
        have := hL.out
        rw [List.take_of_length_le (by have := HN.out; omega)] at this
        exact ⟨this.1, this.2.1.trans hjn, this.2.2⟩)
      go_wp2
      go_ret
      exact ⟨_, L, rfl, hrow, hF, hbw⟩
set_option maxRecDepth 100000 in
set_option maxHeartbeats 3200000 in
/-- peerageref06.right at a segment. -/
theorem right_any (s : Sg) (w : World) (h : U32s w w.heap.size s.A s.n s.xs) (hm : s.n ≤ 1000000) :
    Calls Tryd.prog 30 #[.int .i64 4, .agg #[.int .i64 s.k, .slice s.A s.n s.c]] w fun e w' => e = .returned (.bool (sgOk 4 s)) ∧ Below w.heap.size w w' := by
  obtain ⟨sk, sA, sn, sc, sx⟩ := s
  dsimp only at *
  have hO : Hid (sgOk 4 ⟨sk, sA, sn, sc, sx⟩ = decide ((sk = 1 ∨ sk = 2) ∧ 1 ≤ sn ∧ sn ≤ 255)) := Lib.hid (by unfold sgOk; simp)
  have hb1 := bl_alloc (bl_refl w) (.cells #[.int .i64 sk, .slice sA sn sc] 31)
  have oB := Own.new w 31 #[.int .i64 sk, .slice sA sn sc]
  have hc1 := oB.cell (i := 1) rfl
  generalize sgOk 4 ⟨sk, sA, sn, sc, sx⟩ = D at *
  clear h
  by_cases hk12 : sk = 1 ∨ sk = 2
  · by_cases hs1 : sn < 1
    · obtain rfl : sn = 0 := by omega
      have hD := Lib.hid (show D = false by rw [hO.out]; exact decide_eq_false (by omega))
      clear hO
      rcases hk12 with rfl | rfl
      all_goals
        go_enter Tryd.func30, Tryd.ntmps30
        go_wp2
        go_ret
        exact ⟨ret_boolA hD.out.symm, hb1⟩
    · have h3 : ¬ (sn : Int) < 1 := by omega
      by_cases hs2 : sn ≤ 255
      · have h4 : ¬ (255 : Int) < (sn : Int) := by omega
        have hD := Lib.hid (show D = true by rw [hO.out]; exact decide_eq_true ⟨hk12, by omega, hs2⟩)
        clear hO hs1
        rcases hk12 with rfl | rfl
        all_goals
          go_enter Tryd.func30, Tryd.ntmps30
          go_wp2
          go_loopw [5] (fun i wr => (∃ q : Nat, q ≤ sn ∧ i = .int .i64 q) ∧ wr = w.alloc (.cells #[.int .i64 _, .slice sA sn sc] 31)) (fun i _ => sn - (intOf i).toNat)
          case atStart => exact ⟨⟨0, Nat.zero_le _, rfl⟩, rfl⟩
          case round =>
            obtain ⟨⟨q, hq, rfl⟩, rfl⟩ := hrel
            by_cases hlt : q < sn
            · go_wp2
              go_roundw
              case rel => exact ⟨⟨q + 1, by omega, by go_num⟩, trivial⟩
              case measure => simp [intOf]; omega
            · obtain rfl : q = sn := by omega
              go_wp2
              go_ret
              exact ⟨ret_boolA hD.out.symm, hb1⟩
      · have h4 : (255 : Int) < (sn : Int) := by omega
        have hD := Lib.hid (show D = false by rw [hO.out]; exact decide_eq_false (by omega))
        clear hO hs1 hs2
        rcases hk12 with rfl | rfl
        all_goals
          go_enter Tryd.func30, Tryd.ntmps30
          go_wp2
          go_ret
          exact ⟨ret_boolA hD.out.symm, hb1⟩
  · have h1 : ¬ sk = 1 := fun h => hk12 (.inl h)
    have h2 : ¬ sk = 2 := fun h => hk12 (.inr h)
    have e1 : (sk != 1) = true := by simpa using h1
    have e2 : (sk != 2) = true := by simpa using h2
    have hD := Lib.hid (show D = false by rw [hO.out]; exact decide_eq_false (fun h => hk12 h.1))
    clear hk12 hO h1 h2
    go_enter Tryd.func30, Tryd.ntmps30
    go_wp2
    go_ret
    exact ⟨ret_boolA hD.out.symm, hb1⟩
set_option maxRecDepth 100000 in
set_option maxHeartbeats 3200000 in
theorem rvalid_any (A : Option Addr) (n c : Nat) (ss : List Sg) (w : World) (hx : Segs w w.heap.size A n ss) (hn : n ≤ 1000) (hs : ∀ s ∈ ss, s.n ≤ 1000) :
    Calls Tryd.prog 19 #[.int .i64 4, .slice A n c] w fun e w' => e = .returned (.bool (ss.all (sgOk 4))) ∧ Below w.heap.size w w' := by
  have HN := Lib.hid hx.1
  have HX := Lib.hid hx
  have HS := Lib.hid hs
  clear hx hs
  go_enter Tryd.func19, Tryd.ntmps19
  go_wp2_with fail
  go_loopw [5] (fun i wr => (∃ k : Nat, k ≤ n ∧ i = .int .i64 k ∧ Hid ((ss.take k).all (sgOk 4) = true)) ∧ Below w.heap.size w wr) (fun i _ => n - (intOf i).toNat)
  case atStart => exact ⟨⟨0, Nat.zero_le _, rfl, Lib.hid (by simp)⟩, bl_refl w⟩
  case round =>
    obtain ⟨⟨k, hk, rfl, hall⟩, hb⟩ := hrel
    by_cases hlt : k < n
    · obtain ⟨b, o, rfl, hbB, hc0, hc1⟩ := (HX.out.below hb).at_ hlt
      have hkl := Lib.hid (show k < ss.length by have := HN.out; omega)
      have hNo := Lib.hid (fun h => sgall_no (P := sgOk 4) hkl.out h)
      have hYe := Lib.hid (fun h => sgall_step (P := sgOk 4) hkl.out hall.out h)
      have hC := Lib.hid (right_any (sgth ss k) _ (((segs_u32 HX.out hkl.out).below hb).more hb.size) (by have := HS.out _ (sgth_mem hkl.out); omega))
      generalize sgOk 4 (sgth ss k) = D at *
      generalize sgth ss k = s at *
      obtain ⟨sk, sA, sn, sc, sx⟩ := s
      dsimp only at *
      cases D
      · have hR := Lib.hid (hNo.out rfl)
        go_wp2_with fail
        refine hC.out.mono ?_
        rintro e w2 ⟨rfl, hb2⟩
        have hb3 := bl_trans hb hb2
        go_wp2
        go_ret
        exact ⟨ret_boolA hR.out.symm, hb3⟩
      · have hR := Lib.hid (hYe.out rfl)
        go_wp2_with fail
        refine hC.out.mono ?_
        rintro e w2 ⟨rfl, hb2⟩
        have hb3 := bl_trans hb hb2
        go_wp2
        go_roundw
        case rel => exact ⟨⟨k + 1, by omega, by go_num, hR⟩, hb3⟩
        case measure => simp [intOf]; omega
    · have HE := Lib.hid (show ss.all (sgOk 4) = true by have := hall.out; rwa [List.take_of_length_le (by rw [← HN.out]; omega)] at this)
      go_wp2
      go_ret
      exact ⟨ret_boolA HE.out.symm, hb⟩
end Go.Proofs.YtniheakafkakhabDoor

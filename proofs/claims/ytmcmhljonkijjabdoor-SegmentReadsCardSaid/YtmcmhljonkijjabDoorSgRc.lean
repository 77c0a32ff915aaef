/- peerageref06.Read at two bytes a number -/
import Derived.Test.YtmcmhljonkijjabDoorSgZ
namespace Go.Proofs.YtmcmhljonkijjabDoor
open Go.RowKit Go.Sort

set_option maxRecDepth 100000 in
set_option maxHeartbeats 3200000 in
theorem rreadS_2 (A : Option Addr) (n c : Nat) (xs : List Int) (w : World) (h : Bytes w w.heap.size A n xs) (hc : n ≤ c) (hn : n ≤ 600) (O : Option (List (Int × List Int))) (hO : Hid (readS 2 (xs.length + 1) xs = O)) :
    Calls Tryd.prog 19 #[.int .i64 2, .slice A n c] w (GotR w O) := by
  have hl := h.1
  have HL := Lib.hid (show xs.length ≤ 600 by omega)
  have HX := Lib.hid h
  have HC := Lib.hid hc
  clear h hl hn hc
  go_enter Tryd.func19, Tryd.ntmps19
  go_wp2_with fail
  go_loopw [1, 6] (fun s v wr => ∃ (L : List Sg) (ys : List Int) (A1 : Option Addr) (n1 c1 : Nat), s = .slice A1 n1 c1 ∧ n1 ≤ c1 ∧ SRow wr w.heap.size v L ∧ Hid (Come 2 xs (L.map sgK) ys ∧ L.length + ys.length ≤ xs.length ∧ ∀ s ∈ L, s.n ≤ 1000) ∧ Bytes wr w.heap.size A1 n1 ys ∧ Below w.heap.size w wr) (fun _ v _ => 600 - lenOfS v)
  case atStart => exact ⟨[], xs, A, n, c, rfl, HC.out, SRow.nil _ _, Lib.hid ⟨Come.start 2 xs, by simp, (fun _ h => by cases h)⟩, HX.out, bl_refl w⟩
  case round =>
    obtain ⟨L, ys, A1, n1, c1, rfl, hnc, hrow, hL, hby, hb⟩ := hrel
    obtain ⟨A0, c0, rfl⟩ := hrow.form
    have hyl := Lib.hid hby.1
    have hn1 : n1 ≤ 600 := by have := hL.out.2.1; have := HL.out; have := hyl.out; omega
    have HB := Lib.hid hby
    have HRw := Lib.hid hrow
    have HBl := Lib.hid hb
    clear hby hrow hb
    by_cases hy : n1 = 0
    · subst hy
      have hy0 : ys = [] := List.length_eq_zero_iff.1 hyl.out.symm
      have hG := Lib.hid (show Got O true L from ⟨.inl ⟨by rw [← hO.out]; exact (hy0 ▸ hL.out.1).done, rfl⟩, by have := hL.out.2.1; have := HL.out; omega, hL.out.2.2⟩)
      clear hy0
      go_wp2
      go_ret2
      exact GotR.mk _ L true rfl HRw.out hG HBl.out
    · have hpos : 0 < n1 := by omega
      have hne := Lib.hid (show ys ≠ [] by intro e; have := hyl.out; rw [e] at this; simp at this; omega)
      obtain ⟨b, o, rfl, hbB, g0, x0, x1⟩ := HB.out.at_ (k := 0) hpos
      rw [Nat.add_zero] at g0
      by_cases hok : okS 2 ys = true
      · have h2 := of_decide_eq_true (show decide _ = true from hok)
        have q3 := hyl.out
        obtain ⟨b', o', hA', _, g1, y0, y1⟩ := HB.out.at_ (k := 1) (by omega)
        injection hA' with hA'
        injection hA' with q1 q2 _
        subst q1 q2
        have hCs := Lib.hid (hL.out.1.step hne.out hok)
        have hlt := Lib.hid (rest_lt hok)
        have hgd := Lib.hid (segS_good (wd := 2) HB.out.2.1 hok)
        have hsg : Hid (segS 2 ys = (nth ys 0, nums 2 (nth ys 1).toNat (ys.drop 2))) := Lib.hid rfl
        have hrs : Hid (restS 2 ys = ys.drop (2 + (nth ys 1).toNat * 2)) := Lib.hid rfl
        rw [← q3] at h2
        generalize segS 2 ys = sg at *
        generalize restS 2 ys = zs at *
        generalize nth ys 0 = a at *
        generalize nth ys 1 = d at *
        obtain ⟨dn, rfl⟩ : ∃ dn : Nat, d = (dn : Int) := ⟨d.toNat, by omega⟩
        rw [Int.toNat_natCast] at hsg hrs h2
        have hd8 : IntKind.i64.wrap (dn : Int) = (dn : Int) := by rw [IntKind.wrap_i64]; omega
        have hd0 : ((dn : Int) == 0) = false := by simp; omega
        have h4 : ¬ (n1 : Int) < 2 + (dn : Int) * 2 := by omega
        have h5 : dn ≤ 255 := by omega
        have h6 : 2 + dn * 2 ≤ n1 := h2.2.2.2
        have ha := h2.2.1
        have hge : 1 ≤ dn := by omega
        have hLl : L.length ≤ 600 := by have := hL.out.2.1; have := HL.out; omega
        clear h2 hok q3
        obtain ⟨w0, rfl⟩ : ∃ x, x = wr := ⟨_, rfl⟩
        have hwf := Lib.hid (show (Lit.int .i64 a).wf = true from wf_byteS (by omega))
        have hbl0 : b < w0.heap.size := by have := HBl.out.size; omega
        rcases ha with rfl | rfl
        · skip
          have oS := Own.new w0 36 #[.int .i64 1, .slice none 0 0]
          have hbS := bl_alloc (bl_refl w0) (.cells #[.int .i64 1, .slice none 0 0] 36)
          go_wp2_with fail
          go_loopw [9] (fun i wq => ∃ (q : Nat) (A2 : Option Addr) (c2 : Nat), q ≤ dn ∧ i = .int .i64 q ∧ wq.ownsRow (w0.heap.size + 1) 38 1 (.slice A2 q c2) q ((nums 2 q (ys.drop 2)).map (Value.int .u32)) ∧ Own wq w0.heap.size 36 #[.int .i64 1, .slice A2 q c2] ∧ Below w0.heap.size w0 wq ∧ w0.heap.size + 1 ≤ wq.heap.size) (fun i _ => dn - (intOf i).toNat)
          case atStart => exact ⟨0, none, 0, Nat.zero_le _, rfl, World.ownsRow_nil _ _ _ _, oS, hbS, by simp⟩
          case round =>
            obtain ⟨q, A2, c2, hq, rfl, hrow, oq, hbq, hsq⟩ := hrel
            clear oS hbS
            have d1 := oq.cell (i := 1) rfl
            have dlt := oq.lt
            by_cases hltq : q < dn
            · have HRq := Lib.hid hrow
              have HOq := Lib.hid oq
              have HBq := Lib.hid hbq
              have hbw := HBl.out.size
              have hBy := (HB.out.below (Joins.below_le hbq hbw)).below (show Below w.heap.size wr wr.drew from (bl_drewN (bl_refl wr) 1).mono (by omega))
              obtain ⟨lo, hlo⟩ : ∃ lo : Nat, lo = 2 + q * 2 := ⟨_, rfl⟩
              have hcut := (bytes_cut hBy (k := lo) (by omega)).front (k := 2) (by omega)
              have hnu := Lib.hid (show (nums 2 (q + 1) (ys.drop 2)).map (Value.int .u32) = (nums 2 q (ys.drop 2)).map (Value.int .u32) ++ [.int .u32 (big ((ys.drop lo).take 2))] by rw [nums_succ, List.map_append, List.drop_drop, ← hlo]; rfl)
              have hBig := Lib.hid (fun cc => rbig_any (some ⟨b, o + lo, none⟩) 2 cc ((ys.drop lo).take 2) wr.drew w.heap.size hcut (by omega))
              generalize big ((ys.drop lo).take 2) = x at *
              have k1 : IntKind.i64.wrap ((q : Int) * 2) = (q : Int) * 2 := by rw [IntKind.wrap_i64]; omega
              have k2 : IntKind.i64.wrap (2 + (q : Int) * 2) = (lo : Int) := by rw [IntKind.wrap_i64]; omega
              have k3 : IntKind.i64.wrap ((q : Int) + 1) = (q : Int) + 1 := by rw [IntKind.wrap_i64]; omega
              have k4 : IntKind.i64.wrap (((q : Int) + 1) * 2) = ((q : Int) + 1) * 2 := by rw [IntKind.wrap_i64]; omega
              have k5 : IntKind.i64.wrap (2 + ((q : Int) + 1) * 2) = (lo : Int) + 2 := by rw [IntKind.wrap_i64]; omega
              have f1 : 0 ≤ (lo : Int) + 2 := by omega
              have f2 : (lo : Int) + 2 ≤ (c1 : Int) := by omega
              have f3 : (lo : Int) ≤ max ((lo : Int) + 2) 0 := by omega
              have f4 : ((lo : Int) + 2).toNat = lo + 2 := by omega
              have m3 : lo + 2 ≤ n1 := by omega
              have m4 : ¬ c1 = lo := by omega
              clear hcut hBy hrow oq hbq hlo
              go_wp2_with fail
              go_region_law ((first
                | (go_simp; go_at_call 56; refine (hBig.out _).mono ?_; rintro e w' ⟨rfl, rfl⟩)
                | (refine step_append_at _ rfl _ _ rfl sl_u32 (w0.heap.size + 1) _ q _ rfl (own_belowG HRq.out (show Below wr.heap.size wr (wr.alloc (.cells #[.int .u32 x] 38)).drew from bl_drewN (bl_alloc (bl_refl wr) _) 1)) (wr.heap.size + 1) (some ⟨wr.heap.size, 0, none⟩) 1 1 [.int .u32 x] rfl rfl (Shows.of_owned (xs := [.int .u32 x]) (Own.new wr 38 #[.int .u32 x]).drew (Nat.lt_succ_self _)) (one1 rfl) (by unfold maxLen; omega) (by omega) (by simp; omega) ?_; intro v3 w3 hoq2 hgrow2 _; obtain ⟨A3, c3, rfl⟩ := own_form hoq2; have oq3 := (HOq.out.alloc (.cells #[.int .u32 x] 38)).drew.grown hgrow2 (by intro e; have := own_base HRq.out _ e.symm; omega); have cq3 := oq3.cell (i := 1) rfl; have fq3 := oq3.frozen 1; have hq3 := oq3.lt)))
              all_goals
                have hbq3 : Below w0.heap.size w0 w3 := (show Below w0.heap.size w0 (wr.alloc (.cells #[.int .u32 x] 38)).drew from bl_drewN (HBq.out.alloc HBq.out.size _) 1).grown hgrow2 (by simp; omega) (fun j hj => Nat.le_trans (by omega) (own_base HRq.out j hj))
                have hbq4 := hbq3.setCell (p := ⟨w0.heap.size, 1, none⟩) (Nat.le_refl _) (.slice A3 (q + 1) c3)
                have oq4 := oq3.set_ 1 (.slice A3 (q + 1) c3)
                have hs4 : w0.heap.size + 1 ≤ (w3.setCell ⟨w0.heap.size, 1, none⟩ (.slice A3 (q + 1) c3)).heap.size := by have := (Rest.setCell w3 ⟨w0.heap.size, 1, none⟩ (.slice A3 (q + 1) c3)).size; omega
                rw [← hnu.out] at hoq2
                have hoq4 := row_rest hoq2 (Rest.setCell w3 ⟨w0.heap.size, 1, none⟩ (.slice A3 (q + 1) c3)) (fun j hj e => by have := (row_typed hoq2 hj).2; dsimp only at e; omega)
                go_wp2
                go_roundw
                case rel => exact ⟨q + 1, A3, c3, by omega, by go_num, hoq4, by simpa using oq4, hbq4, hs4⟩
                case measure => simp [intOf]; omega
            · obtain rfl : dn = q := by omega
              have hle := HBl.out.size
              have d0 := oq.cell (i := 0) rfl
              obtain ⟨lo, hlo⟩ : ∃ lo : Nat, lo = 2 + dn * 2 := ⟨_, rfl⟩
              have HLo := Lib.hid hlo
              have k1 : IntKind.i64.wrap ((dn : Int) * 2) = (dn : Int) * 2 := by rw [IntKind.wrap_i64]; omega
              have k2 : IntKind.i64.wrap (2 + (dn : Int) * 2) = (lo : Int) := by rw [IntKind.wrap_i64]; omega
              have f1 : (lo : Int) ≤ (n1 : Int) := by omega
              have f2 : lo ≤ n1 := by omega
              have hRow := Lib.hid (HRw.out.below hbq)
              have hbx := Lib.hid (bl_trans HBl.out hbq)
              have hb0 := Lib.hid (Joins.below_le hbq hle)
              have hSD := Lib.hid (show SD wr w.heap.size ⟨1, A2, dn, c2, nums 2 dn (ys.drop 2)⟩ from ⟨own_leG hrow (by omega), (nums_len _ _ _).symm, nums_range (by omega) (byteL.drop HB.out.2.1 2), hwf.out⟩)
              have hF := Lib.hid (show Come 2 xs ((L ++ [(⟨1, A2, dn, c2, nums 2 dn (ys.drop 2)⟩ : Sg)]).map sgK) zs ∧ (L ++ [(⟨1, A2, dn, c2, nums 2 dn (ys.drop 2)⟩ : Sg)]).length + zs.length ≤ xs.length ∧ ∀ s ∈ L ++ [(⟨1, A2, dn, c2, nums 2 dn (ys.drop 2)⟩ : Sg)], s.n ≤ 1000 from ⟨by
                rw [List.map_append]
                have e : [(⟨1, A2, dn, c2, nums 2 dn (ys.drop 2)⟩ : Sg)].map sgK = [sg] := by rw [hsg.out]; rfl
                rw [e]
                exact hCs.out, by rw [List.length_append, List.length_singleton]; have := hL.out.2.1; have := hlt.out; omega, fun s hs => by
                rcases List.mem_append.1 hs with hs | hs
                · exact hL.out.2.2 s hs
                · rw [List.mem_singleton] at hs
                  subst hs
                  show dn ≤ 1000
                  omega⟩)
              have hfin := Lib.hid (show L.length + 1 ≤ 600 by have := hF.out.2.1; rw [List.length_append, List.length_singleton] at this; have := HL.out; omega)
              have hwz := hbx.out.size
              clear hrow oq hbq hlo
              by_cases hcl : c1 = lo
              · have hz : n1 - lo = 0 := by omega
                go_wp2_with (at_builtin; refine wpList_append_grow _ rfl _ _ rfl sl_segs w.heap.size _ L.length _ rfl (hRow.out.1.alloc _) (wr.heap.size + 1) (some ⟨wr.heap.size, 0, none⟩) 1 1 [.int .i64 1, .slice A2 dn c2] rfl rfl (Shows.of_owned (Own.new _ _ _) (by simp)) (oneS _ _ _ _) (by unfold maxLen; omega) (by omega) (by simp; omega) ?_; intro v3 w3 ho3 hg3)
                have hr3 := hRow.out.push hSD.out ho3 hg3
                have hb3 := (hbx.out.alloc hbx.out.size _).grown hg3 (by simp; omega) (own_base hRow.out.1)
                have hby3 : Bytes w3 w.heap.size (some ⟨b, o, none⟩) 0 zs := by
                  have e : zs = [] := by rw [hrs.out]; exact List.drop_eq_nil_of_le (by have := hyl.out; have := HLo.out; omega)
                  rw [e]
                  exact Bytes.nil _ _ _
                obtain ⟨A5, c5, rfl⟩ := hr3.form
                go_roundw
                case rel => exact ⟨_, zs, _, _, _, rfl, by omega, hr3, hF, hby3, hb3⟩
                case measure =>
                  have := hfin.out
                  simp [lenOfS]
                  omega
              · have f3 : lo ≤ c1 := by omega
                go_wp2_with (at_builtin; refine wpList_append_grow _ rfl _ _ rfl sl_segs w.heap.size _ L.length _ rfl (hRow.out.1.alloc _) (wr.heap.size + 1) (some ⟨wr.heap.size, 0, none⟩) 1 1 [.int .i64 1, .slice A2 dn c2] rfl rfl (Shows.of_owned (Own.new _ _ _) (by simp)) (oneS _ _ _ _) (by unfold maxLen; omega) (by omega) (by simp; omega) ?_; intro v3 w3 ho3 hg3)
                have hr3 := hRow.out.push hSD.out ho3 hg3
                have hb3 := (hbx.out.alloc hbx.out.size _).grown hg3 (by simp; omega) (own_base hRow.out.1)
                have hb03 := (hb0.out.alloc hbx.out.size (.cells #[.int .i64 1, .slice A2 dn c2] 36)).grown hg3 (by simp; omega) (own_base hRow.out.1)
                have hby3 : Bytes w3 w.heap.size (some ⟨b, o + lo, none⟩) (n1 - lo) zs := by
                  rw [hrs.out, ← HLo.out]
                  exact bytes_cut (HB.out.below hb03) f2
                obtain ⟨A5, c5, rfl⟩ := hr3.form
                go_roundw
                case rel => exact ⟨_, zs, _, _, _, rfl, by omega, hr3, hF, hby3, hb3⟩
                case measure =>
                  have := hfin.out
                  simp [lenOfS]
                  omega
        · skip
          have oS := Own.new w0 36 #[.int .i64 2, .slice none 0 0]
          have hbS := bl_alloc (bl_refl w0) (.cells #[.int .i64 2, .slice none 0 0] 36)
          go_wp2_with fail
          go_loopw [9] (fun i wq => ∃ (q : Nat) (A2 : Option Addr) (c2 : Nat), q ≤ dn ∧ i = .int .i64 q ∧ wq.ownsRow (w0.heap.size + 1) 38 1 (.slice A2 q c2) q ((nums 2 q (ys.drop 2)).map (Value.int .u32)) ∧ Own wq w0.heap.size 36 #[.int .i64 2, .slice A2 q c2] ∧ Below w0.heap.size w0 wq ∧ w0.heap.size + 1 ≤ wq.heap.size) (fun i _ => dn - (intOf i).toNat)
          case atStart => exact ⟨0, none, 0, Nat.zero_le _, rfl, World.ownsRow_nil _ _ _ _, oS, hbS, by simp⟩
          case round =>
            obtain ⟨q, A2, c2, hq, rfl, hrow, oq, hbq, hsq⟩ := hrel
            clear oS hbS
            have d1 := oq.cell (i := 1) rfl
            have dlt := oq.lt
            by_cases hltq : q < dn
            · have HRq := Lib.hid hrow
              have HOq := Lib.hid oq
              have HBq := Lib.hid hbq
              have hbw := HBl.out.size
              have hBy := (HB.out.below (Joins.below_le hbq hbw)).below (show Below w.heap.size wr wr.drew from (bl_drewN (bl_refl wr) 1).mono (by omega))
              obtain ⟨lo, hlo⟩ : ∃ lo : Nat, lo = 2 + q * 2 := ⟨_, rfl⟩
              have hcut := (bytes_cut hBy (k := lo) (by omega)).front (k := 2) (by omega)
              have hnu := Lib.hid (show (nums 2 (q + 1) (ys.drop 2)).map (Value.int .u32) = (nums 2 q (ys.drop 2)).map (Value.int .u32) ++ [.int .u32 (big ((ys.drop lo).take 2))] by rw [nums_succ, List.map_append, List.drop_drop, ← hlo]; rfl)
              have hBig := Lib.hid (fun cc => rbig_any (some ⟨b, o + lo, none⟩) 2 cc ((ys.drop lo).take 2) wr.drew w.heap.size hcut (by omega))
              generalize big ((ys.drop lo).take 2) = x at *
              have k1 : IntKind.i64.wrap ((q : Int) * 2) = (q : Int) * 2 := by rw [IntKind.wrap_i64]; omega
              have k2 : IntKind.i64.wrap (2 + (q : Int) * 2) = (lo : Int) := by rw [IntKind.wrap_i64]; omega
              have k3 : IntKind.i64.wrap ((q : Int) + 1) = (q : Int) + 1 := by rw [IntKind.wrap_i64]; omega
              have k4 : IntKind.i64.wrap (((q : Int) + 1) * 2) = ((q : Int) + 1) * 2 := by rw [IntKind.wrap_i64]; omega
              have k5 : IntKind.i64.wrap (2 + ((q : Int) + 1) * 2) = (lo : Int) + 2 := by rw [IntKind.wrap_i64]; omega
              have f1 : 0 ≤ (lo : Int) + 2 := by omega
              have f2 : (lo : Int) + 2 ≤ (c1 : Int) := by omega
              have f3 : (lo : Int) ≤ max ((lo : Int) + 2) 0 := by omega
              have f4 : ((lo : Int) + 2).toNat = lo + 2 := by omega
              have m3 : lo + 2 ≤ n1 := by omega
              have m4 : ¬ c1 = lo := by omega
              clear hcut hBy hrow oq hbq hlo
              go_wp2_with fail
              go_region_law ((first
                | (go_simp; go_at_call 56; refine (hBig.out _).mono ?_; rintro e w' ⟨rfl, rfl⟩)
                | (refine step_append_at _ rfl _ _ rfl sl_u32 (w0.heap.size + 1) _ q _ rfl (own_belowG HRq.out (show Below wr.heap.size wr (wr.alloc (.cells #[.int .u32 x] 38)).drew from bl_drewN (bl_alloc (bl_refl wr) _) 1)) (wr.heap.size + 1) (some ⟨wr.heap.size, 0, none⟩) 1 1 [.int .u32 x] rfl rfl (Shows.of_owned (xs := [.int .u32 x]) (Own.new wr 38 #[.int .u32 x]).drew (Nat.lt_succ_self _)) (one1 rfl) (by unfold maxLen; omega) (by omega) (by simp; omega) ?_; intro v3 w3 hoq2 hgrow2 _; obtain ⟨A3, c3, rfl⟩ := own_form hoq2; have oq3 := (HOq.out.alloc (.cells #[.int .u32 x] 38)).drew.grown hgrow2 (by intro e; have := own_base HRq.out _ e.symm; omega); have cq3 := oq3.cell (i := 1) rfl; have fq3 := oq3.frozen 1; have hq3 := oq3.lt)))
              all_goals
                have hbq3 : Below w0.heap.size w0 w3 := (show Below w0.heap.size w0 (wr.alloc (.cells #[.int .u32 x] 38)).drew from bl_drewN (HBq.out.alloc HBq.out.size _) 1).grown hgrow2 (by simp; omega) (fun j hj => Nat.le_trans (by omega) (own_base HRq.out j hj))
                have hbq4 := hbq3.setCell (p := ⟨w0.heap.size, 1, none⟩) (Nat.le_refl _) (.slice A3 (q + 1) c3)
                have oq4 := oq3.set_ 1 (.slice A3 (q + 1) c3)
                have hs4 : w0.heap.size + 1 ≤ (w3.setCell ⟨w0.heap.size, 1, none⟩ (.slice A3 (q + 1) c3)).heap.size := by have := (Rest.setCell w3 ⟨w0.heap.size, 1, none⟩ (.slice A3 (q + 1) c3)).size; omega
                rw [← hnu.out] at hoq2
                have hoq4 := row_rest hoq2 (Rest.setCell w3 ⟨w0.heap.size, 1, none⟩ (.slice A3 (q + 1) c3)) (fun j hj e => by have := (row_typed hoq2 hj).2; dsimp only at e; omega)
                go_wp2
                go_roundw
                case rel => exact ⟨q + 1, A3, c3, by omega, by go_num, hoq4, by simpa using oq4, hbq4, hs4⟩
                case measure => simp [intOf]; omega
            · obtain rfl : dn = q := by omega
              have hle := HBl.out.size
              have d0 := oq.cell (i := 0) rfl
              obtain ⟨lo, hlo⟩ : ∃ lo : Nat, lo = 2 + dn * 2 := ⟨_, rfl⟩
              have HLo := Lib.hid hlo
              have k1 : IntKind.i64.wrap ((dn : Int) * 2) = (dn : Int) * 2 := by rw [IntKind.wrap_i64]; omega
              have k2 : IntKind.i64.wrap (2 + (dn : Int) * 2) = (lo : Int) := by rw [IntKind.wrap_i64]; omega
              have f1 : (lo : Int) ≤ (n1 : Int) := by omega
              have f2 : lo ≤ n1 := by omega
              have hRow := Lib.hid (HRw.out.below hbq)
              have hbx := Lib.hid (bl_trans HBl.out hbq)
              have hb0 := Lib.hid (Joins.below_le hbq hle)
              have hSD := Lib.hid (show SD wr w.heap.size ⟨2, A2, dn, c2, nums 2 dn (ys.drop 2)⟩ from ⟨own_leG hrow (by omega), (nums_len _ _ _).symm, nums_range (by omega) (byteL.drop HB.out.2.1 2), hwf.out⟩)
              have hF := Lib.hid (show Come 2 xs ((L ++ [(⟨2, A2, dn, c2, nums 2 dn (ys.drop 2)⟩ : Sg)]).map sgK) zs ∧ (L ++ [(⟨2, A2, dn, c2, nums 2 dn (ys.drop 2)⟩ : Sg)]).length + zs.length ≤ xs.length ∧ ∀ s ∈ L ++ [(⟨2, A2, dn, c2, nums 2 dn (ys.drop 2)⟩ : Sg)], s.n ≤ 1000 from ⟨by
                rw [List.map_append]
                have e : [(⟨2, A2, dn, c2, nums 2 dn (ys.drop 2)⟩ : Sg)].map sgK = [sg] := by rw [hsg.out]; rfl
                rw [e]
                exact hCs.out, by rw [List.length_append, List.length_singleton]; have := hL.out.2.1; have := hlt.out; omega, fun s hs => by
                rcases List.mem_append.1 hs with hs | hs
                · exact hL.out.2.2 s hs
                · rw [List.mem_singleton] at hs
                  subst hs
                  show dn ≤ 1000
                  omega⟩)
              have hfin := Lib.hid (show L.length + 1 ≤ 600 by have := hF.out.2.1; rw [List.length_append, List.length_singleton] at this; have := HL.out; omega)
              have hwz := hbx.out.size
              clear hrow oq hbq hlo
              by_cases hcl : c1 = lo
              · have hz : n1 - lo = 0 := by omega
                go_wp2_with (at_builtin; refine wpList_append_grow _ rfl _ _ rfl sl_segs w.heap.size _ L.length _ rfl (hRow.out.1.alloc _) (wr.heap.size + 1) (some ⟨wr.heap.size, 0, none⟩) 1 1 [.int .i64 2, .slice A2 dn c2] rfl rfl (Shows.of_owned (Own.new _ _ _) (by simp)) (oneS _ _ _ _) (by unfold maxLen; omega) (by omega) (by simp; omega) ?_; intro v3 w3 ho3 hg3)
                have hr3 := hRow.out.push hSD.out ho3 hg3
                have hb3 := (hbx.out.alloc hbx.out.size _).grown hg3 (by simp; omega) (own_base hRow.out.1)
                have hby3 : Bytes w3 w.heap.size (some ⟨b, o, none⟩) 0 zs := by
                  have e : zs = [] := by rw [hrs.out]; exact List.drop_eq_nil_of_le (by have := hyl.out; have := HLo.out; omega)
                  rw [e]
                  exact Bytes.nil _ _ _
                obtain ⟨A5, c5, rfl⟩ := hr3.form
                go_roundw
                case rel => exact ⟨_, zs, _, _, _, rfl, by omega, hr3, hF, hby3, hb3⟩
                case measure =>
                  have := hfin.out
                  simp [lenOfS]
                  omega
              · have f3 : lo ≤ c1 := by omega
                go_wp2_with (at_builtin; refine wpList_append_grow _ rfl _ _ rfl sl_segs w.heap.size _ L.length _ rfl (hRow.out.1.alloc _) (wr.heap.size + 1) (some ⟨wr.heap.size, 0, none⟩) 1 1 [.int .i64 2, .slice A2 dn c2] rfl rfl (Shows.of_owned (Own.new _ _ _) (by simp)) (oneS _ _ _ _) (by unfold maxLen; omega) (by omega) (by simp; omega) ?_; intro v3 w3 ho3 hg3)
                have hr3 := hRow.out.push hSD.out ho3 hg3
                have hb3 := (hbx.out.alloc hbx.out.size _).grown hg3 (by simp; omega) (own_base hRow.out.1)
                have hb03 := (hb0.out.alloc hbx.out.size (.cells #[.int .i64 2, .slice A2 dn c2] 36)).grown hg3 (by simp; omega) (own_base hRow.out.1)
                have hby3 : Bytes w3 w.heap.size (some ⟨b, o + lo, none⟩) (n1 - lo) zs := by
                  rw [hrs.out, ← HLo.out]
                  exact bytes_cut (HB.out.below hb03) f2
                obtain ⟨A5, c5, rfl⟩ := hr3.form
                go_roundw
                case rel => exact ⟨_, zs, _, _, _, rfl, by omega, hr3, hF, hby3, hb3⟩
                case measure =>
                  have := hfin.out
                  simp [lenOfS]
                  omega
      · have hok2 : okS 2 ys = false := by simpa using hok
        have hG := Lib.hid (show Got O false [] from ⟨.inr ⟨by rw [← hO.out]; exact hL.out.1.fail hne.out hok2, rfl, rfl⟩, by simp, fun _ h => by cases h⟩)
        have h2 := of_decide_eq_false (show decide _ = false from hok2)
        by_cases h1 : n1 < 2
        · clear hok hok2 h2
          go_wp2
          go_ret2
          exact GotR.mk _ [] false rfl (SRow.nil _ _) hG HBl.out
        · obtain ⟨b', o', hA', _, g1, y0, y1⟩ := HB.out.at_ (k := 1) (by omega)
          injection hA' with hA'
          injection hA' with q1 q2 _
          subst q1 q2
          have q3 := hyl.out
          have h3 : ¬ ((nth ys 0 = 1 ∨ nth ys 0 = 2) ∧ 1 ≤ nth ys 1 ∧ 2 + (nth ys 1).toNat * 2 ≤ ys.length) := fun h => h2 ⟨by omega, h⟩
          rw [← q3] at h3
          generalize nth ys 0 = a at *
          generalize nth ys 1 = d at *
          have hd8 : IntKind.i64.wrap d = d := by rw [IntKind.wrap_i64]; omega
          clear hok hok2 h2 q3
          by_cases ha : a = 1 ∨ a = 2
          · by_cases hd : d = 0
            · subst hd
              clear h3
              rcases ha with rfl | rfl
              all_goals
                go_wp2
                go_ret2
                exact GotR.mk _ [] false rfl (SRow.nil _ _) hG HBl.out
            · have h4 : (n1 : Int) < 2 + d * 2 := by
                have : ¬ (2 + d.toNat * 2 ≤ n1) := fun e => h3 ⟨ha, by omega, e⟩
                omega
              have hd2 : (d == 0) = false := by simpa using hd
              clear h3
              rcases ha with rfl | rfl
              all_goals
                go_wp2
                go_ret2
                exact GotR.mk _ [] false rfl (SRow.nil _ _) hG HBl.out
          · have e1 : (a != 1) = true := by simp; omega
            have e2 : (a != 2) = true := by simp; omega
            clear h3 ha
            go_wp2
            go_ret2
            exact GotR.mk _ [] false rfl (SRow.nil _ _) hG HBl.out
end Go.Proofs.YtmcmhljonkijjabDoor

/- segment.Text: the walk of valid segments -/
import Derived.Test.YtecbbjdcnlocdaaDoorSgD
import Derived.Test.YtecbbjdcnlocdaaDoorStepG
namespace Go.Proofs.YtecbbjdcnlocdaaDoor
open Go.RowKit Go.Sort

set_option maxRecDepth 100000 in
set_option maxHeartbeats 3200000 in
theorem stext_yes (A : Option Addr) (n c : Nat) (ss : List Sg) (w : World) (ht : Tens w) (hbk : Brk w) (h : Segs w w.heap.size A n ss) (hn : n ≤ 1000000) (hk : ss.all (sgOk 4) = true) :
    Calls Tryd.prog 12 #[.slice A n c] w fun e w' => e = .returned (.string (sgsTxt ss)) ∧ Below w.heap.size w w' := by
  have hV := Lib.hid (svalid_yes 4 (.inr rfl) A n c ss w h hn)
  rw [hk] at hV
  have HV := Lib.hid h
  have HN := Lib.hid h.1
  have HT := Lib.hid ht
  have HB := Lib.hid hbk
  have hO : Hid (sgsTxt ss = joinB (ss.map sgTxt) [32]) := Lib.hid rfl
  have HK := Lib.hid (fun (s : Sg) (hs : s ∈ ss) => (show (s.k = 1 ∨ s.k = 2) ∧ 1 ≤ s.n ∧ s.n ≤ 255 by have := List.all_eq_true.1 hk s hs; unfold sgOk at this; simp at this; exact this))
  have HXL := Lib.hid (fun s (hs : s ∈ ss) => (show s.xs.length ≤ 255 by have h1 := (HK.out s hs).2.2; have h2 := (h.2.1 s hs).2.2.2.2.1; omega))
  have HSz := Lib.hid (fun s (hs : s ∈ ss) => sgTxt_size (s := s) (fun x hx => by have := (h.2.1 s hs).2.2.2.1 x hx; omega) (HXL.out s hs))
  generalize sgsTxt ss = T at *
  clear h hk ht hbk
  go_enter Tryd.func12, Tryd.ntmps12
  go_wp2_with fail
  refine hV.out.mono ?_
  rintro e w1 ⟨rfl, hb0⟩
  go_wp2_with fail
  go_loopw [3, 15] (fun v i wr => ∃ j : Nat, j ≤ n ∧ i = .int .i64 j ∧ wr.ownsRow w.heap.size 9 1 v j (((ss.take j).map sgTxt).map Value.string) ∧ Below w.heap.size w wr) (fun _ i _ => n - (intOf i).toNat)
  case atStart => exact ⟨0, Nat.zero_le _, rfl, World.ownsRow_nil _ _ _ _, hb0⟩
  case round =>
    obtain ⟨j, hj, rfl, hown, hbw⟩ := hrel
    obtain ⟨A3, c3, rfl, _, _⟩ := own_val hown
    have HO := Lib.hid hown
    by_cases hlt : j < n
    · obtain ⟨b, o, rfl, hbB, e0, e1⟩ := (HV.out.below hbw).at_ hlt
      have hj1 := Lib.hid (show j < ss.length by rw [← HN.out]; exact hlt)
      have hSt := Lib.hid (strs_take hj1.out)
      have HU := Lib.hid ((segs_u32 HV.out hj1.out).below hbw)
      have hR := Lib.hid ((HV.out.2.1 _ (sgth_mem hj1.out)).2.2.2.1)
      have hOk := HK.out _ (sgth_mem hj1.out)
      have hXl := HXL.out _ (sgth_mem hj1.out)
      have hTx : Hid (sgTxt (sgth ss j) = if (sgth ss j).k = 1 then ⟨#[123]⟩ ++ segJ (sgth ss j).xs ++ ⟨#[125]⟩ else ⟨#[91]⟩ ++ segJ (sgth ss j).xs ++ ⟨#[93]⟩) := Lib.hid rfl
      generalize sgTxt (sgth ss j) = tx at *
      generalize sgth ss j = s at *
      obtain ⟨sk, sA, sn, sc, sx⟩ := s
      dsimp only at *
      have HL := Lib.hid HU.out.1
      have hn1 : 1 ≤ sn := hOk.2.1
      have hn2 : sn ≤ 255 := hOk.2.2
      have hk12 := hOk.1
      clear hOk hown
      have hbs := hbw.size
      obtain ⟨w0, rfl⟩ : ∃ x, x = wr := ⟨_, rfl⟩
      have oS := Own.new w0 61 #[.int .i64 sk, .slice sA sn sc]
      have hbS : Below w0.heap.size w0 _ := bl_alloc (bl_refl w0) (.cells #[.int .i64 sk, .slice sA sn sc] 61)
      go_wp2_with fail
      go_loopw [6, 22] (fun v i wr => ∃ q : Nat, q ≤ sn ∧ i = .int .i64 q ∧ wr.ownsRow (w0.heap.size + 1) 9 1 v q (((sx.take q).map decB).map Value.string) ∧ Own wr w0.heap.size 61 #[.int .i64 sk, .slice sA sn sc] ∧ Below w0.heap.size w0 wr) (fun _ i _ => sn - (intOf i).toNat)
      case atStart => exact ⟨0, Nat.zero_le _, rfl, World.ownsRow_nil _ _ _ _, oS, hbS⟩
      case round =>
        obtain ⟨q, hq, rfl, hoq, oq, hbq⟩ := hrel
        clear oS hbS
        by_cases hltq : q < sn
        · have hbwq := bl_trans hbw hbq
          obtain ⟨b2, o2, rfl, hb2B, hc2⟩ := (HU.out.below (Joins.below_le hbq hbs)).at_ hltq
          have hq1 := Lib.hid (show q < sx.length by rw [← HL.out]; exact hltq)
          have hD := Lib.hid (decs_take hq1.out)
          have hxr := hR.out _ (nth_mem hq1.out)
          generalize nth sx q = x at *
          have hF := Lib.hid (fmtS x hxr.1 hxr.2 _ (HT.out.below hbwq))
          have w64 : IntKind.u64.wrap x = x := by rw [IntKind.wrap_u64]; omega
          have hlo := oq.lt
          clear hxr
          go_wp2_with fail
          refine hF.out.mono ?_
          rintro e w2 ⟨rfl, hb2⟩
          have hoq1 := own_belowA hoq hb2
          have oq1 := oq.step hb2
          have hbq1 := bl_trans hbq hb2
          have hbs2 := hbq1.size
          have hlo1 := oq1.lt
          clear hoq oq hbq hb2 hc2 hbwq
          go_wp2_with (at_builtin; go_loud (refine wpList_append_grow _ rfl _ _ rfl sl_strA (w0.heap.size + 1) _ _ _ rfl (hoq1.alloc _) (w2.heap.size + 1) (some ⟨w2.heap.size, 0, none⟩) 1 1 [_] rfl rfl (Shows.of_owned (Own.new _ _ _) (by simp)) (one1 rfl) (by unfold maxLen; omega) (by omega) (by simp; omega) ?_); intro v3 w3 hoq2 hgrow2)
          have hbq3 : Below w0.heap.size w0 w3 := (hbq1.alloc hbq1.size _).grown hgrow2 (by simp; omega) (fun j hj => Nat.le_trans (by omega) (own_base hoq1 j hj))
          have oq3 : Own w3 w0.heap.size 61 #[.int .i64 sk, .slice (some ⟨b2, o2, none⟩) sn sc] := (oq1.alloc _).grown hgrow2 (by intro e; have := own_base hoq1 _ e.symm; omega)
          rw [← hD.out] at hoq2
          go_roundw
          case rel => exact ⟨q + 1, by omega, by go_num, hoq2, oq3, hbq3⟩
          case measure => simp [intOf]; omega
        · obtain rfl : sn = q := by omega
          have hbwq := Lib.hid (bl_trans hbw hbq)
          have hBk := HB.out.below hbwq.out
          have hk1 := hBk.1
          have hk2 := hBk.2.1
          have hk3 := hBk.2.2
          have hc0 := oq.cell (i := 0) rfl
          have hOq := Lib.hid (own_belowA HO.out hbq)
          have hJr := Lib.hid (show wr.ownsRow (w0.heap.size + 1) 9 1 _ (sx.map decB).length ((sx.map decB).map Value.string) by
            have e := HL.out
            rw [List.length_map, ← e]
            rw [List.take_of_length_le (by omega)] at hoq
            exact hoq)
          have hJl := Lib.hid (show (sx.map decB).length ≤ 1000000 by rw [List.length_map]; omega)
          have hJz := Lib.hid (show ∀ y ∈ sx.map decB, y.data.toList.length ≤ 19 by
            intro y hy
            obtain ⟨x, hx, rfl⟩ := List.mem_map.1 hy
            have := decB_size (n := x) (by have := hR.out x hx; omega)
            rwa [Array.length_toList])
          have hJs := segJ_size (xs := sx) (fun x hx => by have := hR.out x hx; omega) hXl
          have hJo : Hid (joinB (sx.map decB) [32] = segJ sx) := Lib.hid rfl
          clear hBk hoq oq hbw hbq
          have hJ := Lib.hid (join_rowD hJr.out hJl.out hJz.out hJo.out)
          generalize segJ sx = J at *
          have z1 : ¬ 9223372036854775807 < 1 + J.size := by omega
          have z2 : ¬ 9223372036854775807 < 1 + J.size + 1 := by omega
          have x1 : (⟨#[123, 125]⟩ : ByteArray).extract 0 1 = ⟨#[123]⟩ := by kernel_rfl
          have x2 : (⟨#[123, 125]⟩ : ByteArray).extract 1 2 = ⟨#[125]⟩ := by kernel_rfl
          have x3 : (⟨#[91, 93]⟩ : ByteArray).extract 0 1 = ⟨#[91]⟩ := by kernel_rfl
          have x4 : (⟨#[91, 93]⟩ : ByteArray).extract 1 2 = ⟨#[93]⟩ := by kernel_rfl
          rcases hk12 with rfl | rfl
          · skip
            go_wp2_with fail
            go_region_held3 (fun _ => True) (with_reducible first | exact trivial) ((first
              | (go_at_call 44; (with_reducible refine hJ.out.mono ?_); rintro e w2 ⟨rfl, hb2⟩; have hbw2 := bl_trans (show Below w.heap.size w wr.drew from bl_drewN hbwq.out 1) hb2; have hO2 := own_belowA (own_belowA hOq.out (show Below wr.heap.size wr wr.drew from bl_drewN (bl_refl wr) 1)) hb2; have hs2 := hbw2.size)
              | (apply step_append_grow; (case hop => rfl); (case hS => exact sl_strA); (case hv => rfl); (case hown => exact hO2.alloc _); (case hx => rfl); (case hs => exact Shows.of_owned (Own.new _ _ _) (Nat.lt_succ_self _)); (case hg => rfl); (case hn => rfl); (case h1c => exact one1 rfl); (case h63 => (unfold maxLen; omega)); (case hbytes => omega); (case hbase => (simp; omega)); intro v3 w3 ho3 hg3; have hb3 := (hbw2.alloc hbw2.size _).grown hg3 (by simp; omega) (own_base hO2))))
            go_wp2
            go_roundw
            case rel =>
              refine ⟨j + 1, by omega, by go_num, ?_, hb3⟩
              rw [hSt.out, hTx.out]
              exact ho3
            case measure => simp [intOf]; omega
          · skip
            go_wp2_with fail
            go_region_held3 (fun _ => True) (with_reducible first | exact trivial) ((first
              | (go_at_call 44; (with_reducible refine hJ.out.mono ?_); rintro e w2 ⟨rfl, hb2⟩; have hbw2 := bl_trans (show Below w.heap.size w wr.drew from bl_drewN hbwq.out 1) hb2; have hO2 := own_belowA (own_belowA hOq.out (show Below wr.heap.size wr wr.drew from bl_drewN (bl_refl wr) 1)) hb2; have hs2 := hbw2.size)
              | (apply step_append_grow; (case hop => rfl); (case hS => exact sl_strA); (case hv => rfl); (case hown => exact hO2.alloc _); (case hx => rfl); (case hs => exact Shows.of_owned (Own.new _ _ _) (Nat.lt_succ_self _)); (case hg => rfl); (case hn => rfl); (case h1c => exact one1 rfl); (case h63 => (unfold maxLen; omega)); (case hbytes => omega); (case hbase => (simp; omega)); intro v3 w3 ho3 hg3; have hb3 := (hbw2.alloc hbw2.size _).grown hg3 (by simp; omega) (own_base hO2))))
            go_wp2
            go_roundw
            case rel =>
              refine ⟨j + 1, by omega, by go_num, ?_, hb3⟩
              rw [hSt.out, hTx.out]
              exact ho3
            case measure => simp [intOf]; omega
    · have hjn := Lib.hid (show j = ss.length by have := HN.out; omega)
      have hR := Lib.hid (show wr.ownsRow w.heap.size 9 1 (.slice A3 j c3) (ss.map sgTxt).length ((ss.map sgTxt).map Value.string) by
        have e := hjn.out
        have := HO.out
        rw [List.take_of_length_le (by omega)] at this
        rw [List.length_map, ← e]
        exact this)
      have hZ := Lib.hid (show ∀ y ∈ ss.map sgTxt, y.data.toList.length ≤ 5102 by
        intro y hy
        obtain ⟨s, hs, rfl⟩ := List.mem_map.1 hy
        have := HSz.out s hs
        rwa [Array.length_toList])
      have hLn := Lib.hid (show (ss.map sgTxt).length ≤ 1000000 by rw [List.length_map]; have := HN.out; omega)
      clear hown
      go_wp2_with fail
      refine (join_row 5102 ⟨#[32]⟩ hR.out hLn.out hZ.out (by omega) (by decide)).mono ?_
      rintro e w2 ⟨rfl, hb2⟩
      have hbb := bl_trans hbw hb2
      go_wp2
      go_ret
      exact ⟨by rw [hO.out]; rfl, hbb⟩
end Go.Proofs.YtecbbjdcnlocdaaDoor

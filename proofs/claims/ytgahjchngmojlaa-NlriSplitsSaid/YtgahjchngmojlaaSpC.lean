/- peerageref03.Split -/
import Derived.Test.YtgahjchngmojlaaSpB
import Derived.Test.YtgahjchngmojlaaNr
namespace Go.Proofs.Ytgahjchngmojlaa
open Go.RowKit

theorem range_low {w W : World} {b o : Nat} {cs : List Value} (h : Below w.heap.size w W) (hb : b < w.heap.size) (hr : w.rangeAt b o cs) : W.rangeAt b o cs := fun j v hv => (h.cell (p := ⟨b, o + j, none⟩) hb).trans (hr j v hv)
set_option maxHeartbeats 12800000 in
set_option maxRecDepth 100000 in
theorem rsplit_any (most : Int) (add : Bool) (A : Option Addr) (n c : Nat) (rs : List Rt) (w : World) (h : Routes w w.heap.size A n rs) (hn : n ≤ 1000) :
    Calls Try.prog 12 #[.int .i64 most, .int .i64 2, .bool add, .slice A n c] w fun e w' => SpR most add rs w e w' := by
  have HN := Lib.hid h.1
  have HX := Lib.hid h
  have HV := Lib.hid (rvalid_any 2 add A n c rs w h (by omega))
  clear h
  cases hk : rs.all (rtOk 2 add) with
  | false =>
    rw [hk] at HV
    have HK := Lib.hid hk
    clear hk
    go_enter Try.func12, Try.ntmps12
    go_wp2_with fail
    refine HV.out.mono ?_
    rintro e w1 ⟨rfl, hb1⟩
    go_wp2
    go_ret2
    exact .inr ⟨by rw [HK.out]; rfl, rfl, hb1⟩
  | true =>
    rw [hk] at HV
    have HK := Lib.hid hk
    clear hk
    go_enter Try.func12, Try.ntmps12
    go_wp2_with fail
    refine HV.out.mono ?_
    rintro e w1 ⟨rfl, hb1⟩
    have HST := Lib.hid (SW.start hb1)
    clear hb1 HV
    go_wp2_with fail
    go_loopw [10, 11, 12, 13] (fun lv cv nm i wr => ∃ (k : Nat) (ps : List RPart) (Bc sz : Nat) (s : SpS), k ≤ n ∧ i = .int .i64 k ∧ nm = .int .i64 sz ∧ SW w wr lv cv ps s.2 Bc ∧ Hid (sz = szL add s.2 ∧ s = spAt most add rs k ∧ ps.map RPart.xs = s.1 ∧ (rs.take k).all (fitsR most add) = true)) (fun _ _ _ i _ => n - (intOf i).toNat)
    case atStart => exact ⟨0, [], _, 0, ([], []), Nat.zero_le _, rfl, rfl, HST.out, Lib.hid ⟨rfl, rfl, rfl, by simp⟩⟩
    case round =>
      obtain ⟨k, ps, Bc, sz, ⟨d, cur⟩, hkn, rfl, rfl, hsw, hI⟩ := hrel
      clear HST
      obtain ⟨⟨A0, c0, rfl⟩, ⟨A1, c1, rfl⟩⟩ := hsw.form
      have hSO := Lib.hid (spAt_ok (k := k) (by have := HN.out; omega) (fits_ok hI.out.2.2.2))
      have hps : ps.length ≤ k := by
        have h1 := hSO.out.fl
        have h3 := done_len (fun l hl => (hSO.out.done l hl).1)
        rw [← hI.out.2.1] at h1 h3
        have h2 := congrArg List.length h1
        have h4 := congrArg List.length hI.out.2.2.1
        rw [List.length_append, List.length_take] at h2
        rw [List.length_map] at h4
        dsimp only at h2 h3 h4
        omega
      have hszc : sz ≤ 21000 := by
        have h1 := cur_le hSO.out
        have h2 := szL_le HK.out (k := k) (by have := HN.out; omega)
        have h3 := hI.out.1
        rw [← hI.out.2.1] at h1
        dsimp only at h1 h3
        omega
      have hcl : cur.length ≤ k := by
        have h1 := hSO.out.fl
        rw [← hI.out.2.1] at h1
        have h2 := congrArg List.length h1
        rw [List.length_append, List.length_take] at h2
        dsimp only at h2
        omega
      by_cases hlt : k < n
      · obtain ⟨b, o, rfl, hbB, hok, hrg0⟩ := HX.out.at_ hlt
        have hkl := Lib.hid (show k < rs.length by have := HN.out; omega)
        have hro : rtOk 2 add (nthR rs k) = true := List.all_eq_true.1 HK.out _ (nthR_mem hkl.out)
        have hpk : pfxOk (nthR rs k).f (nthR rs k).l (nthR rs k).a = true := by simp only [rtOk, Bool.and_eq_true] at hro; exact hro.1.2
        have hsr : szR add (nthR rs k) ≤ 21 := rtForm_len (add := add) hpk
        have hStp := Lib.hid (spAt_succ (most := most) (add := add) hkl.out)
        have hFs := Lib.hid (fun e => fits_step (most := most) (add := add) hkl.out hI.out.2.2.2 e)
        have hFn := Lib.hid (fun (e : ¬ (szR add (nthR rs k) : Int) ≤ most) => all_no (P := fitsR most add) hkl.out (by unfold fitsR; exact decide_eq_false e))
        have hFm := Lib.hid (fun W => rform_any add (nthR rs k) W hok hpk)
        generalize nthR rs k = r at *
        have hrl := hok.1.1
        have hOk := Lib.hid hok
        have hi19 := Lib.hid (rt_infol hrl)
        have hl19 := Lib.hid (show (rt r).toList.length = 1 * 19 by rw [Array.length_toList, rt_size hrl])
        have hrg := range_low hsw.low hbB hrg0
        have HG0 := Lib.hid hrg0
        have HSW0 := Lib.hid hsw
        have hbs := hsw.low.size
        clear hsw hok hro hpk hrg0
        go_wp2_with (refine wpList_load_mid rfl 31 _ rfl b (o + k * 19) rfl (rt r).toList (.struct (Try.prog.fieldsOf 31)) hrg rt_desc rfl hi19.out ?_)
        refine (hFm.out _).mono ?_
        rintro e w2 ⟨v2, rfl, hown2, hb3⟩
        obtain ⟨A2, c2, rfl⟩ := own_form hown2
        have hsw3 := HSW0.out.below hb3
        have hrg2 := range_low hsw3.low hbB HG0.out
        have eR : (rtForm add r).length = szR add r := rfl
        rw [eR]
        clear hb3 hrg hown2 eR
        by_cases hfit : (szR add r : Int) ≤ most
        · have hF2 := Lib.hid (hFs.out hfit)
          have g1 : ¬ (most < (szR add r : Int)) := by omega
          have k1 : IntKind.i64.wrap ((sz : Int) + (szR add r : Int)) = (sz : Int) + (szR add r : Int) := by rw [IntKind.wrap_i64]; omega
          by_cases hpush : most < (sz : Int) + szR add r
          · have hE := Lib.hid (show spAt most add rs (k + 1) = (d ++ [cur], [r]) by
              rw [hStp.out, ← hI.out.2.1]
              unfold spStep
              rw [if_pos (by rw [← hI.out.1]; exact hpush)])
            have hne : cur ≠ [] := by
              have h1 := hSO.out.push hfit (by rw [← hI.out.2.1, ← hI.out.1]; exact hpush)
              rw [← hI.out.2.1] at h1
              exact h1
            have hcp : (0 : Int) < (cur.length : Int) := by have := List.length_pos_iff.2 hne; omega
            have HSW := Lib.hid hsw3
            have hb4 := bl_alloc (bl_refl w2) (.cells #[.slice A1 cur.length c1] 22)
            have HL4 := Lib.hid (HSW.out.below hb4)
            have hs2 := HSW.out.low.size
            clear hsw3 hb4 hFs hFn hStp hne hrg2
            go_wp2_with (first | (refine wpList_load_mid rfl 31 _ rfl b (o + k * 19) rfl (rt r).toList (.struct (Try.prog.fieldsOf 31)) hrg6 rt_desc rfl hi19.out ?_) | (refine wpList_build_route rfl _ rfl r hrl (by simp only [List.map_toArray, List.map_cons, List.map_nil]; rfl) ?_) | (at_builtin; refine wpList_append_grow _ rfl _ _ rfl sl_lists w.heap.size _ ps.length (ps.map RPart.v) rfl HL4.out.lists (w2.heap.size + 1) (some ⟨w2.heap.size, 0, none⟩) 1 1 [.slice A1 cur.length c1] rfl rfl (Shows.of_owned (xs := [.slice A1 cur.length c1]) (Own.new w2 22 #[.slice A1 cur.length c1]) (Nat.lt_succ_self _)) (one_list _ _ _) (by unfold maxLen; omega) (by omega) (by simp; omega) ?_; intro v6 w6 hown6 hg6; have hsw6 := HL4.out.push hown6 hg6; obtain ⟨A6, c6, rfl⟩ := own_form hown6; have hsw7 := Lib.hid (hsw6.below (bl_alloc (bl_refl w6) (.cells (rt r) 31))); have o7 := Own.new w6 31 (rt r); have hrg6 := range_low hsw6.low hbB HG0.out; have hs6 := hsw6.low.size; clear hsw6 hown6 hg6) | (at_builtin; refine wpList_append_grow _ rfl _ _ rfl sl_routes w6.heap.size _ 0 [] rfl hsw7.out.2.2.1 (w6.heap.size + 1) (some ⟨w6.heap.size, 0, none⟩) 1 1 (rt r).toList rfl hl19.out (Shows.of_owned (xs := (rt r).toList) o7 (Nat.lt_succ_self _)) rt_one_mem (by unfold maxLen; omega) (by omega) (by simp) ?_; intro v8 w8 hown8 hg8))
            have hsw8 := hsw7.out.add hOk.out hown8 hg8
            go_roundw
            case rel => exact ⟨k + 1, ps ++ [⟨A1, cur.length, c1, cur⟩], _, szR add r, (d ++ [cur], [r]), by omega, by go_num, by simp, hsw8, Lib.hid ⟨by rw [← szL_one]; rfl, hE.out.symm, by rw [List.map_append, hI.out.2.2.1]; rfl, hF2.out⟩⟩
            case measure => simp [intOf]; omega
          · have hE := Lib.hid (show spAt most add rs (k + 1) = (d, cur ++ [r]) by
              rw [hStp.out, ← hI.out.2.1]
              unfold spStep
              rw [if_neg (by rw [← hI.out.1]; exact hpush)])
            have g2 : ¬ most < (sz : Int) + (szR add r : Int) := by omega
            have hsw4 := Lib.hid (hsw3.below (bl_alloc (bl_refl w2) (.cells (rt r) 31)))
            have o4 := Own.new w2 31 (rt r)
            have hs4 := hsw4.out.2.2.2.2.2.1
            have hw2 := hsw3.low.size
            clear hsw3 hpush hFs hFn hStp
            by_cases hc : (0 : Int) < (cur.length : Int)
            all_goals
              go_wp2_with (first | (refine wpList_load_mid rfl 31 _ rfl b (o + k * 19) rfl (rt r).toList (.struct (Try.prog.fieldsOf 31)) hrg2 rt_desc rfl hi19.out ?_) | (refine wpList_build_route rfl _ rfl r hrl (by simp only [List.map_toArray, List.map_cons, List.map_nil]; rfl) ?_) | (at_builtin; refine wpList_append_grow _ rfl _ _ rfl sl_routes Bc _ cur.length (flatR cur) rfl hsw4.out.2.2.1 (w2.heap.size + 1) (some ⟨w2.heap.size, 0, none⟩) 1 1 (rt r).toList rfl hl19.out (Shows.of_owned (xs := (rt r).toList) o4 (Nat.lt_succ_self _)) rt_one_mem (by unfold maxLen; omega) (by omega) hs4 ?_; intro v8 w8 hown8 hg8))
              have hsw8 := hsw4.out.add hOk.out hown8 hg8
              go_roundw
              case rel => exact ⟨k + 1, ps, Bc, sz + szR add r, (d, cur ++ [r]), by omega, by go_num, by congr 1, hsw8, Lib.hid ⟨by rw [szL_snoc, ← hI.out.1], hE.out.symm, hI.out.2.2.1, hF2.out⟩⟩
              case measure => simp [intOf]; omega
        · have hR := Lib.hid (show (rs.all (rtOk 2 add) && rs.all (fitsR most add)) = false by rw [HK.out, hFn.out (by omega)]; rfl)
          have g1 : most < (szR add r : Int) := by omega
          have hlow := hsw3.low
          clear hsw3 hfit hFs hFn hStp
          go_wp2
          go_ret2
          exact .inr ⟨hR.out, rfl, hlow⟩
      · obtain rfl : n = k := by omega
        have hnl := HN.out
        have hfa := Lib.hid (show rs.all (fitsR most add) = true by have := hI.out.2.2.2; rwa [List.take_of_length_le (by omega)] at this)
        have hEnd := Lib.hid (show (d, cur) = spAt most add rs rs.length by rw [← hnl]; exact hI.out.2.1)
        clear hnl hlt hkn
        by_cases hc : cur = []
        · subst hc
          have hR := Lib.hid (show ps.map RPart.xs = spEnd (spAt most add rs rs.length) by rw [hI.out.2.2.1, ← hEnd.out]; rfl)
          have hP := Lib.hid (And.intro hsw.parts.2.1 hsw.low)
          clear hsw
          go_wp2
          go_ret2
          exact .inl ⟨HK.out, hfa.out, A0, c0, ps, rfl, hP.out.1, hR.out, hP.out.2⟩
        · have hR := Lib.hid (show (ps ++ [(⟨A1, cur.length, c1, cur⟩ : RPart)]).map RPart.xs = spEnd (spAt most add rs rs.length) by
            rw [List.map_append, hI.out.2.2.1, ← hEnd.out]
            unfold spEnd
            rw [if_neg hc]
            rfl)
          have hpos : 0 < cur.length := List.length_pos_iff.2 hc
          have hb4 := bl_alloc (bl_refl wr) (.cells #[.slice A1 cur.length c1] 22)
          have HL4 := Lib.hid (hsw.below hb4)
          have hs2 := hsw.low.size
          clear hsw hb4 hc
          go_wp2_with (at_builtin; refine wpList_append_grow _ rfl _ _ rfl sl_lists w.heap.size _ ps.length (ps.map RPart.v) rfl HL4.out.lists (wr.heap.size + 1) (some ⟨wr.heap.size, 0, none⟩) 1 1 [.slice A1 cur.length c1] rfl rfl (Shows.of_owned (xs := [.slice A1 cur.length c1]) (Own.new wr 22 #[.slice A1 cur.length c1]) (Nat.lt_succ_self _)) (one_list _ _ _) (by unfold maxLen; omega) (by omega) (by simp; omega) ?_; intro v6 w6 hown6 hg6)
          have hsw6 := HL4.out.push hown6 hg6
          obtain ⟨A6, c6, rfl⟩ := own_form hown6
          have hP := hsw6.parts
          go_ret2
          exact .inl ⟨HK.out, hfa.out, A6, c6, ps ++ [⟨A1, cur.length, c1, cur⟩], by rw [List.length_append]; rfl, by rw [← hP.1]; exact hP.2.1, hR.out, hsw6.low⟩
end Go.Proofs.Ytgahjchngmojlaa

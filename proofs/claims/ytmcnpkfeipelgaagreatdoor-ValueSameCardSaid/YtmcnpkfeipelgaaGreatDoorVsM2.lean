/- XVsM2: XBstr, XSgR, XNr, XNs, XNo, XNd, XNe, XReq, XReqG, XRsg, XVsA, XVsB, XVcA, XVcB, XVcC, XVsE in one text -/
import Derived.Test.YtmcnpkfeipelgaaGreatDoorOwn
import Derived.Test.YtmcnpkfeipelgaaGreatDoorRows
import Derived.Laws.BytesArg
import Derived.Test.YtmcnpkfeipelgaaGreatDoorVsM1
import Derived.Great.BuildSlice
import Derived.Laws.StructEq
import Derived.Deep.MidRow
import Derived.Deep.RegionHeld3
import Derived.Deep.RegionWith
import Derived.WalkSpells
import Derived.StillTactics
import Derived.Deep.QuietTactic
import Derived.BigQuiet
import Derived.Maps.AppendAt
import Derived.Deep.DeepCutAuto
/- Bytes as a string -/
namespace Go.Proofs.YtmcnpkfeipelgaaGreatDoor
open Go.RowKit

set_option maxRecDepth 100000 in
theorem bytes_str {w : World} {B : Nat} {A : Option Addr} {n c : Nat} {xs : List Int} (hx : Bytes w B A n xs) : (convert 25 9 (.slice A n c)).run Tryz.prog w = Result.ok (.string (strOfNums xs)) w := by
  have hlen : xs.length = n := hx.1.symm
  rcases hx.2.2 with h0 | ⟨b, o, rfl, hb, hc⟩
  · obtain rfl : xs = [] := by simpa using h0
    cases A with
    | none => exact run_convert_bytes_nil w 25 5 Tryz.underlying25 Tryz.underlying5 n c 9 Tryz.underlying9
    | some a =>
      obtain ⟨b, o, s⟩ := a
      obtain rfl : n = 0 := by rw [hx.1]; rfl
      cases s with
      | none => exact run_convert_bytes_arg w 25 5 Tryz.underlying25 Tryz.underlying5 b o 0 c [] rfl (fun i hi => absurd hi (Nat.not_lt_zero i)) 9 Tryz.underlying9
      | some s =>
        rw [run_convert_bytes_string w _ _ 5 _ _ _ Tryz.underlying25 Tryz.underlying5 Tryz.underlying9, run_bytesToString w _ 0 c [] (by simpa using run_loadCells_list (P := Tryz.prog) w _ [] (fun j v hj => by simp at hj))]
        rfl
  · refine run_convert_bytes_arg w 25 5 Tryz.underlying25 Tryz.underlying5 b o n c xs hlen (fun i hi => ?_) 9 Tryz.underlying9
    have hi2 : i < xs.length := by omega
    exact hc i _ (by rw [List.getElem?_map, nth_some hi2]; rfl)
end Go.Proofs.YtmcnpkfeipelgaaGreatDoor

/- peerageref06.Same -/
namespace Go.Proofs.YtmcnpkfeipelgaaGreatDoor
open Go.RowKit

set_option maxRecDepth 100000 in
set_option maxHeartbeats 3200000 in
theorem rsameS_any (A A' : Option Addr) (n n' c c' : Nat) (ss ts : List Sg) (w : World) (B B' : Nat) (h : Segs w B A n ss) (h' : Segs w B' A' n' ts) (hm : n ≤ 1000) (hm' : n' ≤ 1000) (hs : ∀ s ∈ ss, s.n ≤ 1000) (hs' : ∀ s ∈ ts, s.n ≤ 1000) :
    Calls Tryz.prog 40 #[.slice A n c, .slice A' n' c'] w fun e w' => e = .returned (.bool (decide (ss.map sgK = ts.map sgK))) ∧ ∃ m, w.drewN m = w' := by
  have HV := Lib.hid h
  have HV' := Lib.hid h'
  have HN := Lib.hid h.1
  have HN' := Lib.hid h'.1
  have HS := Lib.hid hs
  have HS' := Lib.hid hs'
  clear h h' hs hs'
  by_cases hne : n = n'
  · subst hne
    go_enter Tryz.func40, Tryz.ntmps40
    go_wp2_with fail
    go_loopw [5] (fun i wr => ∃ (j m : Nat), j ≤ n ∧ i = .int .i64 j ∧ Hid ((ss.map sgK).take j = (ts.map sgK).take j) ∧ wr = w.drewN m) (fun i _ => n - (intOf i).toNat)
    case atStart => exact ⟨0, 0, Nat.zero_le _, rfl, Lib.hid rfl, rfl⟩
    case round =>
      obtain ⟨j, m, hj, rfl, HEQ, rfl⟩ := hrel
      by_cases hlt : j < n
      · obtain ⟨b, o, rfl, hbB, e0, e1⟩ := HV.out.at_ hlt
        obtain ⟨b', o', rfl, hbB', f0, f1⟩ := HV'.out.at_ hlt
        have hj1 := Lib.hid (show j < ss.length by rw [← HN.out]; exact hlt)
        have hj2 := Lib.hid (show j < ts.length by rw [← HN'.out]; exact hlt)
        have hSt := Lib.hid (sgtake_step hj1.out hj2.out HEQ.out)
        have hNe := Lib.hid (sgne hj1.out hj2.out)
        have hn1 := HS.out _ (sgth_mem hj1.out)
        have hn2 := HS'.out _ (sgth_mem hj2.out)
        have hU := segs_u32 HV.out hj1.out
        have hU' := segs_u32 HV'.out hj2.out
        generalize sgth ss j = s at *
        generalize sgth ts j = t at *
        obtain ⟨sk, sA, sn, sc, sx⟩ := s
        obtain ⟨tk, tA, tn, tc, tx⟩ := t
        dsimp only at *
        have HU := Lib.hid hU.1
        have HU' := Lib.hid hU'.1
        have hUx := Lib.hid hU
        have hUy := Lib.hid hU'
        clear hU hU'
        by_cases hk : sk = tk
        · subst hk
          by_cases hl : sn = tn
          · subst hl
            go_wp2
            go_quiet (fail)
            go_wp2
            go_loopw [6] (fun i wr => ∃ (q m2 : Nat), q ≤ sn ∧ i = .int .i64 q ∧ Hid (sx.take q = tx.take q) ∧ wr = w.drewN m2) (fun i _ => sn - (intOf i).toNat)
            case atStart => exact ⟨0, m + nq, Nat.zero_le _, rfl, Lib.hid rfl, by simp⟩
            case round =>
              obtain ⟨q, m2, hq, rfl, HQ, rfl⟩ := hrel
              by_cases hlq : q < sn
              · obtain ⟨b2, o2, rfl, _, hc2⟩ := hUx.out.at_ hlq
                obtain ⟨b3, o3, rfl, _, hc3⟩ := hUy.out.at_ hlq
                have hq1 := Lib.hid (show q < sx.length by rw [← HU.out]; exact hlq)
                have hq2 := Lib.hid (show q < tx.length by rw [← HU'.out]; exact hlq)
                by_cases he : nth sx q = nth tx q
                · have he1 : (nth sx q != nth tx q) = false := by simp [he]
                  have HE := Lib.hid he
                  clear he
                  go_wp2
                  go_quiet (fail)
                  go_wp2
                  go_roundw
                  case rel => exact ⟨q + 1, _, by omega, by go_num, Lib.hid (take_eq_succ hq1.out hq2.out HQ.out HE.out), rfl⟩
                  case measure => simp [intOf]; omega
                · have he1 : (nth sx q != nth tx q) = true := by simp [he]
                  have HE := Lib.hid (decide_eq_false (hNe.out (sgK_ne fun h => ne_of_nth he h.2)))
                  clear he
                  go_wp2
                  go_quiet (fail)
                  go_wp2
                  go_ret
                  exact ⟨ret_boolA HE.out.symm, m2 + nq, by simp⟩
              · have e : sx = tx := by
                  have h1 := HU.out
                  have h2 := HU'.out
                  have h3 := HQ.out
                  rw [List.take_of_length_le (by omega), List.take_of_length_le (by omega)] at h3
                  exact h3
                have hR := Lib.hid (hSt.out (sgK_eq ⟨rfl, e⟩))
                clear e
                go_wp2
                go_roundw
                case rel => exact ⟨j + 1, _, by omega, by go_num, hR, rfl⟩
                case measure => simp [intOf]; omega
          · have he1 : ((sn : Int) != (tn : Int)) = true := by rw [bne_iff_ne]; omega
            have HE := Lib.hid (decide_eq_false (hNe.out (sgK_ne fun h => hl (by rw [HU.out, HU'.out, h.2]))))
            clear hl
            go_wp2
            go_quiet (fail)
            go_wp2
            go_ret
            exact ⟨ret_boolA HE.out.symm, m + nq, by simp⟩
        · have he1 : (sk != tk) = true := by simp [hk]
          have HE := Lib.hid (decide_eq_false (hNe.out (sgK_ne fun h => hk h.1)))
          clear hk
          go_wp2
          go_quiet (fail)
          go_wp2
          go_ret
          exact ⟨ret_boolA HE.out.symm, m + nq, by simp⟩
      · have HE := Lib.hid (show decide (ss.map sgK = ts.map sgK) = true from decide_eq_true (by
          have h1 := HN.out
          have h2 := HN'.out
          have h3 := HEQ.out
          rw [List.take_of_length_le (by rw [List.length_map]; omega), List.take_of_length_le (by rw [List.length_map]; omega)] at h3
          exact h3))
        go_wp2
        go_ret
        exact ⟨ret_boolA HE.out.symm, _, rfl⟩
  · have he1 : ((n : Int) != (n' : Int)) = true := by rw [bne_iff_ne]; omega
    have HE := Lib.hid (show decide (ss.map sgK = ts.map sgK) = false from decide_eq_false (fun h => hne (by
      have := congrArg List.length h
      rw [List.length_map, List.length_map] at this
      exact HN.out.trans (this.trans HN'.out.symm))))
    clear hne
    go_enter Tryz.func40, Tryz.ntmps40
    go_wp2
    go_ret
    exact ⟨ret_boolA HE.out.symm, 0, rfl⟩
end Go.Proofs.YtmcnpkfeipelgaaGreatDoor

/- peerageref03.Valid, form, Bytes -/
namespace Go.Proofs.YtmcnpkfeipelgaaGreatDoor
open Go.RowKit

set_option maxHeartbeats 800000 in
set_option maxRecDepth 100000 in
theorem rright_any (f : Int) (add : Bool) (r : Rt) (w : World) (hok : r.Ok) :
    Calls Tryz.prog 156 #[.int .i64 f, .bool add, .agg (rt r)] w fun e w' => e = .returned (.bool (rtOk f add r)) ∧ Below w.heap.size w w' := by
  have hi18 := Lib.hid (pfx_infol (f := r.f) (l := r.l) hok.1.1)
  have ho := Own.new w 56 (rt r)
  have hb0 := bl_alloc (bl_refl w) (.cells (rt r) 56)
  have hpx := ho.pfxAt
  have HO := Lib.hid (show rtOk f add r = (pfxOk r.f r.l r.a && decide (r.f = f) && (add || decide (r.p = 0))) by unfold rtOk; rw [Bool.and_comm (decide _)])
  go_enter Tryz.func156, Tryz.ntmps156
  go_wp2_with (refine wpList_load_mid rfl 54 _ rfl w.heap.size 1 rfl (pfx r.f r.l r.a).toList (.struct (Tryz.prog.fieldsOf 54)) hpx pfx_desc rfl hi18.out ?_)
  refine (rpvalid_any _ _ _ _ hok.1).mono ?_
  rintro e w1 ⟨rfl, hb1⟩
  have ho1 := ho.step hb1
  have hc0 := ho1.cell (rt_0 _)
  have hc1 := ho1.cell (rt_1 _)
  have hb2 := bl_trans hb0 hb1
  clear ho hb0 hpx hb1
  go_wp2_with fail
  all_goals
    go_ret
    refine ⟨?_, hb2⟩
    rw [HO.out]
    first | (simp_all; done) | (simp_all; rfl)

set_option maxHeartbeats 800000 in
set_option maxRecDepth 100000 in
theorem rvalid_any (f : Int) (add : Bool) (A : Option Addr) (n c : Nat) (rs : List Rt) (w : World) (h : Routes w w.heap.size A n rs) (hn : n ≤ 1000000000) :
    Calls Tryz.prog 134 #[.int .i64 f, .bool add, .slice A n c] w fun e w' => e = .returned (.bool (rs.all (rtOk f add))) ∧ Below w.heap.size w w' := by
  have HN := Lib.hid h.1
  go_enter Tryz.func134, Tryz.ntmps134
  go_wp2_with fail
  go_loopw [7] (fun i wr => (∃ j : Nat, j ≤ n ∧ i = .int .i64 j ∧ (rs.take j).all (rtOk f add) = true) ∧ Below w.heap.size w wr) (fun i _ => n - (intOf i).toNat)
  case atStart => exact ⟨⟨0, Nat.zero_le _, rfl, by simp⟩, bl_refl w⟩
  case round =>
    obtain ⟨⟨j, hj, rfl, hall⟩, hbw⟩ := hrel
    by_cases hlt : j < n
    · obtain ⟨b, o, rfl, hbB, hok, hrg⟩ := (h.below hbw).at_ hlt
      have hi19 := Lib.hid (rt_infol hok.1.1)
      have hj' := Lib.hid (show j < rs.length by have := HN.out; omega)
      go_wp2_with (refine wpList_load_mid rfl 56 _ rfl b (o + j * 19) rfl (rt (nthR rs j)).toList (.struct (Tryz.prog.fieldsOf 56)) hrg rt_desc rfl hi19.out ?_)
      refine (rright_any f add (nthR rs j) _ hok).mono ?_
      by_cases hr : rtOk f add (nthR rs j) = true
      · rw [hr]
        rintro e w2 ⟨rfl, hb2⟩
        have hb3 := bl_trans hbw hb2
        go_wp2
        go_roundw
        case rel => exact ⟨⟨j + 1, by omega, by go_num, all_step hj'.out hall hr⟩, hb3⟩
        case measure => simp [intOf]; omega
      · have hr' : rtOk f add (nthR rs j) = false := by simpa using hr
        rw [hr']
        rintro e w2 ⟨rfl, hb2⟩
        have hb3 := bl_trans hbw hb2
        go_wp2
        go_ret
        exact ⟨by rw [all_no hj'.out hr']; rfl, hb3⟩
    · have hjn := Lib.hid (show j = rs.length by have := HN.out; omega)
      go_wp2
      go_ret
      refine ⟨?_, hbw⟩
      rw [hjn.out, List.take_length] at hall
      rw [hall]; rfl

theorem own_base_le {w : World} {base b : Nat} {e : TypeId} {size n : Nat} {v : Value} {xs : List Value} (h : w.ownsRow base e size v n xs) (hb : b ≤ base) : w.ownsRow b e size v n xs := by
  refine ⟨h.1, ?_⟩
  rcases h.2 with hn | ⟨g, cap, cur, hv, hbg, rest⟩
  · exact .inl hn
  · exact .inr ⟨g, cap, cur, hv, Nat.le_trans hb hbg, rest⟩

set_option maxHeartbeats 800000 in
set_option maxRecDepth 100000 in
theorem rform_false (r : Rt) (w : World) (hok : r.Ok) (hk : pfxOk r.f r.l r.a = true) :
    Calls Tryz.prog 155 #[.bool false, .agg (rt r)] w fun e w' => ∃ v, e = .returned v ∧ w'.ownsRow w.heap.size 5 1 v (rtForm false r).length ((rtForm false r).map (Value.int .u8)) ∧ Below w.heap.size w w' := by
  have hi18 := Lib.hid (pfx_infol (f := r.f) (l := r.l) hok.1.1)
  have ho := Own.new w 56 (rt r)
  have hb0 := bl_alloc (bl_refl w) (.cells (rt r) 56)
  have hpx := ho.pfxAt
  have hc0 := ho.cell (rt_0 _)
  have hp0 := hok.2.1
  have hp1 := hok.2.2
  have HK := Lib.hid hk
  have hpl : (pfxForm r.l r.a).length ≤ 17 := by
    have := pfxOk_range hk
    unfold pfxForm
    have h5 : (sizeOfBits r.l).toNat ≤ 16 := by unfold sizeOfBits; omega
    simp; omega
  clear hk
  go_enter Tryz.func155, Tryz.ntmps155
  have hown0 := World.ownsRow_nil (w.alloc (.cells (rt r) 56)) w.heap.size 5 1
  go_wp2_with (refine wpList_load_mid rfl 54 _ rfl w.heap.size 1 rfl (pfx r.f r.l r.a).toList (.struct (Tryz.prog.fieldsOf 54)) hpx pfx_desc rfl hi18.out ?_)
  refine (rpbytes_yes _ _ _ _ hok.1 HK.out).mono ?_
  rintro e w2 ⟨v2, rfl, hown2, hb2⟩
  have hb3 := bl_trans hb0 hb2
  have hown1 := own_below hown0 hb2
  obtain ⟨A2, c2, rfl, _, hs2⟩ := own_val hown2
  go_wp2_with (at_builtin; refine wpList_append_grow _ rfl _ _ rfl sl_bytes w.heap.size _ 0 [] rfl hown1 w2.heap.size A2 (pfxForm r.l r.a).length c2 ((pfxForm r.l r.a).map (Value.int .u8)) rfl (by simp) hs2 ints1 (by unfold maxLen; omega) (by omega) hb3.size ?_; intro v3 w3 hown3 hgrow3)
  have hb4 := hb3.grown hgrow3 hb3.size (own_base hown1)
  go_ret
  refine ⟨_, rfl, ?_, hb4⟩
  simpa [rtForm] using hown3

set_option maxHeartbeats 800000 in
set_option maxRecDepth 100000 in
theorem rform_true (r : Rt) (w : World) (hok : r.Ok) (hk : pfxOk r.f r.l r.a = true) :
    Calls Tryz.prog 155 #[.bool true, .agg (rt r)] w fun e w' => ∃ v, e = .returned v ∧ w'.ownsRow w.heap.size 5 1 v (rtForm true r).length ((rtForm true r).map (Value.int .u8)) ∧ Below w.heap.size w w' := by
  have hi18 := Lib.hid (pfx_infol (f := r.f) (l := r.l) hok.1.1)
  have ho := Own.new w 56 (rt r)
  have hb0 := bl_alloc (bl_refl w) (.cells (rt r) 56)
  have hpx := ho.pfxAt
  have hc0 := ho.cell (rt_0 _)
  have hp0 := hok.2.1
  have hp1 := hok.2.2
  have HK := Lib.hid hk
  have hpl : (pfxForm r.l r.a).length ≤ 17 := by
    have := pfxOk_range hk
    unfold pfxForm
    have h5 : (sizeOfBits r.l).toNat ≤ 16 := by unfold sizeOfBits; omega
    simp; omega
  clear hk
  go_enter Tryz.func155, Tryz.ntmps155
  go_wp2_with fail
  refine (of_any 4 r.p _ (by omega) (by omega) hp0 (by omega)).mono ?_
  rintro e w1 ⟨v1, rfl, hown0, hb1⟩
  have ho1 := ho.step hb1
  have hpx1 := ho1.pfxAt
  have hb5 := bl_trans hb0 hb1
  clear ho hpx hc0 hb0 hb1
  go_wp2_with (refine wpList_load_mid rfl 54 _ rfl w.heap.size 1 rfl (pfx r.f r.l r.a).toList (.struct (Tryz.prog.fieldsOf 54)) hpx1 pfx_desc rfl hi18.out ?_)
  refine (rpbytes_yes _ _ _ _ hok.1 HK.out).mono ?_
  rintro e w2 ⟨v2, rfl, hown2, hb2⟩
  have hb3 := bl_trans hb5 hb2
  have hown1 := own_base_le (own_below hown0 hb2) (b := w.heap.size) (by simp)
  obtain ⟨A2, c2, rfl, _, hs2⟩ := own_val hown2
  go_wp2_with (at_builtin; refine wpList_append_grow _ rfl _ _ rfl sl_bytes w.heap.size _ _ _ rfl hown1 w2.heap.size A2 (pfxForm r.l r.a).length c2 ((pfxForm r.l r.a).map (Value.int .u8)) rfl (by simp) hs2 ints1 (by unfold maxLen; omega) (by omega) hb3.size ?_; intro v3 w3 hown3 hgrow3)
  have hb4 := hb3.grown hgrow3 hb3.size (own_base hown1)
  go_ret
  refine ⟨_, rfl, ?_, hb4⟩
  have h4 := digitsOf_len 4 r.p
  have e1 : rtForm true r = digitsOf 4 r.p ++ pfxForm r.l r.a := rfl
  rw [e1, List.length_append, h4, List.map_append]
  exact hown3

set_option maxRecDepth 100000 in
theorem rform_any (add : Bool) (r : Rt) (w : World) (hok : r.Ok) (hk : pfxOk r.f r.l r.a = true) :
    Calls Tryz.prog 155 #[.bool add, .agg (rt r)] w fun e w' => ∃ v, e = .returned v ∧ w'.ownsRow w.heap.size 5 1 v (rtForm add r).length ((rtForm add r).map (Value.int .u8)) ∧ Below w.heap.size w w' := by
  cases add
  · exact rform_false r w hok hk
  · exact rform_true r w hok hk

set_option maxHeartbeats 800000 in
set_option maxRecDepth 100000 in
theorem rnbytes_no (f : Int) (add : Bool) (A : Option Addr) (n c : Nat) (rs : List Rt) (w : World) (h : Routes w w.heap.size A n rs) (hn : n ≤ 1000000000) (hk : rs.all (rtOk f add) = false) :
    Calls Tryz.prog 131 #[.int .i64 f, .bool add, .slice A n c] w fun e w' => e = .returned (.tuple #[.slice none 0 0, .bool false]) ∧ Below w.heap.size w w' := by
  go_enter Tryz.func131, Tryz.ntmps131
  go_wp2_with fail
  refine (rvalid_any f add _ _ _ rs _ h hn).mono ?_
  rw [hk]
  rintro e w1 ⟨rfl, hb⟩
  go_wp2
  go_ret2
  exact ⟨rfl, hb⟩
set_option maxHeartbeats 800000 in
set_option maxRecDepth 100000 in
theorem rnbytes_yes (f : Int) (add : Bool) (A : Option Addr) (n c : Nat) (rs : List Rt) (w : World) (h : Routes w w.heap.size A n rs) (hn : n ≤ 1000000) (hk : rs.all (rtOk f add) = true) :
    Calls Tryz.prog 131 #[.int .i64 f, .bool add, .slice A n c] w fun e w' => ∃ v, e = .returned (.tuple #[v, .bool true]) ∧ w'.ownsRow w.heap.size 5 1 v (formAll add rs).length ((formAll add rs).map (Value.int .u8)) ∧ Below w.heap.size w w' := by
  have HN := Lib.hid h.1
  have HF := Lib.hid (formAll_len hk)
  have HK := Lib.hid hk
  clear hk
  go_enter Tryz.func131, Tryz.ntmps131
  go_wp2_with fail
  refine (rvalid_any f add _ _ _ rs _ h (by omega)).mono ?_
  rw [HK.out]
  rintro e w1 ⟨rfl, hb0⟩
  go_wp2_with fail
  go_loopw [8, 9] (fun v i wr => ∃ (j : Nat), j ≤ n ∧ i = .int .i64 j ∧ wr.ownsRow w.heap.size 5 1 v (formAll add (rs.take j)).length ((formAll add (rs.take j)).map (Value.int .u8)) ∧ (formAll add (rs.take j)).length ≤ 21 * j ∧ Below w.heap.size w wr) (fun _ i _ => n - (intOf i).toNat)
  case atStart => exact ⟨0, Nat.zero_le _, rfl, World.ownsRow_nil _ _ _ _, Nat.zero_le _, hb0⟩
  case round =>
    obtain ⟨j, hj, rfl, hown, hfl, hbw⟩ := hrel
    by_cases hlt : j < n
    · obtain ⟨b, o, rfl, hbB, hok, hrg⟩ := (h.below hbw).at_ hlt
      have hjl := Lib.hid (show j < rs.length by have := HN.out; omega)
      have hro := Lib.hid (show rtOk f add (nthR rs j) = true from List.all_eq_true.1 HK.out _ (nthR_mem hjl.out))
      have hpk := Lib.hid (show pfxOk (nthR rs j).f (nthR rs j).l (nthR rs j).a = true by have := hro.out; simp only [rtOk, Bool.and_eq_true] at this; exact this.1.2)
      have hi19 := Lib.hid (rt_infol hok.1.1)
      have hl21 := rtForm_len (add := add) hpk.out
      go_wp2_with (refine wpList_load_mid rfl 56 _ rfl b (o + j * 19) rfl (rt (nthR rs j)).toList (.struct (Tryz.prog.fieldsOf 56)) hrg rt_desc rfl hi19.out ?_)
      refine (rform_any add _ _ hok hpk.out).mono ?_
      rintro e w2 ⟨v2, rfl, hown2, hb2⟩
      have hown1 := own_below hown hb2
      have hb3 := bl_trans hbw hb2
      clear hown hbw hb2
      obtain ⟨A2, c2, rfl, _, hs2⟩ := own_val hown2
      go_wp2_with (at_builtin; refine wpList_append_grow _ rfl _ _ rfl sl_bytes w.heap.size _ _ _ rfl hown1 w2.heap.size A2 (rtForm add (nthR rs j)).length c2 ((rtForm add (nthR rs j)).map (Value.int .u8)) rfl (by simp) hs2 ints1 (by unfold maxLen; omega) (by omega) hb3.size ?_; intro v3 w3 hown3 hgrow3)
      have hb4 := hb3.grown hgrow3 hb3.size (own_base hown1)
      go_roundw
      case rel =>
        refine ⟨j + 1, by omega, by go_num, ?_, ?_, hb4⟩
        · rw [formAll_take hjl.out, List.length_append, List.map_append]; exact hown3
        · rw [formAll_take hjl.out, List.length_append]; omega
      case measure => simp [intOf]; omega
    · have hjn := Lib.hid (show j = rs.length by have := HN.out; omega)
      go_wp2
      go_ret2
      rw [hjn.out, List.take_length] at hown
      exact ⟨_, rfl, hown, hbw⟩
end Go.Proofs.YtmcnpkfeipelgaaGreatDoor

/- nlri.Size -/
namespace Go.Proofs.YtmcnpkfeipelgaaGreatDoor
open Go.RowKit

theorem pfxForm_len {f l : Int} {a : List Int} (ha : IsAddr a) (h : pfxOk f l a = true) : ((pfxForm l a).length : Int) = 1 + (l + 7) / 8 := by
  have := pfxOk_range h
  have h5 : 0 ≤ sizeOfBits l ∧ sizeOfBits l ≤ 16 := by unfold sizeOfBits; omega
  have h6 := ha.1
  unfold pfxForm
  rw [List.length_cons, List.length_take, h6]
  unfold sizeOfBits at *
  omega

end Go.Proofs.YtmcnpkfeipelgaaGreatDoor

/- the closure of nlri.Read -/
namespace Go.Proofs.YtmcnpkfeipelgaaGreatDoor
open Go.RowKit

def pOk (f : Int) (xs : List Int) : Bool := match xs with
  | [] => false
  | x :: ys => lenOk f x && decide ((sizeOfBits x).toNat ≤ ys.length)
def pN (xs : List Int) : Nat := 1 + (sizeOfBits (xs.headD 0)).toNat
def pF (f : Int) (xs : List Int) : Int := if pOk f xs then f else 0
def pL (f : Int) (xs : List Int) : Int := if pOk f xs then xs.headD 0 else 0
def pA (f : Int) (xs : List Int) : List Int := if pOk f xs then maskL (xs.headD 0) (padTo ((xs.drop 1).take (sizeOfBits (xs.headD 0)).toNat)) else zero16
theorem pA_addr {f : Int} {xs : List Int} (h : ∀ x ∈ xs, 0 ≤ x ∧ x ≤ 255) : IsAddr (pA f xs) := by
  unfold pA
  by_cases hk : pOk f xs = true
  · rw [if_pos hk]
    match xs, hk, h with
    | x :: ys, hk, h =>
      simp only [pOk, Bool.and_eq_true, decide_eq_true_eq] at hk
      have hr := lenOk_range hk.1
      have h5 : sizeOfBits x ≤ 16 := by unfold sizeOfBits; omega
      exact maskL_addr x (padTo_addr (by simp only [List.drop_one, List.tail_cons, List.headD_cons, List.length_take]; omega) (fun y hy => h y (List.mem_cons_of_mem _ (List.mem_of_mem_take hy))))
  · rw [if_neg hk]; exact zero16_addr

set_option maxRecDepth 100000 in
theorem pread_any (B : Nat) (f : Int) (xs : List Int) (g p : Nat) (w : World) (h : RdrB B w g xs p) (hl : xs.length ≤ 1000000000) (hp : p ≤ 999999999) :
    Calls Tryz.prog 129 #[.int .i64 f, .pointer (some ⟨g, 0, none⟩)] w fun e w' => e = .returned (.tuple #[.agg (pfx (pF f xs) (pL f xs) (pA f xs)), .bool (pOk f xs)]) ∧ (pOk f xs = true → RdrB B w' g (xs.drop (pN xs)) (p + pN xs)) ∧ w.grownBy w' (some g) := by
  match xs, h, hl with
  | [], h, hl =>
    refine (pread_nil f g p w h.rdr).mono ?_
    rintro e w' ⟨rfl, hb⟩
    exact ⟨rfl, (by intro hh; simp [pOk] at hh), only_of_below hb _⟩
  | x :: ys, h, hl =>
    by_cases h1 : lenOk f x = true
    · by_cases h2 : (sizeOfBits x).toNat ≤ ys.length
      · have hk : pOk f (x :: ys) = true := by simp [pOk, h1, h2]
        refine (pread_yes B f x ys g p w h hl hp h1 h2).mono ?_
        rintro e w' ⟨rfl, hr, hg⟩
        refine ⟨by simp [pF, pL, pA, hk], fun _ => ?_, hg⟩
        have e1 : (x :: ys).drop (pN (x :: ys)) = ys.drop (sizeOfBits x).toNat := by unfold pN; rw [Nat.add_comm, List.headD_cons, List.drop_succ_cons]
        have e2 : p + pN (x :: ys) = p + 1 + (sizeOfBits x).toNat := by unfold pN; rw [List.headD_cons]; omega
        rw [e1, e2]; exact hr
      · have hk : pOk f (x :: ys) = false := by simp [pOk, h2]
        refine (pread_short B f x ys g p w h hl hp h1 (by omega)).mono ?_
        rintro e w' ⟨rfl, hr, hg⟩
        exact ⟨by simp [pF, pL, pA, hk], (by rw [hk]; intro hh; cases hh), hg⟩
    · have h1' : lenOk f x = false := by simpa using h1
      have hk : pOk f (x :: ys) = false := by simp [pOk, h1']
      refine (pread_bad B f x ys g p w h hl (by omega) h1').mono ?_
      rintro e w' ⟨rfl, hr, hg⟩
      exact ⟨by simp [pF, pL, pA, hk], (by rw [hk]; intro hh; cases hh), hg⟩

/-- One route before the bytes xs. -/
def oneOk (f : Int) (add : Bool) (xs : List Int) : Bool := if add then decide (4 ≤ xs.length) && pOk f (xs.drop 4) else pOk f xs
def oneN (add : Bool) (xs : List Int) : Nat := if add then 4 + pN (xs.drop 4) else pN xs
def oneR (f : Int) (add : Bool) (xs : List Int) : Rt := if add then (if 4 ≤ xs.length then ⟨big (xs.take 4), pF f (xs.drop 4), pL f (xs.drop 4), pA f (xs.drop 4)⟩ else rt0) else ⟨0, pF f xs, pL f xs, pA f xs⟩

set_option maxRecDepth 100000 in
theorem built_rt (p f l : Int) {m : List Int} (h : m.length = 16) : Tryz.prog.built 56 [(0, .int .u32 p), (1, .agg (pfx f l m))] = some (rt ⟨p, f, l, m⟩) := by
  obtain ⟨x0, x1, x2, x3, x4, x5, x6, x7, x8, x9, x10, x11, x12, x13, x14, x15, rfl⟩ := list16 h
  kernel_rfl

set_option maxHeartbeats 800000 in
set_option maxRecDepth 100000 in
theorem one_false (B : Nat) (f : Int) (xs : List Int) (g p ca cr cf : Nat) (w : World) (h : RdrB B w g xs p) (hl : xs.length ≤ 1000000000) (hp : p ≤ 999999999)
    (ha : Own w ca 4 #[.bool false]) (hr : Own w cr 43 #[.pointer (some ⟨g, 0, none⟩)]) (hf : Own w cf 3 #[.int .i64 f]) :
    Calls Tryz.prog 128 #[.pointer (some ⟨ca, 0, none⟩), .pointer (some ⟨cr, 0, none⟩), .pointer (some ⟨cf, 0, none⟩)] w fun e w' => e = .returned (.tuple #[.agg (rt (oneR f false xs)), .bool (oneOk f false xs)]) ∧ (oneOk f false xs = true → RdrB B w' g (xs.drop (oneN false xs)) (p + oneN false xs)) ∧ w.grownBy w' (some g) := by
  have hz19 : #[.int .u32 0, .int .i64 0, .int .i64 0, .int .u8 0, .int .u8 0, .int .u8 0, .int .u8 0, .int .u8 0, .int .u8 0, .int .u8 0, .int .u8 0, .int .u8 0, .int .u8 0, .int .u8 0, .int .u8 0, .int .u8 0, .int .u8 0, .int .u8 0, .int .u8 0] = rt rt0 := rt_zero.symm
  have hz18 : #[.int .i64 0, .int .i64 0, .int .u8 0, .int .u8 0, .int .u8 0, .int .u8 0, .int .u8 0, .int .u8 0, .int .u8 0, .int .u8 0, .int .u8 0, .int .u8 0, .int .u8 0, .int .u8 0, .int .u8 0, .int .u8 0, .int .u8 0, .int .u8 0] = pfx 0 0 zero16 := pfx_zero.symm
  have hgl := h.lt
  have hBs := h.size
  have hb0 := bl_alloc (bl_refl w) (.cells (rt rt0) 56)
  have ho := Own.new w 56 (rt rt0)
  have h1 := h.below hb0
  have ha1 := (ha.step hb0).cell (i := 0) rfl
  have hr1 := (hr.step hb0)
  have hf1 := (hf.step hb0)
  have hr2 := hr1.cell (i := 0) rfl
  have hf2 := hf1.cell (i := 0) rfl
  clear ha hr hf
  go_enter Tryz.func128, Tryz.ntmps128
  go_wp2_with fail
  refine (pread_any B f xs g p _ h1 hl hp).mono ?_
  rintro e w1 ⟨rfl, hrd, hg⟩
  have hpa := pA_addr (f := f) h.range
  have ho1 := ho.grown hg (fun e => by cases e; omega)
  have hg1 := only_trans (only_of_below hb0 (some g)) hg
  have hi18 := Lib.hid (pfx_info (f := pF f xs) (l := pL f xs) hpa.1)
  have hi19 := Lib.hid (rt_info (r := ⟨0, pF f xs, pL f xs, pA f xs⟩) hpa.1)
  have hs19 := Lib.hid (show (rt rt0).size = (rt ⟨0, pF f xs, pL f xs, pA f xs⟩).size by rw [rt_size (r := ⟨0, pF f xs, pL f xs, pA f xs⟩) hpa.1]; rfl)
  have hbn := Lib.hid (built_rt 0 (pF f xs) (pL f xs) hpa.1)
  have o1 := Own.new w1 54 (pfx 0 0 zero16)
  have o2 := o1.setRow (cs' := pfx (pF f xs) (pL f xs) (pA f xs))
  have o3 : Own ((w1.alloc (.cells (pfx 0 0 zero16) 54)).setRow w1.heap.size (pfx (pF f xs) (pL f xs) (pA f xs))) w.heap.size 56 (rt rt0) := by
    refine (ho1.alloc _).keep (setRow_other _ _ _ _ ?_)
    have := ho1.lt
    omega
  have hs1 := ho1.lt
  have hfin := o3.setRow (cs' := rt ⟨0, pF f xs, pL f xs, pA f xs⟩)
  go_wp2_with (first | (refine wpList_load_row rfl 54 _ rfl w1.heap.size rfl 54 (pfx (pF f xs) (pL f xs) (pA f xs)) (0, 0) (.struct (Tryz.prog.fieldsOf 54)) o2 pfx_desc rfl hi18.out ?_) | (refine wpList_build_to rfl 56 _ rfl (rt ⟨0, pF f xs, pL f xs, pA f xs⟩) (by simp only [List.map_toArray, List.map_cons, List.map_nil]; exact hbn.out) ?_) | (refine wpList_store_row rfl 54 _ _ rfl w1.heap.size (pfx (pF f xs) (pL f xs) (pA f xs)) rfl rfl 54 (pfx 0 0 zero16) o1 hi18.out (by rw [pfx_size hpa.1]; rfl) (pfx_one _ _ _) ?_) | (refine wpList_store_row rfl 56 _ _ rfl w.heap.size (rt ⟨0, pF f xs, pL f xs, pA f xs⟩) rfl rfl 56 (rt rt0) o3 hi19.out hs19.out (rt_one _) ?_))
  refine bodyPost_ret (v := .tuple #[.agg (rt ⟨0, pF f xs, pL f xs, pA f xs⟩), .bool (pOk f xs)]) (results_cell_tmp (p := 3) (t := 4) (fn := Tryz.f128) rfl _ _ w.heap.size 56 (rt ⟨0, pF f xs, pL f xs, pA f xs⟩) _ rfl hfin rt_desc rfl hi19.out) rfl ?_
  refine ⟨rfl, fun hk => ?_, ?_⟩
  · exact (((hrd hk).below (bl_alloc (bl_refl w1) _)).setRow (by have := hg1.size; omega) (by have := hg1.size; omega)).setRow hBs (by omega)
  · exact only_setRow (only_setRow (only_below hg1 (bl_alloc (bl_refl w1) _)) hg1.size) (Nat.le_refl _)

set_option maxHeartbeats 800000 in
set_option maxRecDepth 100000 in
theorem one_short (B : Nat) (f : Int) (xs : List Int) (g p ca cr cf : Nat) (w : World) (h : RdrB B w g xs p) (hl : xs.length ≤ 1000000000) (hlen : xs.length < 4)
    (ha : Own w ca 4 #[.bool true]) (hr : Own w cr 43 #[.pointer (some ⟨g, 0, none⟩)]) (hf : Own w cf 3 #[.int .i64 f]) :
    Calls Tryz.prog 128 #[.pointer (some ⟨ca, 0, none⟩), .pointer (some ⟨cr, 0, none⟩), .pointer (some ⟨cf, 0, none⟩)] w fun e w' => e = .returned (.tuple #[.agg (rt (oneR f true xs)), .bool (oneOk f true xs)]) ∧ (oneOk f true xs = true → RdrB B w' g (xs.drop (oneN true xs)) (p + oneN true xs)) ∧ w.grownBy w' (some g) := by
  have hz19 : #[.int .u32 0, .int .i64 0, .int .i64 0, .int .u8 0, .int .u8 0, .int .u8 0, .int .u8 0, .int .u8 0, .int .u8 0, .int .u8 0, .int .u8 0, .int .u8 0, .int .u8 0, .int .u8 0, .int .u8 0, .int .u8 0, .int .u8 0, .int .u8 0, .int .u8 0] = rt rt0 := rt_zero.symm
  have hz18 : #[.int .i64 0, .int .i64 0, .int .u8 0, .int .u8 0, .int .u8 0, .int .u8 0, .int .u8 0, .int .u8 0, .int .u8 0, .int .u8 0, .int .u8 0, .int .u8 0, .int .u8 0, .int .u8 0, .int .u8 0, .int .u8 0, .int .u8 0, .int .u8 0] = pfx 0 0 zero16 := pfx_zero.symm
  have hgl := h.lt
  have hBs := h.size
  have hb0 := bl_alloc (bl_refl w) (.cells (rt rt0) 56)
  have ho := Own.new w 56 (rt rt0)
  have h1 := h.below hb0
  have ha1 := (ha.step hb0).cell (i := 0) rfl
  have hr1 := (hr.step hb0)
  have hf1 := (hf.step hb0)
  have hr2 := hr1.cell (i := 0) rfl
  have hf2 := hf1.cell (i := 0) rfl
  clear ha hr hf
  have HO := Lib.hid (show oneOk f true xs = false ∧ oneR f true xs = rt0 by constructor <;> simp [oneOk, oneR] <;> omega)
  go_enter Tryz.func128, Tryz.ntmps128
  go_wp2_with fail
  refine (number_no g xs p 4 _ h1.rdr hl (by omega) (by omega) (by omega)).mono ?_
  rintro e w1 ⟨rfl, rfl⟩
  have hfin := ho.setRow (cs' := rt rt0)
  go_wp2_with (refine wpList_store_row rfl 56 _ _ rfl w.heap.size (rt rt0) rfl rfl 56 (rt rt0) ho (rt_info rfl) rfl (rt_one _) ?_)
  refine bodyPost_ret (v := .tuple #[.agg (rt rt0), .bool false]) (results_cell_tmp (p := 3) (t := 4) (fn := Tryz.f128) rfl _ _ w.heap.size 56 (rt rt0) _ rfl hfin rt_desc rfl (rt_info rfl)) rfl ?_
  rw [HO.out.1, HO.out.2]
  exact ⟨rfl, (by intro hh; cases hh), only_setRow (only_of_below hb0 _) (Nat.le_refl _)⟩

set_option maxHeartbeats 800000 in
set_option maxRecDepth 100000 in
theorem one_true (B : Nat) (f : Int) (xs : List Int) (g p ca cr cf : Nat) (w : World) (h : RdrB B w g xs p) (hl : xs.length ≤ 1000000000) (hp : p ≤ 999999990) (hlen : 4 ≤ xs.length)
    (ha : Own w ca 4 #[.bool true]) (hr : Own w cr 43 #[.pointer (some ⟨g, 0, none⟩)]) (hf : Own w cf 3 #[.int .i64 f]) (hr' : cr ≠ g) (hf' : cf ≠ g) :
    Calls Tryz.prog 128 #[.pointer (some ⟨ca, 0, none⟩), .pointer (some ⟨cr, 0, none⟩), .pointer (some ⟨cf, 0, none⟩)] w fun e w' => e = .returned (.tuple #[.agg (rt (oneR f true xs)), .bool (oneOk f true xs)]) ∧ (oneOk f true xs = true → RdrB B w' g (xs.drop (oneN true xs)) (p + oneN true xs)) ∧ w.grownBy w' (some g) := by
  have hz19 : #[.int .u32 0, .int .i64 0, .int .i64 0, .int .u8 0, .int .u8 0, .int .u8 0, .int .u8 0, .int .u8 0, .int .u8 0, .int .u8 0, .int .u8 0, .int .u8 0, .int .u8 0, .int .u8 0, .int .u8 0, .int .u8 0, .int .u8 0, .int .u8 0, .int .u8 0] = rt rt0 := rt_zero.symm
  have hz18 : #[.int .i64 0, .int .i64 0, .int .u8 0, .int .u8 0, .int .u8 0, .int .u8 0, .int .u8 0, .int .u8 0, .int .u8 0, .int .u8 0, .int .u8 0, .int .u8 0, .int .u8 0, .int .u8 0, .int .u8 0, .int .u8 0, .int .u8 0, .int .u8 0] = pfx 0 0 zero16 := pfx_zero.symm
  have hgl := h.lt
  have hBs := h.size
  have hb0 := bl_alloc (bl_refl w) (.cells (rt rt0) 56)
  have ho := Own.new w 56 (rt rt0)
  have h1 := h.below hb0
  have ha1 := (ha.step hb0).cell (i := 0) rfl
  have hr1 := (hr.step hb0)
  have hf1 := (hf.step hb0)
  have hr2 := hr1.cell (i := 0) rfl
  have hf2 := hf1.cell (i := 0) rfl
  clear ha hr hf
  have HO := Lib.hid (show oneOk f true xs = pOk f (xs.drop 4) ∧ oneR f true xs = ⟨big (xs.take 4), pF f (xs.drop 4), pL f (xs.drop 4), pA f (xs.drop 4)⟩ by constructor <;> simp [oneOk, oneR, hlen])
  have HE := Lib.hid (show oneN true xs = 4 + pN (xs.drop 4) from rfl)
  go_enter Tryz.func128, Tryz.ntmps128
  go_wp2_with fail
  refine (number_yesB B g xs p 4 _ h1 hl (by omega) (by omega) (by omega) (by omega)).mono ?_
  rintro e w0 ⟨rfl, hrd0, hg0⟩
  have hr3 := (hr1.grown hg0 (fun e => hr' (Option.some.inj e))).cell (i := 0) rfl
  have hf3 := (hf1.grown hg0 (fun e => hf' (Option.some.inj e))).cell (i := 0) rfl
  have ho0 := ho.grown hg0 (fun e => by cases e; omega)
  have hg00 := only_trans (only_of_below hb0 (some g)) hg0
  clear ha1 hr2 hf2 hr1 hf1 ho hb0
  go_wp2_with fail
  refine (pread_any B f (xs.drop 4) g (p + 4) _ hrd0 (by rw [List.length_drop]; omega) (by omega)).mono ?_
  rintro e w1 ⟨rfl, hrd, hg⟩
  have hpa : IsAddr (pA f (xs.drop 4)) := pA_addr (f := f) hrd0.range
  have ho1 := ho0.grown hg (fun e => by cases e; omega)
  have hg1 := only_trans hg00 hg
  have hi18 := Lib.hid (pfx_info (f := pF f (xs.drop 4)) (l := pL f (xs.drop 4)) hpa.1)
  have hi19 := Lib.hid (rt_info (r := ⟨(big (xs.take 4)), pF f (xs.drop 4), pL f (xs.drop 4), pA f (xs.drop 4)⟩) hpa.1)
  have hs19 := Lib.hid (show (rt rt0).size = (rt ⟨(big (xs.take 4)), pF f (xs.drop 4), pL f (xs.drop 4), pA f (xs.drop 4)⟩).size by rw [rt_size (r := ⟨(big (xs.take 4)), pF f (xs.drop 4), pL f (xs.drop 4), pA f (xs.drop 4)⟩) hpa.1]; rfl)
  have hbn := Lib.hid (built_rt (big (xs.take 4)) (pF f (xs.drop 4)) (pL f (xs.drop 4)) hpa.1)
  have o1 := Own.new w1 54 (pfx 0 0 zero16)
  have o2 := o1.setRow (cs' := pfx (pF f (xs.drop 4)) (pL f (xs.drop 4)) (pA f (xs.drop 4)))
  have o3 : Own ((w1.alloc (.cells (pfx 0 0 zero16) 54)).setRow w1.heap.size (pfx (pF f (xs.drop 4)) (pL f (xs.drop 4)) (pA f (xs.drop 4)))) w.heap.size 56 (rt rt0) := by
    refine (ho1.alloc _).keep (setRow_other _ _ _ _ ?_)
    have := ho1.lt
    omega
  have hs1 := ho1.lt
  have hfin := o3.setRow (cs' := rt ⟨(big (xs.take 4)), pF f (xs.drop 4), pL f (xs.drop 4), pA f (xs.drop 4)⟩)
  go_wp2_with (first | (refine wpList_load_row rfl 54 _ rfl w1.heap.size rfl 54 (pfx (pF f (xs.drop 4)) (pL f (xs.drop 4)) (pA f (xs.drop 4))) (0, 0) (.struct (Tryz.prog.fieldsOf 54)) o2 pfx_desc rfl hi18.out ?_) | (refine wpList_build_to rfl 56 _ rfl (rt ⟨(big (xs.take 4)), pF f (xs.drop 4), pL f (xs.drop 4), pA f (xs.drop 4)⟩) (by simp only [List.map_toArray, List.map_cons, List.map_nil]; exact hbn.out) ?_) | (refine wpList_store_row rfl 54 _ _ rfl w1.heap.size (pfx (pF f (xs.drop 4)) (pL f (xs.drop 4)) (pA f (xs.drop 4))) rfl rfl 54 (pfx 0 0 zero16) o1 hi18.out (by rw [pfx_size hpa.1]; rfl) (pfx_one _ _ _) ?_) | (refine wpList_store_row rfl 56 _ _ rfl w.heap.size (rt ⟨(big (xs.take 4)), pF f (xs.drop 4), pL f (xs.drop 4), pA f (xs.drop 4)⟩) rfl rfl 56 (rt rt0) o3 hi19.out hs19.out (rt_one _) ?_))
  refine bodyPost_ret (v := .tuple #[.agg (rt ⟨(big (xs.take 4)), pF f (xs.drop 4), pL f (xs.drop 4), pA f (xs.drop 4)⟩), .bool (pOk f (xs.drop 4))]) (results_cell_tmp (p := 3) (t := 4) (fn := Tryz.f128) rfl _ _ w.heap.size 56 (rt ⟨(big (xs.take 4)), pF f (xs.drop 4), pL f (xs.drop 4), pA f (xs.drop 4)⟩) _ rfl hfin rt_desc rfl hi19.out) rfl ?_
  rw [HO.out.1, HO.out.2]
  refine ⟨rfl, fun hk => ?_, ?_⟩
  · rw [HE.out, ← List.drop_drop, ← Nat.add_assoc]
    exact (((hrd hk).below (bl_alloc (bl_refl w1) _)).setRow (by have := hg1.size; omega) (by have := hg1.size; omega)).setRow hBs (by omega)
  · exact only_setRow (only_setRow (only_below hg1 (bl_alloc (bl_refl w1) _)) hg1.size) (Nat.le_refl _)

set_option maxRecDepth 100000 in
theorem one_any (B : Nat) (f : Int) (add : Bool) (xs : List Int) (g p ca cr cf : Nat) (w : World) (h : RdrB B w g xs p) (hl : xs.length ≤ 1000000000) (hp : p ≤ 999999990)
    (ha : Own w ca 4 #[.bool add]) (hr : Own w cr 43 #[.pointer (some ⟨g, 0, none⟩)]) (hf : Own w cf 3 #[.int .i64 f]) (hr' : cr ≠ g) (hf' : cf ≠ g) :
    Calls Tryz.prog 128 #[.pointer (some ⟨ca, 0, none⟩), .pointer (some ⟨cr, 0, none⟩), .pointer (some ⟨cf, 0, none⟩)] w fun e w' => e = .returned (.tuple #[.agg (rt (oneR f add xs)), .bool (oneOk f add xs)]) ∧ (oneOk f add xs = true → RdrB B w' g (xs.drop (oneN add xs)) (p + oneN add xs)) ∧ w.grownBy w' (some g) := by
  cases add
  · exact one_false B f xs g p ca cr cf w h hl (by omega) ha hr hf
  · by_cases hlen : 4 ≤ xs.length
    · exact one_true B f xs g p ca cr cf w h hl hp hlen ha hr hf hr' hf'
    · exact one_short B f xs g p ca cr cf w h hl (by omega) ha hr hf
end Go.Proofs.YtmcnpkfeipelgaaGreatDoor

/- nlri.Read -/
namespace Go.Proofs.YtmcnpkfeipelgaaGreatDoor
open Go.RowKit

/-- The first p of the bytes xs are the routes rs. -/
inductive Parsed (f : Int) (add : Bool) (xs : List Int) : Nat → List Rt → Prop where
  | nil : Parsed f add xs 0 []
  | cons {p : Nat} {rs : List Rt} : Parsed f add xs p rs → p < xs.length → oneOk f add (xs.drop p) = true → Parsed f add xs (p + oneN add (xs.drop p)) (rs ++ [oneR f add (xs.drop p)])
theorem pOk_len {f : Int} {xs : List Int} (h : pOk f xs = true) : pN xs ≤ xs.length := by
  match xs, h with
  | x :: ys, h =>
    simp only [pOk, Bool.and_eq_true, decide_eq_true_eq] at h
    unfold pN
    rw [List.headD_cons, List.length_cons]
    omega
theorem oneOk_len {f : Int} {add : Bool} {xs : List Int} (h : oneOk f add xs = true) : oneN add xs ≤ xs.length := by
  cases add
  · exact pOk_len h
  · simp only [oneOk, if_true, Bool.and_eq_true, decide_eq_true_eq] at h
    have := pOk_len h.2
    rw [List.length_drop] at this
    show 4 + pN (xs.drop 4) ≤ _
    omega
theorem oneN_pos (add : Bool) (xs : List Int) : 1 ≤ oneN add xs := by
  cases add
  · show 1 ≤ 1 + _; omega
  · show 1 ≤ 4 + _; omega
theorem Parsed.le {f : Int} {add : Bool} {xs : List Int} {p : Nat} {rs : List Rt} (h : Parsed f add xs p rs) : p ≤ xs.length ∧ rs.length ≤ p := by
  induction h with
  | nil => exact ⟨Nat.zero_le _, Nat.le_refl _⟩
  | @cons p rs h hp hk ih =>
    have h1 := oneOk_len hk
    have h2 := oneN_pos add (xs.drop p)
    rw [List.length_drop] at h1
    rw [List.length_append, List.length_singleton]
    omega
theorem oneR_ok {f : Int} {add : Bool} {xs : List Int} (h : ∀ x ∈ xs, 0 ≤ x ∧ x ≤ 255) : (oneR f add xs).Ok := by
  cases add
  · exact ⟨pA_addr h, by show (0 : Int) ≤ 0; omega, by show (0 : Int) ≤ _; omega⟩
  · by_cases h4 : 4 ≤ xs.length
    · have e : oneR f true xs = ⟨big (xs.take 4), pF f (xs.drop 4), pL f (xs.drop 4), pA f (xs.drop 4)⟩ := by simp [oneR, h4]
      rw [e]
      have hb := big_range 4 (xs.take 4) (by rw [List.length_take]; omega) (fun x hx => h x (List.mem_of_mem_take hx))
      exact ⟨pA_addr (fun x hx => h x (List.mem_of_mem_drop hx)), hb.1, by have := hb.2; show big _ ≤ _; omega⟩
    · have e : oneR f true xs = rt0 := by simp [oneR, h4]
      rw [e]
      exact ⟨zero16_addr, by show (0 : Int) ≤ 0; omega, by show (0 : Int) ≤ _; omega⟩
theorem Parsed.ok {f : Int} {add : Bool} {xs : List Int} {p : Nat} {rs : List Rt} (h : Parsed f add xs p rs) (hr : ∀ x ∈ xs, 0 ≤ x ∧ x ≤ 255) : ∀ r ∈ rs, r.Ok := by
  induction h with
  | nil => intro r h; cases h
  | cons h hp hk ih =>
    intro r hm
    rcases List.mem_append.1 hm with hm | hm
    · exact ih r hm
    · rw [List.mem_singleton] at hm; subst hm
      exact oneR_ok (fun x hx => hr x (List.mem_of_mem_drop hx))

def flatR (rs : List Rt) : List Value := rs.flatMap fun r => (rt r).toList
theorem flatR_get : ∀ {rs : List Rt}, (∀ r ∈ rs, r.Ok) → ∀ (i : Nat) (r : Rt), rs[i]? = some r → ∀ (j : Nat) (v : Value), (rt r).toList[j]? = some v → (flatR rs)[i * 19 + j]? = some v
  | [], _, i, r, hi, _, _, _ => by simp at hi
  | q :: rs, h, i, r, hi, j, v, hj => by
    have hq : (rt q).toList.length = 19 := by rw [Array.length_toList, rt_size (h q (List.mem_cons_self ..)).1.1]
    show ((rt q).toList ++ flatR rs)[_]? = _
    match i, hi with
    | 0, hi =>
      have e : q = r := by simpa using hi
      subst e
      rw [List.getElem?_append_left (by rw [Nat.zero_mul, Nat.zero_add]; exact (List.getElem?_eq_some_iff.1 hj).1), Nat.zero_mul, Nat.zero_add]
      exact hj
    | i + 1, hi =>
      rw [List.getElem?_append_right (by omega), hq, show (i + 1) * 19 + j - 19 = i * 19 + j by omega]
      exact flatR_get (fun r hr => h r (List.mem_cons_of_mem _ hr)) i r (by simpa using hi) j v hj
theorem own_routes {w : World} {base n : Nat} {v : Value} {rs : List Rt} (h : w.ownsRow base 56 19 v n (flatR rs)) (hr : ∀ r ∈ rs, r.Ok) (hn : n = rs.length) : ∃ A c, v = .slice A n c ∧ n ≤ c ∧ Routes w w.heap.size A n rs := by
  obtain ⟨A, c, rfl, hc, hs⟩ := own_val h
  refine ⟨A, c, rfl, hc, hn, hr, ?_⟩
  match rs, hr, hs with
  | [], _, _ => exact .inl rfl
  | q :: rs, hr, hs =>
    right
    have hq : (rt q).toList.length = 19 := by rw [Array.length_toList, rt_size (hr q (List.mem_cons_self ..)).1.1]
    rcases hs with h0 | ⟨b, o, hA, hb, hcc⟩
    · have : (flatR (q :: rs)).length = 0 := by rw [h0]; rfl
      have e : flatR (q :: rs) = (rt q).toList ++ flatR rs := rfl
      rw [e, List.length_append] at this
      omega
    · refine ⟨b, o, hA, hb, fun i r hi j u hu => ?_⟩
      have := hcc _ _ (flatR_get hr i r hi j u hu)
      rw [← Nat.add_assoc] at this
      exact this

def lit19 : Array Value := #[.int .u32 0, .int .i64 0, .int .i64 0, .int .u8 0, .int .u8 0, .int .u8 0, .int .u8 0, .int .u8 0, .int .u8 0, .int .u8 0, .int .u8 0, .int .u8 0, .int .u8 0, .int .u8 0, .int .u8 0, .int .u8 0, .int .u8 0, .int .u8 0, .int .u8 0]
set_option maxRecDepth 100000 in
theorem sl_routes : SliceOf Tryz.prog 35 56 19 40 := SliceOf.mk Tryz.underlying35 (z := .agg lit19) (by kernel_rfl) rfl (by decide)
theorem fill_route {r : Rt} (h : r.a.length = 16) : Instr.fill (fun i => some (i * 19, 19)) ((Array.range (1 * 19)).map ((Value.agg lit19).cells[· % (Value.agg lit19).cells.size]!)) [(0, .agg (rt r))] = some (rt r) := by
  obtain ⟨p, f, l, a⟩ := r
  obtain ⟨x0, x1, x2, x3, x4, x5, x6, x7, x8, x9, x10, x11, x12, x13, x14, x15, rfl⟩ := list16 h
  kernel_rfl
set_option maxRecDepth 100000 in
theorem wpList_build_route {ops : Array Oper} {rest : List Oper} {o : Oper} {a : Act} {w : World} {Q : Exit → Act → World → Prop} (hg : o.guard = none) (parts : Array (Nat × Operand)) (ho : o.op = .buildSlice 35 1 parts)
    (r : Rt) (hr : r.a.length = 16) (hp : (parts.map fun (i, x) => (i, a.eval x)).toList = [(0, .agg (rt r))])
    (h : wpList Tryz.prog ops Q rest (a.put o.dst (.slice (some ⟨w.heap.size, 0, none⟩) 1 1)) (w.alloc (.cells (rt r) 56))) : wpList Tryz.prog ops Q (o :: rest) a w := by
  have h1 : (Tryz.prog.info? 56).map (·.size) = some 19 := by kernel_rfl
  have h2 : (Tryz.prog.info? 56).bind (·.zero) = some (.agg lit19) := by kernel_rfl
  cases hie : Tryz.prog.info? 56 with
  | none => rw [hie] at h1; cases h1
  | some ie =>
    rw [hie] at h1 h2
    simp only [Option.map_some, Option.some.injEq, Option.bind_some] at h1 h2
    refine wpList_buildSlice hg 35 56 1 parts ho (rt r) ie (.agg lit19) Tryz.underlying35 hie h2 (by rw [h1]; decide) (by rw [h1]; decide) ?_ h
    rw [hp, h1]
    exact fill_route hr
theorem rt_one_mem {r : Rt} : ∀ u ∈ (rt r).toList, u.oneCell' = true := fun u hu => Array.all_eq_true_iff_forall_mem.1 (rt_one r) u (by simpa using hu)
def lenOf : Value → Nat
  | .slice _ n _ => n
  | _ => 0
end Go.Proofs.YtmcnpkfeipelgaaGreatDoor

/- nlri.Read: the walk -/
namespace Go.Proofs.YtmcnpkfeipelgaaGreatDoor
open Go.RowKit

theorem gr_row {a b c : World} {g : Nat} {row : Option Nat} (h : a.grownBy b (some g)) (k : b.grownBy c row) (hr : ∀ j, row = some j → a.heap.size ≤ j) : a.grownBy c (some g) :=
  ⟨k.os.trans h.os, k.tape.trans h.tape, k.output.trans h.output, Nat.le_trans h.size k.size, fun i hi hne => (k.block i (Nat.lt_of_lt_of_le hi h.size) (fun e => by have := hr i e.symm; omega)).trans (h.block i hi hne)⟩
theorem RdrB.row {B : Nat} {w w' : World} {g : Nat} {xs : List Int} {p : Nat} {row : Option Nat} (h : RdrB B w g xs p) (k : w.grownBy w' row) (hr : ∀ j, row = some j → B ≤ j ∧ g < j) : RdrB B w' g xs p :=
  h.keep k.size (fun b hb => k.block b (by have := h.size; have := h.lt; omega) (fun e => by have := hr b e.symm; omega))

/-- What nlri.Read returns. -/
def ReadsTo (f : Int) (add : Bool) (xs : List Int) (w : World) (v : Value) (at_ : Int) : Prop :=
  (∃ rs A c, at_ = -1 ∧ Parsed f add xs xs.length rs ∧ v = .slice A rs.length c ∧ rs.length ≤ c ∧ Routes w w.heap.size A rs.length rs) ∨
  (∃ p rs, at_ = ((p : Nat) : Int) ∧ p < xs.length ∧ Parsed f add xs p rs ∧ oneOk f add (xs.drop p) = false ∧ v = .slice none 0 0)

set_option maxHeartbeats 1600000 in
set_option maxRecDepth 100000 in
theorem nread_any (f : Int) (add : Bool) (A : Option Addr) (n c : Nat) (xs : List Int) (w : World) (hx : Bytes w w.heap.size A n xs) (hn : n ≤ 100000000) :
    Calls Tryz.prog 94 #[.int .i64 f, .bool add, .slice A n c] w fun e w' => ∃ v at_, e = .returned (.tuple #[v, .int .i64 at_]) ∧ ReadsTo f add xs w' v at_ ∧ Below w.heap.size w w' := by
  have hz19 : #[.int .u32 0, .int .i64 0, .int .i64 0, .int .u8 0, .int .u8 0, .int .u8 0, .int .u8 0, .int .u8 0, .int .u8 0, .int .u8 0, .int .u8 0, .int .u8 0, .int .u8 0, .int .u8 0, .int .u8 0, .int .u8 0, .int .u8 0, .int .u8 0, .int .u8 0] = rt rt0 := rt_zero.symm
  have HN := Lib.hid hx.1
  have HR := Lib.hid hx.2.1
  have hb0 := bl_alloc (bl_alloc (bl_refl w) (.cells #[.int .i64 f] 3)) (.cells #[.bool add] 4)
  have of := (Own.new w 3 #[.int .i64 f]).alloc (.cells #[.bool add] 4)
  have oa := Own.new (w.alloc (.cells #[.int .i64 f] 3)) 4 #[.bool add]
  have hsz : (w.alloc (.cells #[.int .i64 f] 3)).heap.size = w.heap.size + 1 := by simp
  rw [hsz] at oa
  have hx1 := (hx.below hb0).more hb0.size
  clear hsz
  go_enter Tryz.func94, Tryz.ntmps94
  go_wp2_with fail
  refine (new_any _ _ _ xs _ hx1 (by omega)).mono ?_
  rintro e w1 ⟨g, rfl, hg, hrd, hb1⟩
  have of1 := of.step hb1
  have oa1 := oa.step hb1
  have hb2 := bl_trans hb0 hb1
  clear of oa hb0 hb1 hx1
  go_wp2_with fail
  have HW : ∃ wS : World, wS = w1.alloc (.cells #[.pointer (some ⟨g, 0, none⟩)] 43) := ⟨_, rfl⟩
  obtain ⟨wS, hwS⟩ := HW
  have hb3 := bl_alloc (bl_refl w1) (.cells #[.pointer (some ⟨g, 0, none⟩)] 43)
  have or1 := Own.new w1 43 #[.pointer (some ⟨g, 0, none⟩)]
  have of2 := of1.step hb3
  have oa2 := oa1.step hb3
  have hrB := hrd.toB.below hb3
  have hbS := bl_trans hb2 hb3
  rw [← hwS] at or1 of2 oa2 hrB hbS ⊢
  have hgl := hrd.lt
  have hgw : w.heap.size + 1 < g := by simp at hg; omega
  have hlS : w1.heap.size + 1 = wS.heap.size := by rw [hwS]; simp
  clear hb3 of1 oa1 hrd hb2 hwS hg hx
  go_loopw [10] (fun v wr => ∃ (p : Nat) (rs : List Rt), Parsed f add xs p rs ∧ wr.ownsRow wS.heap.size 56 19 v rs.length (flatR rs) ∧ RdrB w1.heap.size wr g (xs.drop p) p ∧ wS.grownBy wr (some g)) (fun v _ => xs.length - lenOf v)
  case atStart => exact ⟨0, [], .nil, World.ownsRow_nil _ _ _ _, hrB, World.grownBy.refl _ _⟩
  case round =>
    obtain ⟨p, rs, hps, hown, hrd, hgr⟩ := hrel
    have hple := hps.le
    have hp0 := hple.1
    have hrl := hple.2
    have hcr := (or1.grown hgr (fun e => by cases e; omega))
    have hcf := (of2.grown hgr (fun e => by cases e; omega))
    have hca := (oa2.grown hgr (fun e => by cases e; omega))
    have hcr0 := hcr.cell (i := 0) rfl
    have HL := Lib.hid (show (xs.drop p).length = xs.length - p by rw [List.length_drop])
    have HV := own_val hown
    obtain ⟨A1, c1, rfl, hc1, _⟩ := HV
    clear hple
    by_cases hlt : p < xs.length
    · have HLT := Lib.hid hlt
      have h0 : (0 : Int) < ((xs.drop p).length : Int) := by rw [HL.out]; omega
      have HOK := Lib.hid (oneR_ok (f := f) (add := add) hrd.range)
      go_wp2_with fail
      refine (left_any g _ p _ hrd.rdr).mono ?_
      rintro e w' ⟨rfl, rfl⟩
      go_wp2_with fail
      refine (at_any g _ p _ hrd.rdr).mono ?_
      rintro e w' ⟨rfl, rfl⟩
      go_wp2_with fail
      refine (one_any w1.heap.size f add (xs.drop p) g p (w.heap.size + 1) w1.heap.size w.heap.size _ hrd (by rw [HL.out]; have := HN.out; omega) (by have := HN.out; omega) hca hcr hcf (by omega) (by omega)).mono ?_
      have hi19 := Lib.hid (rt_info HOK.out.1.1)
      have hs19 := Lib.hid (show (rt rt0).size = (rt (oneR f add (xs.drop p))).size by rw [rt_size HOK.out.1.1]; rfl)
      by_cases hk : oneOk f add (xs.drop p) = true
      · rw [hk]
        rintro e w2 ⟨rfl, hrd2, hg2⟩
        have hrd3 := hrd2 rfl
        rw [List.drop_drop] at hrd3
        have hps2 := Lib.hid (Parsed.cons hps hlt hk)
        have hgr2 := only_trans hgr hg2
        have hwr := hgr.size
        have hbase := own_base hown
        have hown2 := hown.kept hg2 (.inr (fun e => by have := hbase g e; omega))
        have o1 := Own.new w2 56 (rt rt0)
        have o2 := o1.setRow (cs' := rt (oneR f add (xs.drop p)))
        have hb3 : Below w2.heap.size w2 _ := bl_setRow (cs := rt (oneR f add (xs.drop p))) (bl_alloc (bl_refl w2) (.cells (rt rt0) 56)) (Nat.le_refl _)
        have hb4 := bl_alloc hb3 (.cells (rt (oneR f add (xs.drop p))) 56)
        have hown3 := own_below hown2 hb4
        have hrd4 := hrd3.below hb4
        have hgr4 := only_below hgr2 hb4
        have hs2 := hgr2.size
        have o4 := Own.new ((w2.alloc (.cells (rt rt0) 56)).setRow w2.heap.size (rt (oneR f add (xs.drop p)))) 56 (rt (oneR f add (xs.drop p)))
        have hsh := Shows.of_owned (xs := (rt (oneR f add (xs.drop p))).toList) o4 (Nat.lt_succ_self _)
        have hl19 := Lib.hid (show (rt (oneR f add (xs.drop p))).toList.length = 1 * 19 by rw [Array.length_toList, rt_size HOK.out.1.1])
        have HP := Lib.hid (Parsed.le hps2.out)
        clear hrd2 hk hown hg2 hrd3 hown2 hgr2 hb4
        go_wp2_with (first | (refine wpList_load_row rfl 56 _ rfl w2.heap.size rfl 56 (rt (oneR f add (xs.drop p))) (0, 0) (.struct (Tryz.prog.fieldsOf 56)) o2 rt_desc rfl hi19.out ?_) | (refine wpList_store_row rfl 56 _ _ rfl w2.heap.size (rt (oneR f add (xs.drop p))) rfl rfl 56 (rt rt0) o1 hi19.out hs19.out (rt_one _) ?_) | (refine wpList_build_route rfl _ rfl (oneR f add (xs.drop p)) HOK.out.1.1 (by simp only [List.map_toArray, List.map_cons, List.map_nil]; rfl) ?_) | (at_builtin; refine wpList_append_grow _ rfl _ _ rfl sl_routes wS.heap.size _ _ _ rfl hown3 _ _ 1 1 (rt (oneR f add (xs.drop p))).toList rfl hl19.out hsh rt_one_mem (by unfold maxLen; have := HN.out; omega) (by have := HN.out; omega) (by simp; omega) ?_; intro v5 w5 hown5 hgrow5))
        have hfr : flatR rs ++ (rt (oneR f add (xs.drop p))).toList = flatR (rs ++ [oneR f add (xs.drop p)]) := by simp [flatR]
        have hlr : rs.length + 1 = (rs ++ [oneR f add (xs.drop p)]).length := by simp
        rw [hfr, hlr] at hown5
        refine ⟨⟨_, _, hps2.out, hown5, hrd4.row hgrow5 (fun j hj => by have := hbase j hj; omega), gr_row hgr4 hgrow5 hbase⟩, ?_⟩
        obtain ⟨A5, c5, rfl, _⟩ := own_val hown5
        show xs.length - (rs ++ [oneR f add (xs.drop p)]).length < xs.length - rs.length
        rw [← hlr]
        omega
      · have hk' : oneOk f add (xs.drop p) = false := by simpa using hk
        rw [hk']
        rintro e w2 ⟨rfl, _, hg2⟩
        have hgr2 := only_trans hgr hg2
        have o1 := Own.new w2 56 (rt rt0)
        go_wp2_with (refine wpList_store_row rfl 56 _ _ rfl w2.heap.size (rt (oneR f add (xs.drop p))) rfl rfl 56 (rt rt0) o1 hi19.out hs19.out (rt_one _) ?_)
        go_ret2
        have hgr3 := only_setRow (k := w2.heap.size) (cs := rt (oneR f add (xs.drop p))) (only_below hgr2 (bl_alloc (bl_refl w2) (.cells (rt rt0) 56))) hgr2.size
        have hbw := hbS.trans (below_of_only (Below.refl _ _) hgr3 hbS.size (by omega))
        exact ⟨_, _, rfl, .inr ⟨p, rs, rfl, HLT.out, hps, hk', rfl⟩, hbw⟩
    · have hpe := Lib.hid (show p = xs.length by omega)
      have h0 : ¬ (0 : Int) < ((xs.drop p).length : Int) := by rw [HL.out]; omega
      go_wp2_with fail
      refine (left_any g _ p _ hrd.rdr).mono ?_
      rintro e w' ⟨rfl, rfl⟩
      go_wp2_with fail
      go_ret2
      rw [hpe.out] at hps
      have hbw : Below w.heap.size w wr := hbS.trans (below_of_only (Below.refl _ _) hgr hbS.size (by omega))
      obtain ⟨A2, c2, hv, hc2, hro⟩ := own_routes hown (hps.ok HR.out) rfl
      exact ⟨_, _, rfl, .inl ⟨rs, A2, c2, rfl, hps, hv, hc2, hro⟩, hbw⟩
end Go.Proofs.YtmcnpkfeipelgaaGreatDoor

/- routes that are equal: '!=' says no -/
namespace Go.Proofs.YtmcnpkfeipelgaaGreatDoor
open Go.RowKit
open Go.RowKit Extern.Stop

set_option maxRecDepth 100000 in
theorem part_pfx {r : Rt} (h : r.a.length = 16) (W : World) : (Go.part 54 (rt r) 1).run Tryz.prog W = Result.ok (.agg (pfx r.f r.l r.a)) W := by
  obtain ⟨p, f, l, a⟩ := r
  obtain ⟨x0, x1, x2, x3, x4, x5, x6, x7, x8, x9, x10, x11, x12, x13, x14, x15, rfl⟩ := list16 h
  kernel_rfl
set_option maxRecDepth 100000 in
theorem part_path {r : Rt} (h : r.a.length = 16) (W : World) : (Go.part 32 (rt r) 0).run Tryz.prog W = Result.ok (.int .u32 r.p) W := by
  obtain ⟨p, f, l, a⟩ := r
  obtain ⟨x0, x1, x2, x3, x4, x5, x6, x7, x8, x9, x10, x11, x12, x13, x14, x15, rfl⟩ := list16 h
  kernel_rfl
set_option maxRecDepth 100000 in
theorem part_fam {f l : Int} {a : List Int} (h : a.length = 16) (W : World) : (Go.part 3 (pfx f l a) 0).run Tryz.prog W = Result.ok (.int .i64 f) W := by
  obtain ⟨x0, x1, x2, x3, x4, x5, x6, x7, x8, x9, x10, x11, x12, x13, x14, x15, rfl⟩ := list16 h
  kernel_rfl
set_option maxRecDepth 100000 in
theorem part_len {f l : Int} {a : List Int} (h : a.length = 16) (W : World) : (Go.part 3 (pfx f l a) 1).run Tryz.prog W = Result.ok (.int .i64 l) W := by
  obtain ⟨x0, x1, x2, x3, x4, x5, x6, x7, x8, x9, x10, x11, x12, x13, x14, x15, rfl⟩ := list16 h
  kernel_rfl
set_option maxRecDepth 100000 in
theorem part_addr {f l : Int} {a : List Int} (h : a.length = 16) (W : World) : (Go.part 52 (pfx f l a) 2).run Tryz.prog W = Result.ok (.agg (arr a)) W := by
  obtain ⟨x0, x1, x2, x3, x4, x5, x6, x7, x8, x9, x10, x11, x12, x13, x14, x15, rfl⟩ := list16 h
  kernel_rfl
set_option maxRecDepth 100000 in
theorem eqIn_arr (d : Nat) {a : List Int} (ha : IsAddr a) (W : World) : (Op.equalIn (d + 2) 52 (.agg (arr a)) (.agg (arr a))).run Tryz.prog W = Result.ok true W := by
  obtain ⟨us, rfl⟩ := bytes_lift a ha.2
  have e : arr (us.map (fun u => (u.toNat : Int))) = (us.map cell).toArray := by
    unfold arr; rw [List.map_map]; rfl
  have hl : us.length = 16 := by have := ha.1; simpa using this
  rw [e, run_equalIn_bytes W d 52 5 16 Tryz.underlying52 Tryz.underlying5 (fun _ => by kernel_rfl) us us hl hl]
  simp
theorem fields3 {fs : List Field} {n1 n2 n3 : String} {t1 t2 t3 : TypeId} {o1 o2 o3 : Nat} (hf : fs.map (fun x => (x.name, x.type, x.offset)) = [(n1, t1, o1), (n2, t2, o2), (n3, t3, o3)]) :
    ∃ f1 f2 f3 : Field, fs = [f1, f2, f3] ∧ (f1.name = n1 ∧ f1.type = t1 ∧ f1.offset = o1) ∧ (f2.name = n2 ∧ f2.type = t2 ∧ f2.offset = o2) ∧ f3.name = n3 ∧ f3.type = t3 ∧ f3.offset = o3 := by
  obtain ⟨f1, g1, rfl, h1, hf⟩ := List.map_eq_cons_iff.1 hf
  obtain ⟨f2, g2, rfl, h2, hf⟩ := List.map_eq_cons_iff.1 hf
  obtain ⟨f3, g3, rfl, h3, hf⟩ := List.map_eq_cons_iff.1 hf
  rw [List.map_eq_nil_iff] at hf
  subst hf
  simp only [Prod.mk.injEq] at h1 h2 h3
  exact ⟨f1, f2, f3, rfl, h1, h2, h3⟩
theorem fields2 {fs : List Field} {n1 n2 : String} {t1 t2 : TypeId} {o1 o2 : Nat} (hf : fs.map (fun x => (x.name, x.type, x.offset)) = [(n1, t1, o1), (n2, t2, o2)]) :
    ∃ f1 f2 : Field, fs = [f1, f2] ∧ (f1.name = n1 ∧ f1.type = t1 ∧ f1.offset = o1) ∧ f2.name = n2 ∧ f2.type = t2 ∧ f2.offset = o2 := by
  obtain ⟨f1, g1, rfl, h1, hf⟩ := List.map_eq_cons_iff.1 hf
  obtain ⟨f2, g2, rfl, h2, hf⟩ := List.map_eq_cons_iff.1 hf
  rw [List.map_eq_nil_iff] at hf
  subst hf
  simp only [Prod.mk.injEq] at h1 h2
  exact ⟨f1, f2, rfl, h1, h2⟩
set_option maxRecDepth 100000 in
theorem eqIn_pfx (d : Nat) {f l : Int} {a : List Int} (ha : IsAddr a) (W : World) : (Op.equalIn (d + 3) 54 (.agg (pfx f l a)) (.agg (pfx f l a))).run Tryz.prog W = Result.ok true W := by
  have hz := Tryz.underlying3
  rw [run_equalIn_agg W (d + 2) 54 _ _ pfx_desc (by kernel_rfl)]
  have hf : (Tryz.prog.fieldsOf 54).toList.map (fun x => (x.name, x.type, x.offset)) = [("Fam", 3, 0), ("Len", 3, 1), ("Addr", 52, 2)] := by kernel_rfl
  obtain ⟨f1, f2, f3, e, ⟨n1, t1, o1⟩, ⟨n2, t2, o2⟩, n3, t3, o3⟩ := fields3 hf
  have q1 : ∀ W, (Op.equalIn (d + 2) 3 (.int .i64 f) (.int .i64 f)).run Tryz.prog W = Result.ok true W := fun W => by rw [run_equalIn_int W (d + 1) 3 .i64 .i64 _ _ hz]; simp
  have q2 : ∀ W, (Op.equalIn (d + 2) 3 (.int .i64 l) (.int .i64 l)).run Tryz.prog W = Result.ok true W := fun W => by rw [run_equalIn_int W (d + 1) 3 .i64 .i64 _ _ hz]; simp
  rw [e]
  simp only [Op.eqFields, n1, t1, o1, n2, t2, o2, n3, t3, o3]
  simp only [show ("Fam" ≠ "_") = True by decide, show ("Len" ≠ "_") = True by decide, show ("Addr" ≠ "_") = True by decide, if_true, Sem.run_bind, part_fam ha.1, part_len ha.1, part_addr ha.1, Result.andThen_ok, q1, q2, eqIn_arr d ha, Bool.not_true, Bool.false_eq_true, if_false, Sem.run_pure]
set_option maxRecDepth 100000 in
theorem eqIn_rt (d : Nat) {r : Rt} (ho : r.Ok) (W : World) : (Op.equalIn (d + 4) 56 (.agg (rt r)) (.agg (rt r))).run Tryz.prog W = Result.ok true W := by
  have hz := Tryz.underlying32
  rw [run_equalIn_agg W (d + 3) 56 _ _ rt_desc (by kernel_rfl)]
  have hf : (Tryz.prog.fieldsOf 56).toList.map (fun x => (x.name, x.type, x.offset)) = [("Path", 32, 0), ("Prefix", 54, 1)] := by kernel_rfl
  obtain ⟨f1, f2, e, ⟨n1, t1, o1⟩, n2, t2, o2⟩ := fields2 hf
  have q1 : ∀ W, (Op.equalIn (d + 3) 32 (.int .u32 r.p) (.int .u32 r.p)).run Tryz.prog W = Result.ok true W := fun W => by rw [run_equalIn_int W (d + 2) 32 .u32 .u32 _ _ hz]; simp
  rw [e]
  simp only [Op.eqFields, n1, t1, o1, n2, t2, o2]
  simp only [show ("Path" ≠ "_") = True by decide, show ("Prefix" ≠ "_") = True by decide, if_true, Sem.run_bind, part_path ho.1.1, part_pfx ho.1.1, Result.andThen_ok, q1, eqIn_pfx d ho.1, Bool.not_true, Bool.false_eq_true, if_false, Sem.run_pure]
set_option maxRecDepth 100000 in
theorem neq_rt {r : Rt} (ho : r.Ok) (W : World) : (binOp .neq 56 (.agg (rt r)) (.agg (rt r))).run Tryz.prog W = Result.ok (.bool false) W := by
  rw [run_neq_struct W, eqIn_rt 9996 ho]
  rfl
end Go.Proofs.YtmcnpkfeipelgaaGreatDoor

/- routes compared, equal or not -/
namespace Go.Proofs.YtmcnpkfeipelgaaGreatDoor
open Go.RowKit Extern.Stop

def rtEq (r q : Rt) : Bool := decide (r.p = q.p) && (decide (r.f = q.f) && (decide (r.l = q.l) && decide (r.a = q.a)))
theorem rtEq_iff {r q : Rt} : rtEq r q = true ↔ r = q := by
  obtain ⟨p, f, l, a⟩ := r
  obtain ⟨p', f', l', a'⟩ := q
  simp [rtEq]
set_option maxRecDepth 100000 in
theorem eqIn_arr2 (d : Nat) {a b : List Int} (ha : IsAddr a) (hb : IsAddr b) (W : World) : (Op.equalIn (d + 2) 52 (.agg (arr a)) (.agg (arr b))).run Tryz.prog W = Result.ok (decide (a = b)) W := by
  obtain ⟨us, rfl⟩ := bytes_lift a ha.2
  obtain ⟨vs, rfl⟩ := bytes_lift b hb.2
  have e : ∀ us : List UInt8, arr (us.map (fun u => (u.toNat : Int))) = (us.map cell).toArray := fun us => by
    unfold arr; rw [List.map_map]; rfl
  have hl : us.length = 16 := by have := ha.1; simpa using this
  have hm : vs.length = 16 := by have := hb.1; simpa using this
  rw [e, e, run_equalIn_bytes W d 52 5 16 Tryz.underlying52 Tryz.underlying5 (fun _ => by kernel_rfl) us vs hl hm]
  have inj : us.map (fun u => (u.toNat : Int)) = vs.map (fun u => (u.toNat : Int)) ↔ us = vs :=
    List.map_inj_right (fun x y h => UInt8.toNat_inj.1 (Int.ofNat.inj h))
  by_cases h : us = vs
  · subst h; simp
  · have h' : ¬ us.map (fun u => (u.toNat : Int)) = vs.map (fun u => (u.toNat : Int)) := fun e => h (inj.1 e)
    rw [decide_eq_false h', beq_eq_false_iff_ne.2 h]
set_option maxRecDepth 100000 in
theorem eqIn_pfx2 (d : Nat) {f l f' l' : Int} {a a' : List Int} (ha : IsAddr a) (ha' : IsAddr a') (W : World) : (Op.equalIn (d + 3) 54 (.agg (pfx f l a)) (.agg (pfx f' l' a'))).run Tryz.prog W = Result.ok (decide (f = f') && (decide (l = l') && decide (a = a'))) W := by
  have hz := Tryz.underlying3
  rw [run_equalIn_agg W (d + 2) 54 _ _ pfx_desc (by kernel_rfl)]
  have hf : (Tryz.prog.fieldsOf 54).toList.map (fun x => (x.name, x.type, x.offset)) = [("Fam", 3, 0), ("Len", 3, 1), ("Addr", 52, 2)] := by kernel_rfl
  obtain ⟨f1, f2, f3, e, ⟨n1, t1, o1⟩, ⟨n2, t2, o2⟩, n3, t3, o3⟩ := fields3 hf
  have q : ∀ (x y : Int) W, (Op.equalIn (d + 2) 3 (.int .i64 x) (.int .i64 y)).run Tryz.prog W = Result.ok (x == y) W := fun x y W => by rw [run_equalIn_int W (d + 1) 3 .i64 .i64 _ _ hz]
  rw [e]
  simp only [Op.eqFields, n1, t1, o1, n2, t2, o2, n3, t3, o3]
  simp only [show ("Fam" ≠ "_") = True by decide, show ("Len" ≠ "_") = True by decide, show ("Addr" ≠ "_") = True by decide, if_true, Sem.run_bind, part_fam ha.1, part_fam ha'.1, Result.andThen_ok, q]
  by_cases h1 : f = f'
  · by_cases h2 : l = l'
    · by_cases h3 : a = a'
      · subst h1 h2 h3
        simp [part_len ha.1, part_addr ha.1, q, eqIn_arr2 d ha ha]
      · subst h1 h2
        simp [h3, part_len ha.1, part_len ha'.1, part_addr ha.1, part_addr ha'.1, q, eqIn_arr2 d ha ha']
    · subst h1
      simp [h2, part_len ha.1, part_len ha'.1, q]
  · simp [h1]
set_option maxRecDepth 100000 in
theorem eqIn_rt2 (d : Nat) {r s : Rt} (ho : r.Ok) (hs : s.Ok) (W : World) : (Op.equalIn (d + 4) 56 (.agg (rt r)) (.agg (rt s))).run Tryz.prog W = Result.ok (rtEq r s) W := by
  have hz := Tryz.underlying32
  rw [run_equalIn_agg W (d + 3) 56 _ _ rt_desc (by kernel_rfl)]
  have hf : (Tryz.prog.fieldsOf 56).toList.map (fun x => (x.name, x.type, x.offset)) = [("Path", 32, 0), ("Prefix", 54, 1)] := by kernel_rfl
  obtain ⟨f1, f2, e, ⟨n1, t1, o1⟩, n2, t2, o2⟩ := fields2 hf
  have q1 : ∀ W, (Op.equalIn (d + 3) 32 (.int .u32 r.p) (.int .u32 s.p)).run Tryz.prog W = Result.ok (r.p == s.p) W := fun W => by rw [run_equalIn_int W (d + 2) 32 .u32 .u32 _ _ hz]
  rw [e]
  simp only [Op.eqFields, n1, t1, o1, n2, t2, o2]
  simp only [show ("Path" ≠ "_") = True by decide, show ("Prefix" ≠ "_") = True by decide, if_true, Sem.run_bind, part_path ho.1.1, part_path hs.1.1, Result.andThen_ok, q1]
  unfold rtEq
  by_cases h1 : r.p = s.p
  · rw [h1]
    simp only [beq_self_eq_true, Bool.not_true, Bool.false_eq_true, if_false, Sem.run_bind, part_pfx ho.1.1, part_pfx hs.1.1, Result.andThen_ok, eqIn_pfx2 d ho.1 hs.1]
    generalize (decide (r.f = s.f) && (decide (r.l = s.l) && decide (r.a = s.a))) = b
    cases b <;> simp
  · simp [h1]
set_option maxRecDepth 100000 in
theorem eql_rt {r s : Rt} (ho : r.Ok) (hs : s.Ok) (W : World) : (binOp .eql 56 (.agg (rt r)) (.agg (rt s))).run Tryz.prog W = Result.ok (.bool (rtEq r s)) W := by
  rw [run_eql_struct W, eqIn_rt2 9996 ho hs]
  rfl
set_option maxRecDepth 100000 in
theorem neq_rt2 {r s : Rt} (ho : r.Ok) (hs : s.Ok) (W : World) : (binOp .neq 56 (.agg (rt r)) (.agg (rt s))).run Tryz.prog W = Result.ok (.bool (!rtEq r s)) W := by
  rw [run_neq_struct W, eqIn_rt2 9996 ho hs]
  rfl
end Go.Proofs.YtmcnpkfeipelgaaGreatDoor

/- peerageref03.Same and slices.Equal of routes, at any two lists (written by gen/rsg.py) -/
namespace Go.Proofs.YtmcnpkfeipelgaaGreatDoor
open Go.RowKit

instance : DecidableEq Rt := fun r q => if h : rtEq r q = true then .isTrue (rtEq_iff.1 h) else .isFalse (fun e => h (rtEq_iff.2 e))
theorem rts_ne {rs ss : List Rt} {k : Nat} (_h1 : k < rs.length) (_h2 : k < ss.length) (he : rtEq (nthR rs k) (nthR ss k) = false) : ¬ rs = ss := by
  rintro rfl
  rw [rtEq_iff.2 rfl] at he
  cases he
theorem rts_step {rs ss : List Rt} {k : Nat} (h1 : k < rs.length) (h2 : k < ss.length) (h : rs.take k = ss.take k) (he : rtEq (nthR rs k) (nthR ss k) = true) : rs.take (k + 1) = ss.take (k + 1) := by
  rw [take_nthR h1, take_nthR h2, h, rtEq_iff.1 he]
set_option maxHeartbeats 3200000 in
set_option maxRecDepth 100000 in
theorem rsame3_any (A A' : Option Addr) (n n' c c' : Nat) (rs ss : List Rt) (w : World) (B B' : Nat) (hx : Routes w B A n rs) (hy : Routes w B' A' n' ss) (hn : n ≤ 1000000000) (hn' : n' ≤ 1000000000) :
    Calls Tryz.prog 42 #[.slice A n c, .slice A' n' c'] w fun e w' => e = .returned (.bool (decide (rs = ss))) ∧ ∃ m, w.drewN m = w' := by
  have HN := Lib.hid hx.1
  have HN' := Lib.hid hy.1
  by_cases hnn : n = n'
  · subst hnn
    have q0 : ((n : Int) != (n : Int)) = false := by simp
    have q0' : ((n : Int) == (n : Int)) = true := by simp
    go_enter Tryz.func42, Tryz.ntmps42
    go_wp2
    go_loopw [5] (fun i wr => ∃ (k m : Nat), k ≤ n ∧ i = .int .i64 k ∧ wr = w.drewN m ∧ Hid (rs.take k = ss.take k)) (fun i _ => n - (intOf i).toNat)
    case atStart => exact ⟨0, 0, Nat.zero_le _, rfl, rfl, Lib.hid rfl⟩
    case round =>
      obtain ⟨k, m, hk, rfl, rfl, HT⟩ := hrel
      by_cases hlt : k < n
      · obtain ⟨b, o, rfl, hb, hok, hr⟩ := hx.at_ hlt
        obtain ⟨b', o', rfl, hb', hok', hr'⟩ := hy.at_ hlt
        have hi19 := Lib.hid (rt_infol hok.1.1)
        have hi20 := Lib.hid (rt_infol hok'.1.1)
        have hk1 := Lib.hid (show k < rs.length by have := HN.out; omega)
        have hk2 := Lib.hid (show k < ss.length by have := HN'.out; omega)
        have heql := eql_rt hok hok'
        have hneq := neq_rt2 hok hok'
        cases he : rtEq (nthR rs k) (nthR ss k)
        · rw [he] at heql hneq
          have hF := Lib.hid (rts_ne hk1.out hk2.out he)
          go_wp2_with fail
          refine wp_region_held_drew (S := (fun W => W.rangeAt b (o + k * 19) (rt (nthR rs k)).toList ∧ W.rangeAt b' (o' + k * 19) (rt (nthR ss k)).toList)) (by kernel_rfl) ⟨hr, hr'⟩ (fun hHeld => ?_)
          refine wpAnyH_take (i := 0) (v := ?_) rfl (by kernel_rfl) (by kernel_rfl) (by kernel_rfl) (fun _ _ _ h => h) (Or.inl ⟨by rfl, ?_⟩) (by assumption) ?_
          rotate_left
          · (intro W hSw; obtain ⟨s0, s1⟩ := hSw; go_simp; try with_reducible rfl)
          simp only [Act.put, List.getElem_toArray, List.getElem_cons_zero, List.setIfInBounds_toArray, List.set_cons_zero, List.set_cons_succ]
          refine wpAnyH_take (i := 1) (v := ?_) rfl (by kernel_rfl) (by kernel_rfl) (by kernel_rfl) (fun _ _ _ h => h) (Or.inl ⟨by rfl, ?_⟩) (by assumption) ?_
          rotate_left
          · (intro W hSw; obtain ⟨s0, s1⟩ := hSw; go_simp; try with_reducible rfl)
          simp only [Act.put, List.getElem_toArray, List.getElem_cons_zero, List.getElem_cons_succ, List.setIfInBounds_toArray, List.set_cons_zero, List.set_cons_succ]
          refine wpAnyH_take (i := 2) (v := ?_) rfl (by kernel_rfl) (by kernel_rfl) (by kernel_rfl) (fun _ _ _ h => h) (Or.inl ⟨by rfl, ?_⟩) (by assumption) ?_
          rotate_left
          · (intro W hSw; obtain ⟨s0, s1⟩ := hSw; go_simp; try with_reducible rfl)
          simp only [Act.put, List.getElem_toArray, List.getElem_cons_zero, List.getElem_cons_succ, List.setIfInBounds_toArray, List.set_cons_zero, List.set_cons_succ]
          refine wpAnyH_take (i := 3) (v := _) rfl (by kernel_rfl) (by kernel_rfl) (by kernel_rfl) (fun _ _ _ h => h) (yieldsIf_load_mid (by rfl) 56 _ rfl b (o + k * 19) rfl (rt (nthR rs k)).toList _ (fun W hW => hW.1) rt_desc rfl hi19.out) (by assumption) ?_
          simp only [Act.put, List.getElem_toArray, List.getElem_cons_zero, List.getElem_cons_succ, List.setIfInBounds_toArray, List.set_cons_zero, List.set_cons_succ]
          refine wpAnyH_take (i := 4) (v := ?_) rfl (by kernel_rfl) (by kernel_rfl) (by kernel_rfl) (fun _ _ _ h => h) (Or.inl ⟨by rfl, ?_⟩) (by assumption) ?_
          rotate_left
          · (intro W hSw; obtain ⟨s0, s1⟩ := hSw; go_simp; try with_reducible rfl)
          simp only [Act.put, List.getElem_toArray, List.getElem_cons_zero, List.getElem_cons_succ, List.setIfInBounds_toArray, List.set_cons_zero, List.set_cons_succ]
          refine wpAnyH_take (i := 5) (v := ?_) rfl (by kernel_rfl) (by kernel_rfl) (by kernel_rfl) (fun _ _ _ h => h) (Or.inl ⟨by rfl, ?_⟩) (by assumption) ?_
          rotate_left
          · (intro W hSw; obtain ⟨s0, s1⟩ := hSw; go_simp; try with_reducible rfl)
          simp only [Act.put, List.getElem_toArray, List.getElem_cons_zero, List.getElem_cons_succ, List.setIfInBounds_toArray, List.set_cons_zero, List.set_cons_succ]
          refine wpAnyH_take (i := 6) (v := ?_) rfl (by kernel_rfl) (by kernel_rfl) (by kernel_rfl) (fun _ _ _ h => h) (Or.inl ⟨by rfl, ?_⟩) (by assumption) ?_
          rotate_left
          · (intro W hSw; obtain ⟨s0, s1⟩ := hSw; go_simp; try with_reducible rfl)
          simp only [Act.put, List.getElem_toArray, List.getElem_cons_zero, List.getElem_cons_succ, List.setIfInBounds_toArray, List.set_cons_zero, List.set_cons_succ]
          refine wpAnyH_take (i := 7) (v := _) rfl (by kernel_rfl) (by kernel_rfl) (by kernel_rfl) (fun _ _ _ h => h) (yieldsIf_load_mid (by rfl) 56 _ rfl b' (o' + k * 19) rfl (rt (nthR ss k)).toList _ (fun W hW => hW.2) rt_desc rfl hi20.out) (by assumption) ?_
          simp only [Act.put, List.getElem_toArray, List.getElem_cons_zero, List.getElem_cons_succ, List.setIfInBounds_toArray, List.set_cons_zero, List.set_cons_succ]
          refine wpAnyH_take (i := 8) (v := ?_) rfl (by kernel_rfl) (by kernel_rfl) (by kernel_rfl) (fun _ _ _ h => h) (Or.inl ⟨by rfl, ?_⟩) (by assumption) ?_
          rotate_left
          · (intro W hSw; obtain ⟨s0, s1⟩ := hSw; go_simp; try with_reducible rfl)
          simp only [Act.put, List.getElem_toArray, List.getElem_cons_zero, List.getElem_cons_succ, List.setIfInBounds_toArray, List.set_cons_zero, List.set_cons_succ]
          refine wpAnyH_done (by kernel_rfl) ?_ _
          go_wp2
          go_ret
          exact ⟨by rw [decide_eq_false hF.out]; first | done | rfl, m + 1, rfl⟩
        · rw [he] at heql hneq
          have hS := Lib.hid (rts_step hk1.out hk2.out HT.out he)
          go_wp2_with fail
          refine wp_region_held_drew (S := (fun W => W.rangeAt b (o + k * 19) (rt (nthR rs k)).toList ∧ W.rangeAt b' (o' + k * 19) (rt (nthR ss k)).toList)) (by kernel_rfl) ⟨hr, hr'⟩ (fun hHeld => ?_)
          refine wpAnyH_take (i := 0) (v := ?_) rfl (by kernel_rfl) (by kernel_rfl) (by kernel_rfl) (fun _ _ _ h => h) (Or.inl ⟨by rfl, ?_⟩) (by assumption) ?_
          rotate_left
          · (intro W hSw; obtain ⟨s0, s1⟩ := hSw; go_simp; try with_reducible rfl)
          simp only [Act.put, List.getElem_toArray, List.getElem_cons_zero, List.setIfInBounds_toArray, List.set_cons_zero, List.set_cons_succ]
          refine wpAnyH_take (i := 1) (v := ?_) rfl (by kernel_rfl) (by kernel_rfl) (by kernel_rfl) (fun _ _ _ h => h) (Or.inl ⟨by rfl, ?_⟩) (by assumption) ?_
          rotate_left
          · (intro W hSw; obtain ⟨s0, s1⟩ := hSw; go_simp; try with_reducible rfl)
          simp only [Act.put, List.getElem_toArray, List.getElem_cons_zero, List.getElem_cons_succ, List.setIfInBounds_toArray, List.set_cons_zero, List.set_cons_succ]
          refine wpAnyH_take (i := 2) (v := ?_) rfl (by kernel_rfl) (by kernel_rfl) (by kernel_rfl) (fun _ _ _ h => h) (Or.inl ⟨by rfl, ?_⟩) (by assumption) ?_
          rotate_left
          · (intro W hSw; obtain ⟨s0, s1⟩ := hSw; go_simp; try with_reducible rfl)
          simp only [Act.put, List.getElem_toArray, List.getElem_cons_zero, List.getElem_cons_succ, List.setIfInBounds_toArray, List.set_cons_zero, List.set_cons_succ]
          refine wpAnyH_take (i := 3) (v := _) rfl (by kernel_rfl) (by kernel_rfl) (by kernel_rfl) (fun _ _ _ h => h) (yieldsIf_load_mid (by rfl) 56 _ rfl b (o + k * 19) rfl (rt (nthR rs k)).toList _ (fun W hW => hW.1) rt_desc rfl hi19.out) (by assumption) ?_
          simp only [Act.put, List.getElem_toArray, List.getElem_cons_zero, List.getElem_cons_succ, List.setIfInBounds_toArray, List.set_cons_zero, List.set_cons_succ]
          refine wpAnyH_take (i := 4) (v := ?_) rfl (by kernel_rfl) (by kernel_rfl) (by kernel_rfl) (fun _ _ _ h => h) (Or.inl ⟨by rfl, ?_⟩) (by assumption) ?_
          rotate_left
          · (intro W hSw; obtain ⟨s0, s1⟩ := hSw; go_simp; try with_reducible rfl)
          simp only [Act.put, List.getElem_toArray, List.getElem_cons_zero, List.getElem_cons_succ, List.setIfInBounds_toArray, List.set_cons_zero, List.set_cons_succ]
          refine wpAnyH_take (i := 5) (v := ?_) rfl (by kernel_rfl) (by kernel_rfl) (by kernel_rfl) (fun _ _ _ h => h) (Or.inl ⟨by rfl, ?_⟩) (by assumption) ?_
          rotate_left
          · (intro W hSw; obtain ⟨s0, s1⟩ := hSw; go_simp; try with_reducible rfl)
          simp only [Act.put, List.getElem_toArray, List.getElem_cons_zero, List.getElem_cons_succ, List.setIfInBounds_toArray, List.set_cons_zero, List.set_cons_succ]
          refine wpAnyH_take (i := 6) (v := ?_) rfl (by kernel_rfl) (by kernel_rfl) (by kernel_rfl) (fun _ _ _ h => h) (Or.inl ⟨by rfl, ?_⟩) (by assumption) ?_
          rotate_left
          · (intro W hSw; obtain ⟨s0, s1⟩ := hSw; go_simp; try with_reducible rfl)
          simp only [Act.put, List.getElem_toArray, List.getElem_cons_zero, List.getElem_cons_succ, List.setIfInBounds_toArray, List.set_cons_zero, List.set_cons_succ]
          refine wpAnyH_take (i := 7) (v := _) rfl (by kernel_rfl) (by kernel_rfl) (by kernel_rfl) (fun _ _ _ h => h) (yieldsIf_load_mid (by rfl) 56 _ rfl b' (o' + k * 19) rfl (rt (nthR ss k)).toList _ (fun W hW => hW.2) rt_desc rfl hi20.out) (by assumption) ?_
          simp only [Act.put, List.getElem_toArray, List.getElem_cons_zero, List.getElem_cons_succ, List.setIfInBounds_toArray, List.set_cons_zero, List.set_cons_succ]
          refine wpAnyH_take (i := 8) (v := ?_) rfl (by kernel_rfl) (by kernel_rfl) (by kernel_rfl) (fun _ _ _ h => h) (Or.inl ⟨by rfl, ?_⟩) (by assumption) ?_
          rotate_left
          · (intro W hSw; obtain ⟨s0, s1⟩ := hSw; go_simp; try with_reducible rfl)
          simp only [Act.put, List.getElem_toArray, List.getElem_cons_zero, List.getElem_cons_succ, List.setIfInBounds_toArray, List.set_cons_zero, List.set_cons_succ]
          refine wpAnyH_done (by kernel_rfl) ?_ _
          go_wp2
          go_roundw
          case rel => exact ⟨k + 1, m + 1, by omega, by go_num, rfl, hS⟩
          case measure => simp [intOf]; omega
      · have hE := Lib.hid (show rs = ss by
          have h1 := HN.out
          have h2 := HN'.out
          have h3 := HT.out
          rw [List.take_of_length_le (by omega), List.take_of_length_le (by omega)] at h3
          exact h3)
        go_wp2
        go_ret
        exact ⟨by rw [decide_eq_true hE.out]; first | done | rfl, m, rfl⟩
  · have q0 : ((n : Int) != (n' : Int)) = true := by simp; omega
    have q0' : ((n : Int) == (n' : Int)) = false := by simp; omega
    have hF := Lib.hid (show ¬ rs = ss from fun e => hnn (by have h1 := HN.out; have h2 := HN'.out; rw [e] at h1; omega))
    clear hnn
    go_enter Tryz.func42, Tryz.ntmps42
    go_wp2
    go_ret
    exact ⟨by rw [decide_eq_false hF.out]; first | done | rfl, 0, rfl⟩
set_option maxHeartbeats 3200000 in
set_option maxRecDepth 100000 in
theorem routesEq_any (A A' : Option Addr) (n n' c c' : Nat) (rs ss : List Rt) (w : World) (B B' : Nat) (hx : Routes w B A n rs) (hy : Routes w B' A' n' ss) (hn : n ≤ 1000000000) (hn' : n' ≤ 1000000000) :
    Calls Tryz.prog 51 #[.slice A n c, .slice A' n' c'] w fun e w' => e = .returned (.bool (decide (rs = ss))) ∧ ∃ m, w.drewN m = w' := by
  have HN := Lib.hid hx.1
  have HN' := Lib.hid hy.1
  by_cases hnn : n = n'
  · subst hnn
    have q0 : ((n : Int) != (n : Int)) = false := by simp
    have q0' : ((n : Int) == (n : Int)) = true := by simp
    go_enter Tryz.func51, Tryz.ntmps51
    go_wp2
    go_loopw [13] (fun i wr => ∃ (k m : Nat), k ≤ n ∧ i = .int .i64 k ∧ wr = w.drewN m ∧ Hid (rs.take k = ss.take k)) (fun i _ => n - (intOf i).toNat)
    case atStart => exact ⟨0, 0, Nat.zero_le _, rfl, rfl, Lib.hid rfl⟩
    case round =>
      obtain ⟨k, m, hk, rfl, rfl, HT⟩ := hrel
      by_cases hlt : k < n
      · obtain ⟨b, o, rfl, hb, hok, hr⟩ := hx.at_ hlt
        obtain ⟨b', o', rfl, hb', hok', hr'⟩ := hy.at_ hlt
        have hi19 := Lib.hid (rt_infol hok.1.1)
        have hi20 := Lib.hid (rt_infol hok'.1.1)
        have hk1 := Lib.hid (show k < rs.length by have := HN.out; omega)
        have hk2 := Lib.hid (show k < ss.length by have := HN'.out; omega)
        have heql := eql_rt hok hok'
        have hneq := neq_rt2 hok hok'
        cases he : rtEq (nthR rs k) (nthR ss k)
        · rw [he] at heql hneq
          have hF := Lib.hid (rts_ne hk1.out hk2.out he)
          go_wp2_with fail
          refine wp_region_held_drew (S := fun W => W.rangeAt b (o + k * 19) (rt (nthR rs k)).toList ∧ W.rangeAt b' (o' + k * 19) (rt (nthR ss k)).toList) (by kernel_rfl) ⟨hr, hr'⟩ (fun hHeld => ?_)
          refine wpAnyH_take (i := 0) (v := ?_) rfl (by kernel_rfl) (by kernel_rfl) (by kernel_rfl) (fun _ _ _ h => h) (Or.inl ⟨by rfl, ?_⟩) (by assumption) ?_
          rotate_left
          · (intro W hSw; obtain ⟨s1, s2⟩ := hSw; go_simp; try with_reducible rfl)
          simp only [Act.put, List.getElem_toArray, List.getElem_cons_zero, List.setIfInBounds_toArray, List.set_cons_zero, List.set_cons_succ]
          refine wpAnyH_take (i := 1) (v := ?_) rfl (by kernel_rfl) (by kernel_rfl) (by kernel_rfl) (fun _ _ _ h => h) (Or.inl ⟨by rfl, ?_⟩) (by assumption) ?_
          rotate_left
          · (intro W hSw; obtain ⟨s1, s2⟩ := hSw; go_simp; try with_reducible rfl)
          simp only [Act.put, List.getElem_toArray, List.getElem_cons_zero, List.getElem_cons_succ, List.setIfInBounds_toArray, List.set_cons_zero, List.set_cons_succ]
          refine wpAnyH_take (i := 2) (v := ?_) rfl (by kernel_rfl) (by kernel_rfl) (by kernel_rfl) (fun _ _ _ h => h) (Or.inl ⟨by rfl, ?_⟩) (by assumption) ?_
          rotate_left
          · (intro W hSw; obtain ⟨s1, s2⟩ := hSw; go_simp; try with_reducible rfl)
          simp only [Act.put, List.getElem_toArray, List.getElem_cons_zero, List.getElem_cons_succ, List.setIfInBounds_toArray, List.set_cons_zero, List.set_cons_succ]
          refine wpAnyH_take (i := 3) (v := _) rfl (by kernel_rfl) (by kernel_rfl) (by kernel_rfl) (fun _ _ _ h => h) (yieldsIf_load_mid (by rfl) 56 _ rfl b (o + k * 19) rfl (rt (nthR rs k)).toList _ (fun W hW => hW.1) rt_desc rfl hi19.out) (by assumption) ?_
          simp only [Act.put, List.getElem_toArray, List.getElem_cons_zero, List.getElem_cons_succ, List.setIfInBounds_toArray, List.set_cons_zero, List.set_cons_succ]
          refine wpAnyH_take (i := 4) (v := ?_) rfl (by kernel_rfl) (by kernel_rfl) (by kernel_rfl) (fun _ _ _ h => h) (Or.inl ⟨by rfl, ?_⟩) (by assumption) ?_
          rotate_left
          · (intro W hSw; obtain ⟨s1, s2⟩ := hSw; go_simp; try with_reducible rfl)
          simp only [Act.put, List.getElem_toArray, List.getElem_cons_zero, List.getElem_cons_succ, List.setIfInBounds_toArray, List.set_cons_zero, List.set_cons_succ]
          refine wpAnyH_take (i := 5) (v := ?_) rfl (by kernel_rfl) (by kernel_rfl) (by kernel_rfl) (fun _ _ _ h => h) (Or.inl ⟨by rfl, ?_⟩) (by assumption) ?_
          rotate_left
          · (intro W hSw; obtain ⟨s1, s2⟩ := hSw; go_simp; try with_reducible rfl)
          simp only [Act.put, List.getElem_toArray, List.getElem_cons_zero, List.getElem_cons_succ, List.setIfInBounds_toArray, List.set_cons_zero, List.set_cons_succ]
          refine wpAnyH_take (i := 6) (v := ?_) rfl (by kernel_rfl) (by kernel_rfl) (by kernel_rfl) (fun _ _ _ h => h) (Or.inl ⟨by rfl, ?_⟩) (by assumption) ?_
          rotate_left
          · (intro W hSw; obtain ⟨s1, s2⟩ := hSw; go_simp; try with_reducible rfl)
          simp only [Act.put, List.getElem_toArray, List.getElem_cons_zero, List.getElem_cons_succ, List.setIfInBounds_toArray, List.set_cons_zero, List.set_cons_succ]
          refine wpAnyH_take (i := 7) (v := _) rfl (by kernel_rfl) (by kernel_rfl) (by kernel_rfl) (fun _ _ _ h => h) (yieldsIf_load_mid (by rfl) 56 _ rfl b' (o' + k * 19) rfl (rt (nthR ss k)).toList _ (fun W hW => hW.2) rt_desc rfl hi20.out) (by assumption) ?_
          simp only [Act.put, List.getElem_toArray, List.getElem_cons_zero, List.getElem_cons_succ, List.setIfInBounds_toArray, List.set_cons_zero, List.set_cons_succ]
          refine wpAnyH_take (i := 8) (v := ?_) rfl (by kernel_rfl) (by kernel_rfl) (by kernel_rfl) (fun _ _ _ h => h) (Or.inl ⟨by rfl, ?_⟩) (by assumption) ?_
          rotate_left
          · (intro W hSw; obtain ⟨s1, s2⟩ := hSw; go_simp; try with_reducible rfl)
          simp only [Act.put, List.getElem_toArray, List.getElem_cons_zero, List.getElem_cons_succ, List.setIfInBounds_toArray, List.set_cons_zero, List.set_cons_succ]
          refine wpAnyH_done (by kernel_rfl) ?_ _
          go_wp2
          go_ret
          exact ⟨by rw [decide_eq_false hF.out]; first | done | rfl, m + 1, rfl⟩
        · rw [he] at heql hneq
          have hS := Lib.hid (rts_step hk1.out hk2.out HT.out he)
          go_wp2_with fail
          refine wp_region_held_drew (S := fun W => W.rangeAt b (o + k * 19) (rt (nthR rs k)).toList ∧ W.rangeAt b' (o' + k * 19) (rt (nthR ss k)).toList) (by kernel_rfl) ⟨hr, hr'⟩ (fun hHeld => ?_)
          refine wpAnyH_take (i := 0) (v := ?_) rfl (by kernel_rfl) (by kernel_rfl) (by kernel_rfl) (fun _ _ _ h => h) (Or.inl ⟨by rfl, ?_⟩) (by assumption) ?_
          rotate_left
          · (intro W hSw; obtain ⟨s1, s2⟩ := hSw; go_simp; try with_reducible rfl)
          simp only [Act.put, List.getElem_toArray, List.getElem_cons_zero, List.setIfInBounds_toArray, List.set_cons_zero, List.set_cons_succ]
          refine wpAnyH_take (i := 1) (v := ?_) rfl (by kernel_rfl) (by kernel_rfl) (by kernel_rfl) (fun _ _ _ h => h) (Or.inl ⟨by rfl, ?_⟩) (by assumption) ?_
          rotate_left
          · (intro W hSw; obtain ⟨s1, s2⟩ := hSw; go_simp; try with_reducible rfl)
          simp only [Act.put, List.getElem_toArray, List.getElem_cons_zero, List.getElem_cons_succ, List.setIfInBounds_toArray, List.set_cons_zero, List.set_cons_succ]
          refine wpAnyH_take (i := 2) (v := ?_) rfl (by kernel_rfl) (by kernel_rfl) (by kernel_rfl) (fun _ _ _ h => h) (Or.inl ⟨by rfl, ?_⟩) (by assumption) ?_
          rotate_left
          · (intro W hSw; obtain ⟨s1, s2⟩ := hSw; go_simp; try with_reducible rfl)
          simp only [Act.put, List.getElem_toArray, List.getElem_cons_zero, List.getElem_cons_succ, List.setIfInBounds_toArray, List.set_cons_zero, List.set_cons_succ]
          refine wpAnyH_take (i := 3) (v := _) rfl (by kernel_rfl) (by kernel_rfl) (by kernel_rfl) (fun _ _ _ h => h) (yieldsIf_load_mid (by rfl) 56 _ rfl b (o + k * 19) rfl (rt (nthR rs k)).toList _ (fun W hW => hW.1) rt_desc rfl hi19.out) (by assumption) ?_
          simp only [Act.put, List.getElem_toArray, List.getElem_cons_zero, List.getElem_cons_succ, List.setIfInBounds_toArray, List.set_cons_zero, List.set_cons_succ]
          refine wpAnyH_take (i := 4) (v := ?_) rfl (by kernel_rfl) (by kernel_rfl) (by kernel_rfl) (fun _ _ _ h => h) (Or.inl ⟨by rfl, ?_⟩) (by assumption) ?_
          rotate_left
          · (intro W hSw; obtain ⟨s1, s2⟩ := hSw; go_simp; try with_reducible rfl)
          simp only [Act.put, List.getElem_toArray, List.getElem_cons_zero, List.getElem_cons_succ, List.setIfInBounds_toArray, List.set_cons_zero, List.set_cons_succ]
          refine wpAnyH_take (i := 5) (v := ?_) rfl (by kernel_rfl) (by kernel_rfl) (by kernel_rfl) (fun _ _ _ h => h) (Or.inl ⟨by rfl, ?_⟩) (by assumption) ?_
          rotate_left
          · (intro W hSw; obtain ⟨s1, s2⟩ := hSw; go_simp; try with_reducible rfl)
          simp only [Act.put, List.getElem_toArray, List.getElem_cons_zero, List.getElem_cons_succ, List.setIfInBounds_toArray, List.set_cons_zero, List.set_cons_succ]
          refine wpAnyH_take (i := 6) (v := ?_) rfl (by kernel_rfl) (by kernel_rfl) (by kernel_rfl) (fun _ _ _ h => h) (Or.inl ⟨by rfl, ?_⟩) (by assumption) ?_
          rotate_left
          · (intro W hSw; obtain ⟨s1, s2⟩ := hSw; go_simp; try with_reducible rfl)
          simp only [Act.put, List.getElem_toArray, List.getElem_cons_zero, List.getElem_cons_succ, List.setIfInBounds_toArray, List.set_cons_zero, List.set_cons_succ]
          refine wpAnyH_take (i := 7) (v := _) rfl (by kernel_rfl) (by kernel_rfl) (by kernel_rfl) (fun _ _ _ h => h) (yieldsIf_load_mid (by rfl) 56 _ rfl b' (o' + k * 19) rfl (rt (nthR ss k)).toList _ (fun W hW => hW.2) rt_desc rfl hi20.out) (by assumption) ?_
          simp only [Act.put, List.getElem_toArray, List.getElem_cons_zero, List.getElem_cons_succ, List.setIfInBounds_toArray, List.set_cons_zero, List.set_cons_succ]
          refine wpAnyH_take (i := 8) (v := ?_) rfl (by kernel_rfl) (by kernel_rfl) (by kernel_rfl) (fun _ _ _ h => h) (Or.inl ⟨by rfl, ?_⟩) (by assumption) ?_
          rotate_left
          · (intro W hSw; obtain ⟨s1, s2⟩ := hSw; go_simp; try with_reducible rfl)
          simp only [Act.put, List.getElem_toArray, List.getElem_cons_zero, List.getElem_cons_succ, List.setIfInBounds_toArray, List.set_cons_zero, List.set_cons_succ]
          refine wpAnyH_done (by kernel_rfl) ?_ _
          go_wp2
          go_roundw
          case rel => exact ⟨k + 1, m + 1, by omega, by go_num, rfl, hS⟩
          case measure => simp [intOf]; omega
      · have hE := Lib.hid (show rs = ss by
          have h1 := HN.out
          have h2 := HN'.out
          have h3 := HT.out
          rw [List.take_of_length_le (by omega), List.take_of_length_le (by omega)] at h3
          exact h3)
        go_wp2
        go_ret
        exact ⟨by rw [decide_eq_true hE.out]; first | done | rfl, m, rfl⟩
  · have q0 : ((n : Int) != (n' : Int)) = true := by simp; omega
    have q0' : ((n : Int) == (n' : Int)) = false := by simp; omega
    have hF := Lib.hid (show ¬ rs = ss from fun e => hnn (by have h1 := HN.out; have h2 := HN'.out; rw [e] at h1; omega))
    clear hnn
    go_enter Tryz.func51, Tryz.ntmps51
    go_wp2
    go_ret
    exact ⟨by rw [decide_eq_false hF.out]; first | done | rfl, 0, rfl⟩
end Go.Proofs.YtmcnpkfeipelgaaGreatDoor

/- peerageref13.numbers; Same of bytes at any two lists (written by gen/vsa.py) -/
namespace Go.Proofs.YtmcnpkfeipelgaaGreatDoor
open Go.RowKit Go.Sort

theorem str_injV {xs ys : List Int} (hx : ∀ x ∈ xs, 0 ≤ x ∧ x ≤ 255) (hy : ∀ x ∈ ys, 0 ≤ x ∧ x ≤ 255) : (strOfNums xs = strOfNums ys) ↔ xs = ys := by
  constructor
  · intro h
    have h2 := congrArg (fun b : ByteArray => b.data.toList) h
    simp only [strOfNums_data] at h2
    clear h
    induction xs generalizing ys with
    | nil => cases ys with
      | nil => rfl
      | cons y ys => simp at h2
    | cons x xs ih => cases ys with
      | nil => simp at h2
      | cons y ys =>
        simp only [List.map_cons, List.cons.injEq] at h2
        have h3 := congrArg UInt8.toNat h2.1
        have a := hx x List.mem_cons_self
        have b := hy y List.mem_cons_self
        simp only [UInt8.toNat_ofNat'] at h3
        rw [ih (fun z hz => hx z (List.mem_cons_of_mem _ hz)) (fun z hz => hy z (List.mem_cons_of_mem _ hz)) h2.2]
        congr 1
        omega
  · intro h; rw [h]
theorem toList_iffV (a b : ByteArray) : a.toList = b.toList ↔ a = b := by
  rw [ByteArray.toList_eq, ByteArray.toList_eq]
  exact ⟨fun h => ByteArray.ext (Array.ext' h), fun h => by rw [h]⟩
set_option maxRecDepth 100000 in
theorem rsame1_anyV (A A2 : Option Addr) (n n2 c c2 : Nat) (xs ys : List Int) (w : World) (B B2 : Nat) (hx : Bytes w B A n xs) (hy : Bytes w B2 A2 n2 ys) :
    Calls Tryz.prog 39 #[.slice A n c, .slice A2 n2 c2] w fun e w' => e = .returned (.bool (decide (xs = ys))) ∧ w = w' := by
  have h1 := bytes_str (c := c) hx
  have h2 := bytes_str (c := c2) hy
  have hi := Lib.hid (str_injV hx.2.1 hy.2.1)
  go_enter Tryz.func39, Tryz.ntmps39
  go_wp2
  go_ret
  refine ⟨ret_boolA ?_, rfl⟩
  rw [Bool.eq_iff_iff]
  simp only [beq_iff_eq, decide_eq_true_eq, toList_iffV, hi.out]
set_option maxRecDepth 100000 in
theorem bequal_anyV (A A2 : Option Addr) (n n2 c c2 : Nat) (xs ys : List Int) (w : World) (B B2 : Nat) (hx : Bytes w B A n xs) (hy : Bytes w B2 A2 n2 ys) :
    Calls Tryz.prog 50 #[.slice A n c, .slice A2 n2 c2] w fun e w' => e = .returned (.bool (decide (xs = ys))) ∧ w = w' := by
  have h1 := bytes_str (c := c) hx
  have h2 := bytes_str (c := c2) hy
  have hi := Lib.hid (str_injV hx.2.1 hy.2.1)
  go_enter Tryz.func50, Tryz.ntmps50
  go_wp2
  go_ret
  refine ⟨ret_boolA ?_, rfl⟩
  rw [Bool.eq_iff_iff]
  simp only [beq_iff_eq, decide_eq_true_eq, toList_iffV, hi.out]
set_option maxRecDepth 100000 in
set_option maxHeartbeats 1600000 in
theorem rnums13_any (A A' : Option Addr) (n n' c c' : Nat) (xs ys : List Int) (w : World) (B B' : Nat) (hx : U32s w B A n xs) (hy : U32s w B' A' n' ys) (hn : n ≤ 1000000000) (hn' : n' ≤ 1000000000) :
    Calls Tryz.prog 41 #[.slice A n c, .slice A' n' c'] w fun e w' => e = .returned (.bool (decide (xs = ys))) ∧ ∃ m, w.drewN m = w' := by
  have HN := Lib.hid hx.1
  have HN' := Lib.hid hy.1
  by_cases hne : n = n'
  · subst hne
    go_enter Tryz.func41, Tryz.ntmps41
    go_wp2
    go_loopw [5] (fun i wr => ∃ (k m : Nat), k ≤ n ∧ i = .int .i64 k ∧ xs.take k = ys.take k ∧ wr = w.drewN m) (fun i _ => n - (intOf i).toNat)
    case atStart => exact ⟨0, 0, Nat.zero_le _, rfl, by simp, rfl⟩
    case round =>
      obtain ⟨k, m, hk, rfl, heq, rfl⟩ := hrel
      have HEQ := Lib.hid heq
      clear heq
      by_cases hlt : k < n
      · obtain ⟨b, o, rfl, hb, hc⟩ := hx.at_ hlt
        obtain ⟨b', o', rfl, hb', hc'⟩ := hy.at_ hlt
        have hkx : k < xs.length := HN.out ▸ hlt
        have hky : k < ys.length := HN'.out ▸ hlt
        by_cases he : nth xs k = nth ys k
        · have he1 : (nth xs k != nth ys k) = false := by simp [he]
          have HE := Lib.hid he
          clear he
          go_wp2
          go_quiet (fail)
          go_wp2
          go_roundw
          case rel => exact ⟨k + 1, _, by omega, by go_num, take_eq_succ hkx hky HEQ.out HE.out, rfl⟩
          case measure => simp [intOf]; omega
        · have he1 : (nth xs k != nth ys k) = true := by simp [he]
          have HE := Lib.hid he
          clear he
          go_wp2
          go_quiet (fail)
          go_wp2
          go_ret
          exact ⟨by rw [decide_eq_false (ne_of_nth HE.out)]; rfl, m + nq, by simp⟩
      · have e : xs = ys := by
          have h1 := HN.out
          have h2 := HN'.out
          have h3 := HEQ.out
          rw [List.take_of_length_le (by omega), List.take_of_length_le (by omega)] at h3
          exact h3
        have HE := Lib.hid e
        clear e
        go_wp2
        go_ret
        exact ⟨by rw [decide_eq_true HE.out]; rfl, _, rfl⟩
  · have he1 : ((n : Int) != (n' : Int)) = true := by rw [bne_iff_ne]; omega
    have e : xs ≠ ys := by
      rintro rfl
      exact hne (HN.out.trans HN'.out.symm)
    clear hne
    go_enter Tryz.func41, Tryz.ntmps41
    go_wp2
    go_ret
    exact ⟨by rw [decide_eq_false e]; rfl, 0, rfl⟩
end Go.Proofs.YtmcnpkfeipelgaaGreatDoor

/- value.Same, peerageref13.Same at any two attributes (written by gen/vsa.py) -/
namespace Go.Proofs.YtmcnpkfeipelgaaGreatDoor
open Go.RowKit Go.Sort

theorem _root_.Go.Calls.drawnV {P : Program} {f : FuncId} {args : Array Value} {w : World} {v : Value} (h : Calls P f args w fun e w' => e = .returned v ∧ ∃ m, w.drewN m = w') : Calls P f args w fun e w' => e = .returned v ∧ Below w.heap.size w w' :=
  h.mono (fun e w' hh => ⟨hh.1, by obtain ⟨m, hm⟩ := hh.2; rw [← hm]; exact bl_drewN (bl_refl w) m⟩)
theorem _root_.Go.Calls.sameV {P : Program} {f : FuncId} {args : Array Value} {w : World} {v : Value} (h : Calls P f args w fun e w' => e = .returned v ∧ w = w') : Calls P f args w fun e w' => e = .returned v ∧ Below w.heap.size w w' :=
  h.mono (fun e w' hh => ⟨hh.1, by rw [← hh.2]; exact bl_refl w⟩)
/-- What an attribute's lists hold. -/
structure AtC (w : World) (B : Nat) (a : At) (ss : List Sg) (ls bs : List Int) (rs : List Rt) : Prop where
  s : Segs w B a.A1 a.n1 ss
  l : U32s w B a.A2 a.n2 ls
  b : Bytes w B a.A3 a.n3 bs
  r : Routes w B a.A4 a.n4 rs
theorem AtC.at {w W : World} {a : At} {ss : List Sg} {ls bs : List Int} {rs : List Rt} (h : AtC w w.heap.size a ss ls bs rs) (hb : Below w.heap.size w W) : AtC W W.heap.size a ss ls bs rs :=
  ⟨(h.s.below hb).more hb.size, (h.l.below hb).more hb.size, (h.b.below hb).more hb.size, (h.r.below hb).more hb.size⟩
/-- It is small enough. -/
structure AtF (a : At) (ss : List Sg) : Prop where
  n1 : a.n1 ≤ 1000
  s : ∀ s ∈ ss, s.n ≤ 1000
  n2 : a.n2 ≤ 1000
  n3 : a.n3 ≤ 1000
  n4 : a.n4 ≤ 1000
def sm13 (a : At) (ss : List Sg) (ls bs : List Int) (rs : List Rt) (a' : At) (ss' : List Sg) (ls' bs' : List Int) (rs' : List Rt) : Bool :=
  (a.k == a'.k) && ((a.p == a'.p) && ((a.N == a'.N) && ((a.M == a'.M) && ((a.f == a'.f) && (decide (ss.map sgK = ss'.map sgK) && (decide (ls = ls') && (decide (bs = bs') && decide (rs = rs'))))))))
set_option maxRecDepth 100000 in
set_option maxHeartbeats 3200000 in
theorem vsame13_any (a a' : At) (ss ss' : List Sg) (ls bs ls' bs' : List Int) (rs rs' : List Rt) (w : World) (h : AtC w w.heap.size a ss ls bs rs) (h' : AtC w w.heap.size a' ss' ls' bs' rs') (hf : AtF a ss) (hf' : AtF a' ss') :
    Calls Tryz.prog 18 #[.agg (atc a), .agg (atc a')] w fun e w' => e = .returned (.bool (sm13 a ss ls bs rs a' ss' ls' bs' rs')) ∧ Below w.heap.size w w' := by
  have b1 := bl_alloc (bl_alloc (bl_refl w) (.cells (atc a) 37)) (.cells (atc a') 37)
  have oa := (Own.new w 37 (atc a)).alloc (.cells (atc a') 37)
  have ob := Own.new (w.alloc (.cells (atc a) 37)) 37 (atc a')
  rw [show (w.alloc (.cells (atc a) 37)).heap.size = w.heap.size + 1 by simp] at ob
  have hX : Hid (sm13 a ss ls bs rs a' ss' ls' bs' rs' = ((a.k == a'.k) && ((a.p == a'.p) && ((a.N == a'.N) && ((a.M == a'.M) && ((a.f == a'.f) && (decide (ss.map sgK = ss'.map sgK) && (decide (ls = ls') && (decide (bs = bs') && decide (rs = rs')))))))))) := Lib.hid rfl
  have hc1 := Lib.hid (fun W (hb : Below w.heap.size w W) => ssame_any a.A1 a'.A1 a.n1 a'.n1 a.c1 a'.c1 ss ss' W (h.at hb).s (h'.at hb).s hf.n1 hf'.n1 hf.s hf'.s)
  have hc2 := Lib.hid (fun W (hb : Below w.heap.size w W) => (u32eq_any a.A2 a'.A2 a.n2 a'.n2 a.c2 a'.c2 ls ls' W _ _ (h.at hb).l (h'.at hb).l (Nat.le_trans hf.n2 (by decide)) (Nat.le_trans hf'.n2 (by decide))).drawnV)
  have hc3 := Lib.hid (fun W (hb : Below w.heap.size w W) => (bequal_anyV a.A3 a'.A3 a.n3 a'.n3 a.c3 a'.c3 bs bs' W _ _ (h.at hb).b (h'.at hb).b).sameV)
  have hc4 := Lib.hid (fun W (hb : Below w.heap.size w W) => (routesEq_any a.A4 a'.A4 a.n4 a'.n4 a.c4 a'.c4 rs rs' W _ _ (h.at hb).r (h'.at hb).r (Nat.le_trans hf.n4 (by decide)) (Nat.le_trans hf'.n4 (by decide))).drawnV)
  generalize sm13 a ss ls bs rs a' ss' ls' bs' rs' = Z at *
  generalize decide (ss.map sgK = ss'.map sgK) = E1 at *
  generalize decide (ls = ls') = E2 at *
  generalize decide (bs = bs') = E3 at *
  generalize decide (rs = rs') = E4 at *
  obtain ⟨k, p, N, M, A1, n1, c1, A2, n2, c2, A3, n3, c3, f, A4, n4, c4⟩ := a
  obtain ⟨kz, pz, Nz, Mz, A1z, n1z, c1z, A2z, n2z, c2z, A3z, n3z, c3z, fz, A4z, n4z, c4z⟩ := a'
  unfold atc at *
  dsimp only at *
  clear h h' hf hf'
  obtain ⟨x0, x1, x2, x3, x4, x5, x6, x7, x8⟩ := at_cells oa
  obtain ⟨y0, y1, y2, y3, y4, y5, y6, y7, y8⟩ := at_cells ob
  by_cases hk : k = kz
  · subst hk
    have hkt : (k == k) = true := by simp
    by_cases hp : p = pz
    · subst hp
      have hpt : (p == p) = true := by simp
      by_cases hN : N = Nz
      · subst hN
        have hNt : (N == N) = true := by simp
        by_cases hM : M = Mz
        · subst hM
          have hMt : (M == M) = true := by simp
          by_cases hf : f = fz
          · subst hf
            have hft : (f == f) = true := by simp
            go_enter Tryz.func18, Tryz.ntmps18
            go_wp2_with fail
            refine (hc1.out _ b1).mono ?_
            rintro e w2 ⟨rfl, hb2⟩
            have b2 := bl_trans b1 hb2
            have oa2 := oa.step hb2
            have ob2 := ob.step hb2
            clear x0 x1 x2 x3 x4 x5 x6 x7 x8 y0 y1 y2 y3 y4 y5 y6 y7 y8 oa ob b1 hb2
            obtain ⟨x0, x1, x2, x3, x4, x5, x6, x7, x8⟩ := at_cells oa2
            obtain ⟨y0, y1, y2, y3, y4, y5, y6, y7, y8⟩ := at_cells ob2
            cases E1 with
            | false =>
              have hZ : Hid (Z = false) := Lib.hid (by rw [hX.out]; simp_all)
              clear hX
              go_wp2
              go_ret
              exact ⟨by rw [hZ.out]; first | done | rfl, b2⟩
            | true =>
              go_wp2_with fail
              refine (hc2.out _ b2).mono ?_
              rintro e w3 ⟨rfl, hb3⟩
              have b3 := bl_trans b2 hb3
              have oa3 := oa2.step hb3
              have ob3 := ob2.step hb3
              clear x0 x1 x2 x3 x4 x5 x6 x7 x8 y0 y1 y2 y3 y4 y5 y6 y7 y8 oa2 ob2 b2 hb3
              obtain ⟨x0, x1, x2, x3, x4, x5, x6, x7, x8⟩ := at_cells oa3
              obtain ⟨y0, y1, y2, y3, y4, y5, y6, y7, y8⟩ := at_cells ob3
              cases E2 with
              | false =>
                have hZ : Hid (Z = false) := Lib.hid (by rw [hX.out]; simp_all)
                clear hX
                go_wp2
                go_ret
                exact ⟨by rw [hZ.out]; first | done | rfl, b3⟩
              | true =>
                go_wp2_with fail
                refine (hc3.out _ b3).mono ?_
                rintro e w4 ⟨rfl, hb4⟩
                have b4 := bl_trans b3 hb4
                have oa4 := oa3.step hb4
                have ob4 := ob3.step hb4
                clear x0 x1 x2 x3 x4 x5 x6 x7 x8 y0 y1 y2 y3 y4 y5 y6 y7 y8 oa3 ob3 b3 hb4
                obtain ⟨x0, x1, x2, x3, x4, x5, x6, x7, x8⟩ := at_cells oa4
                obtain ⟨y0, y1, y2, y3, y4, y5, y6, y7, y8⟩ := at_cells ob4
                cases E3 with
                | false =>
                  have hZ : Hid (Z = false) := Lib.hid (by rw [hX.out]; simp_all)
                  clear hX
                  go_wp2
                  go_ret
                  exact ⟨by rw [hZ.out]; first | done | rfl, b4⟩
                | true =>
                  go_wp2_with fail
                  refine (hc4.out _ b4).mono ?_
                  rintro e w5 ⟨rfl, hb5⟩
                  have b5 := bl_trans b4 hb5
                  have oa5 := oa4.step hb5
                  have ob5 := ob4.step hb5
                  clear x0 x1 x2 x3 x4 x5 x6 x7 x8 y0 y1 y2 y3 y4 y5 y6 y7 y8 oa4 ob4 b4 hb5
                  obtain ⟨x0, x1, x2, x3, x4, x5, x6, x7, x8⟩ := at_cells oa5
                  obtain ⟨y0, y1, y2, y3, y4, y5, y6, y7, y8⟩ := at_cells ob5
                  cases E4 with
                  | false =>
                    have hZ : Hid (Z = false) := Lib.hid (by rw [hX.out]; simp_all)
                    clear hX
                    go_wp2
                    go_ret
                    exact ⟨by rw [hZ.out]; first | done | rfl, b5⟩
                  | true =>
                    have hZ : Hid (Z = true) := Lib.hid (by rw [hX.out]; simp_all)
                    clear hX
                    go_wp2
                    go_ret
                    exact ⟨by rw [hZ.out]; first | done | rfl, b5⟩
          · have hft : (f == fz) = false := by simpa using hf
            clear hf
            go_enter Tryz.func18, Tryz.ntmps18
            have hZ : Hid (Z = false) := Lib.hid (by rw [hX.out]; simp_all)
            clear hX
            go_wp2
            go_ret
            exact ⟨by rw [hZ.out]; first | done | rfl, b1⟩
        · have hMt : (M == Mz) = false := by simpa using hM
          clear hM
          go_enter Tryz.func18, Tryz.ntmps18
          have hZ : Hid (Z = false) := Lib.hid (by rw [hX.out]; simp_all)
          clear hX
          go_wp2
          go_ret
          exact ⟨by rw [hZ.out]; first | done | rfl, b1⟩
      · have hNt : (N == Nz) = false := by simpa using hN
        clear hN
        go_enter Tryz.func18, Tryz.ntmps18
        have hZ : Hid (Z = false) := Lib.hid (by rw [hX.out]; simp_all)
        clear hX
        go_wp2
        go_ret
        exact ⟨by rw [hZ.out]; first | done | rfl, b1⟩
    · have hpt : (p == pz) = false := by simpa using hp
      clear hp
      go_enter Tryz.func18, Tryz.ntmps18
      have hZ : Hid (Z = false) := Lib.hid (by rw [hX.out]; simp_all)
      clear hX
      go_wp2
      go_ret
      exact ⟨by rw [hZ.out]; first | done | rfl, b1⟩
  · have hkt : (k == kz) = false := by simpa using hk
    clear hk
    go_enter Tryz.func18, Tryz.ntmps18
    have hZ : Hid (Z = false) := Lib.hid (by rw [hX.out]; simp_all)
    clear hX
    go_wp2
    go_ret
    exact ⟨by rw [hZ.out]; first | done | rfl, b1⟩
set_option maxRecDepth 100000 in
set_option maxHeartbeats 3200000 in
theorem rvsame13_any (a a' : At) (ss ss' : List Sg) (ls bs ls' bs' : List Int) (rs rs' : List Rt) (w : World) (h : AtC w w.heap.size a ss ls bs rs) (h' : AtC w w.heap.size a' ss' ls' bs' rs') (hf : AtF a ss) (hf' : AtF a' ss') :
    Calls Tryz.prog 15 #[.agg (atc a), .agg (atc a')] w fun e w' => e = .returned (.bool (sm13 a ss ls bs rs a' ss' ls' bs' rs')) ∧ Below w.heap.size w w' := by
  have b1 := bl_alloc (bl_alloc (bl_refl w) (.cells (atc a) 37)) (.cells (atc a') 37)
  have oa := (Own.new w 37 (atc a)).alloc (.cells (atc a') 37)
  have ob := Own.new (w.alloc (.cells (atc a) 37)) 37 (atc a')
  rw [show (w.alloc (.cells (atc a) 37)).heap.size = w.heap.size + 1 by simp] at ob
  have hX : Hid (sm13 a ss ls bs rs a' ss' ls' bs' rs' = ((a.k == a'.k) && ((a.p == a'.p) && ((a.N == a'.N) && ((a.M == a'.M) && ((a.f == a'.f) && (decide (ss.map sgK = ss'.map sgK) && (decide (ls = ls') && (decide (bs = bs') && decide (rs = rs')))))))))) := Lib.hid rfl
  have hc1 := Lib.hid (fun W (hb : Below w.heap.size w W) => (rsameS_any a.A1 a'.A1 a.n1 a'.n1 a.c1 a'.c1 ss ss' W _ _ (h.at hb).s (h'.at hb).s hf.n1 hf'.n1 hf.s hf'.s).drawnV)
  have hc2 := Lib.hid (fun W (hb : Below w.heap.size w W) => (rnums13_any a.A2 a'.A2 a.n2 a'.n2 a.c2 a'.c2 ls ls' W _ _ (h.at hb).l (h'.at hb).l (Nat.le_trans hf.n2 (by decide)) (Nat.le_trans hf'.n2 (by decide))).drawnV)
  have hc3 := Lib.hid (fun W (hb : Below w.heap.size w W) => (rsame1_anyV a.A3 a'.A3 a.n3 a'.n3 a.c3 a'.c3 bs bs' W _ _ (h.at hb).b (h'.at hb).b).sameV)
  have hc4 := Lib.hid (fun W (hb : Below w.heap.size w W) => (rsame3_any a.A4 a'.A4 a.n4 a'.n4 a.c4 a'.c4 rs rs' W _ _ (h.at hb).r (h'.at hb).r (Nat.le_trans hf.n4 (by decide)) (Nat.le_trans hf'.n4 (by decide))).drawnV)
  generalize sm13 a ss ls bs rs a' ss' ls' bs' rs' = Z at *
  generalize decide (ss.map sgK = ss'.map sgK) = E1 at *
  generalize decide (ls = ls') = E2 at *
  generalize decide (bs = bs') = E3 at *
  generalize decide (rs = rs') = E4 at *
  obtain ⟨k, p, N, M, A1, n1, c1, A2, n2, c2, A3, n3, c3, f, A4, n4, c4⟩ := a
  obtain ⟨kz, pz, Nz, Mz, A1z, n1z, c1z, A2z, n2z, c2z, A3z, n3z, c3z, fz, A4z, n4z, c4z⟩ := a'
  unfold atc at *
  dsimp only at *
  clear h h' hf hf'
  obtain ⟨x0, x1, x2, x3, x4, x5, x6, x7, x8⟩ := at_cells oa
  obtain ⟨y0, y1, y2, y3, y4, y5, y6, y7, y8⟩ := at_cells ob
  by_cases hk : k = kz
  · subst hk
    have hkt : (k == k) = true := by simp
    by_cases hp : p = pz
    · subst hp
      have hpt : (p == p) = true := by simp
      by_cases hN : N = Nz
      · subst hN
        have hNt : (N == N) = true := by simp
        by_cases hM : M = Mz
        · subst hM
          have hMt : (M == M) = true := by simp
          by_cases hf : f = fz
          · subst hf
            have hft : (f == f) = true := by simp
            go_enter Tryz.func15, Tryz.ntmps15
            go_wp2_with fail
            refine (hc1.out _ b1).mono ?_
            rintro e w2 ⟨rfl, hb2⟩
            have b2 := bl_trans b1 hb2
            have oa2 := oa.step hb2
            have ob2 := ob.step hb2
            clear x0 x1 x2 x3 x4 x5 x6 x7 x8 y0 y1 y2 y3 y4 y5 y6 y7 y8 oa ob b1 hb2
            obtain ⟨x0, x1, x2, x3, x4, x5, x6, x7, x8⟩ := at_cells oa2
            obtain ⟨y0, y1, y2, y3, y4, y5, y6, y7, y8⟩ := at_cells ob2
            cases E1 with
            | false =>
              have hZ : Hid (Z = false) := Lib.hid (by rw [hX.out]; simp_all)
              clear hX
              go_wp2
              go_ret
              exact ⟨by rw [hZ.out]; first | done | rfl, b2⟩
            | true =>
              go_wp2_with fail
              refine (hc2.out _ b2).mono ?_
              rintro e w3 ⟨rfl, hb3⟩
              have b3 := bl_trans b2 hb3
              have oa3 := oa2.step hb3
              have ob3 := ob2.step hb3
              clear x0 x1 x2 x3 x4 x5 x6 x7 x8 y0 y1 y2 y3 y4 y5 y6 y7 y8 oa2 ob2 b2 hb3
              obtain ⟨x0, x1, x2, x3, x4, x5, x6, x7, x8⟩ := at_cells oa3
              obtain ⟨y0, y1, y2, y3, y4, y5, y6, y7, y8⟩ := at_cells ob3
              cases E2 with
              | false =>
                have hZ : Hid (Z = false) := Lib.hid (by rw [hX.out]; simp_all)
                clear hX
                go_wp2
                go_ret
                exact ⟨by rw [hZ.out]; first | done | rfl, b3⟩
              | true =>
                go_wp2_with fail
                refine (hc3.out _ b3).mono ?_
                rintro e w4 ⟨rfl, hb4⟩
                have b4 := bl_trans b3 hb4
                have oa4 := oa3.step hb4
                have ob4 := ob3.step hb4
                clear x0 x1 x2 x3 x4 x5 x6 x7 x8 y0 y1 y2 y3 y4 y5 y6 y7 y8 oa3 ob3 b3 hb4
                obtain ⟨x0, x1, x2, x3, x4, x5, x6, x7, x8⟩ := at_cells oa4
                obtain ⟨y0, y1, y2, y3, y4, y5, y6, y7, y8⟩ := at_cells ob4
                cases E3 with
                | false =>
                  have hZ : Hid (Z = false) := Lib.hid (by rw [hX.out]; simp_all)
                  clear hX
                  go_wp2
                  go_ret
                  exact ⟨by rw [hZ.out]; first | done | rfl, b4⟩
                | true =>
                  go_wp2_with fail
                  refine (hc4.out _ b4).mono ?_
                  rintro e w5 ⟨rfl, hb5⟩
                  have b5 := bl_trans b4 hb5
                  have oa5 := oa4.step hb5
                  have ob5 := ob4.step hb5
                  clear x0 x1 x2 x3 x4 x5 x6 x7 x8 y0 y1 y2 y3 y4 y5 y6 y7 y8 oa4 ob4 b4 hb5
                  obtain ⟨x0, x1, x2, x3, x4, x5, x6, x7, x8⟩ := at_cells oa5
                  obtain ⟨y0, y1, y2, y3, y4, y5, y6, y7, y8⟩ := at_cells ob5
                  cases E4 with
                  | false =>
                    have hZ : Hid (Z = false) := Lib.hid (by rw [hX.out]; simp_all)
                    clear hX
                    go_wp2
                    go_ret
                    exact ⟨by rw [hZ.out]; first | done | rfl, b5⟩
                  | true =>
                    have hZ : Hid (Z = true) := Lib.hid (by rw [hX.out]; simp_all)
                    clear hX
                    go_wp2
                    go_ret
                    exact ⟨by rw [hZ.out]; first | done | rfl, b5⟩
          · have hft : (f == fz) = false := by simpa using hf
            clear hf
            go_enter Tryz.func15, Tryz.ntmps15
            have hZ : Hid (Z = false) := Lib.hid (by rw [hX.out]; simp_all)
            clear hX
            go_wp2
            go_ret
            exact ⟨by rw [hZ.out]; first | done | rfl, b1⟩
        · have hMt : (M == Mz) = false := by simpa using hM
          clear hM
          go_enter Tryz.func15, Tryz.ntmps15
          have hZ : Hid (Z = false) := Lib.hid (by rw [hX.out]; simp_all)
          clear hX
          go_wp2
          go_ret
          exact ⟨by rw [hZ.out]; first | done | rfl, b1⟩
      · have hNt : (N == Nz) = false := by simpa using hN
        clear hN
        go_enter Tryz.func15, Tryz.ntmps15
        have hZ : Hid (Z = false) := Lib.hid (by rw [hX.out]; simp_all)
        clear hX
        go_wp2
        go_ret
        exact ⟨by rw [hZ.out]; first | done | rfl, b1⟩
    · have hpt : (p == pz) = false := by simpa using hp
      clear hp
      go_enter Tryz.func15, Tryz.ntmps15
      have hZ : Hid (Z = false) := Lib.hid (by rw [hX.out]; simp_all)
      clear hX
      go_wp2
      go_ret
      exact ⟨by rw [hZ.out]; first | done | rfl, b1⟩
  · have hkt : (k == kz) = false := by simpa using hk
    clear hk
    go_enter Tryz.func15, Tryz.ntmps15
    have hZ : Hid (Z = false) := Lib.hid (by rw [hX.out]; simp_all)
    clear hX
    go_wp2
    go_ret
    exact ⟨by rw [hZ.out]; first | done | rfl, b1⟩
end Go.Proofs.YtmcnpkfeipelgaaGreatDoor

/- value.copied at its four types (written by gen/vca.py) -/
namespace Go.Proofs.YtmcnpkfeipelgaaGreatDoor
open Go.RowKit Go.Sort

set_option maxRecDepth 100000 in
theorem sl_u32V : SliceOf Tryz.prog 34 32 1 4 := SliceOf.mk Tryz.underlying34 (z := .int .u32 0) (by kernel_rfl) rfl (by decide)
set_option maxRecDepth 100000 in
theorem sl_routesV : SliceOf Tryz.prog 35 56 19 40 := SliceOf.mk Tryz.underlying35 (z := .agg #[.int .u32 0, .int .i64 0, .int .i64 0, .int .u8 0, .int .u8 0, .int .u8 0, .int .u8 0, .int .u8 0, .int .u8 0, .int .u8 0, .int .u8 0, .int .u8 0, .int .u8 0, .int .u8 0, .int .u8 0, .int .u8 0, .int .u8 0, .int .u8 0, .int .u8 0]) (by kernel_rfl) rfl (by decide)
set_option maxRecDepth 100000 in
theorem copS_any (A : Option Addr) (n c : Nat) (F : List Value) (w : World) (hlen : F.length = n * 2) (hs : Shows w w.heap.size A F) (h1c : ∀ u ∈ F, u.oneCell' = true) (hn : n ≤ 1000000) :
    Calls Tryz.prog 44 #[.slice A n c] w fun e w' => ∃ v, e = .returned v ∧ w'.ownsRow w.heap.size 51 2 v n F ∧ Below w.heap.size w w' := by
  go_enter Tryz.func44, Tryz.ntmps44
  go_wp2_with (at_builtin; refine wpList_append_grow _ rfl _ _ rfl sl_segs w.heap.size _ 0 [] rfl (World.ownsRow_nil _ _ _ _) w.heap.size A n c F rfl hlen hs h1c (by unfold maxLen; omega) (by omega) (by simp) ?_; intro v3 w3 ho3 hg3; rw [Nat.zero_add, List.nil_append] at ho3; have hb3 := (bl_refl w).grown hg3 (by simp) (fun k hk => by cases hk))
  go_ret
  exact ⟨_, rfl, ho3, hb3⟩
set_option maxRecDepth 100000 in
theorem copU_any (A : Option Addr) (n c : Nat) (F : List Value) (w : World) (hlen : F.length = n * 1) (hs : Shows w w.heap.size A F) (h1c : ∀ u ∈ F, u.oneCell' = true) (hn : n ≤ 1000000) :
    Calls Tryz.prog 45 #[.slice A n c] w fun e w' => ∃ v, e = .returned v ∧ w'.ownsRow w.heap.size 32 1 v n F ∧ Below w.heap.size w w' := by
  go_enter Tryz.func45, Tryz.ntmps45
  go_wp2_with (at_builtin; refine wpList_append_grow _ rfl _ _ rfl sl_u32V w.heap.size _ 0 [] rfl (World.ownsRow_nil _ _ _ _) w.heap.size A n c F rfl hlen hs h1c (by unfold maxLen; omega) (by omega) (by simp) ?_; intro v3 w3 ho3 hg3; rw [Nat.zero_add, List.nil_append] at ho3; have hb3 := (bl_refl w).grown hg3 (by simp) (fun k hk => by cases hk))
  go_ret
  exact ⟨_, rfl, ho3, hb3⟩
set_option maxRecDepth 100000 in
theorem copB_any (A : Option Addr) (n c : Nat) (F : List Value) (w : World) (hlen : F.length = n * 1) (hs : Shows w w.heap.size A F) (h1c : ∀ u ∈ F, u.oneCell' = true) (hn : n ≤ 1000000) :
    Calls Tryz.prog 46 #[.slice A n c] w fun e w' => ∃ v, e = .returned v ∧ w'.ownsRow w.heap.size 5 1 v n F ∧ Below w.heap.size w w' := by
  go_enter Tryz.func46, Tryz.ntmps46
  go_wp2_with (at_builtin; refine wpList_append_grow _ rfl _ _ rfl sl_bytes w.heap.size _ 0 [] rfl (World.ownsRow_nil _ _ _ _) w.heap.size A n c F rfl hlen hs h1c (by unfold maxLen; omega) (by omega) (by simp) ?_; intro v3 w3 ho3 hg3; rw [Nat.zero_add, List.nil_append] at ho3; have hb3 := (bl_refl w).grown hg3 (by simp) (fun k hk => by cases hk))
  go_ret
  exact ⟨_, rfl, ho3, hb3⟩
set_option maxRecDepth 100000 in
theorem copR_any (A : Option Addr) (n c : Nat) (F : List Value) (w : World) (hlen : F.length = n * 19) (hs : Shows w w.heap.size A F) (h1c : ∀ u ∈ F, u.oneCell' = true) (hn : n ≤ 1000000) :
    Calls Tryz.prog 47 #[.slice A n c] w fun e w' => ∃ v, e = .returned v ∧ w'.ownsRow w.heap.size 56 19 v n F ∧ Below w.heap.size w w' := by
  go_enter Tryz.func47, Tryz.ntmps47
  go_wp2_with (at_builtin; refine wpList_append_grow _ rfl _ _ rfl sl_routesV w.heap.size _ 0 [] rfl (World.ownsRow_nil _ _ _ _) w.heap.size A n c F rfl hlen hs h1c (by unfold maxLen; omega) (by omega) (by simp) ?_; intro v3 w3 ho3 hg3; rw [Nat.zero_add, List.nil_append] at ho3; have hb3 := (bl_refl w).grown hg3 (by simp) (fun k hk => by cases hk))
  go_ret
  exact ⟨_, rfl, ho3, hb3⟩
end Go.Proofs.YtmcnpkfeipelgaaGreatDoor

/- what a copy of an attribute holds: rows of its own -/
namespace Go.Proofs.YtmcnpkfeipelgaaGreatDoor
open Go.RowKit Go.Sort

def flatS (ss : List Sg) : List Value := ss.flatMap fun s => [.int .i64 s.k, .slice s.A s.n s.c]
theorem flatS_len (ss : List Sg) : (flatS ss).length = ss.length * 2 := by
  induction ss with
  | nil => rfl
  | cons s t ih => show (Value.int .i64 s.k :: Value.slice s.A s.n s.c :: flatS t).length = _; simp [ih]; omega
theorem flatS_one (ss : List Sg) : ∀ u ∈ flatS ss, u.oneCell' = true := by
  intro u hu
  obtain ⟨s, _, h⟩ := List.mem_flatMap.1 hu
  simp at h
  rcases h with rfl | rfl <;> rfl
theorem flatS_at (ss : List Sg) (i : Nat) (s : Sg) (h : ss[i]? = some s) : (flatS ss)[i * 2]? = some (.int .i64 s.k) ∧ (flatS ss)[i * 2 + 1]? = some (.slice s.A s.n s.c) := by
  induction ss generalizing i with
  | nil => simp at h
  | cons x t ih =>
    match i, h with
    | 0, h => simp at h; subst h; exact ⟨rfl, rfl⟩
    | i + 1, h =>
      have h2 := ih i (by simpa using h)
      show (Value.int .i64 x.k :: Value.slice x.A x.n x.c :: flatS t)[(i + 1) * 2]? = _ ∧ (Value.int .i64 x.k :: Value.slice x.A x.n x.c :: flatS t)[(i + 1) * 2 + 1]? = _
      rw [show (i + 1) * 2 = i * 2 + 1 + 1 by omega]
      simpa using h2
theorem flatS_set (ss : List Sg) (i : Nat) (s : Sg) (A : Option Addr) (c : Nat) (h : ss[i]? = some s) : flatS (ss.set i { s with A := A, c := c }) = (flatS ss).set (i * 2 + 1) (.slice A s.n c) := by
  induction ss generalizing i with
  | nil => simp at h
  | cons x t ih =>
    match i, h with
    | 0, h => simp at h; subst h; rfl
    | i + 1, h =>
      have h2 := ih i (by simpa using h)
      show Value.int .i64 x.k :: Value.slice x.A x.n x.c :: flatS (t.set i _) = _
      rw [h2, show (i + 1) * 2 + 1 = (i * 2 + 1) + 1 + 1 by omega]
      rfl
theorem Segs.showsV {w : World} {B : Nat} {A : Option Addr} {n : Nat} {ss : List Sg} (h : Segs w B A n ss) : Shows w B A (flatS ss) := by
  rcases h.2.2 with h0 | ⟨b, o, hA, hb, hc⟩
  · left; rw [h0]; rfl
  · refine .inr ⟨b, o, hA, hb, fun j v hv => ?_⟩
    have hl : j < (flatS ss).length := (List.getElem?_eq_some_iff.1 hv).1
    rw [flatS_len] at hl
    have hs := sgth_some (ss := ss) (k := j / 2) (by omega)
    have f := flatS_at ss (j / 2) _ hs
    have c := hc (j / 2) _ hs
    rcases Nat.mod_two_eq_zero_or_one j with e | e
    · have ej : j = j / 2 * 2 := by omega
      rw [ej] at hv ⊢
      rw [f.1] at hv
      injection hv with hv
      rw [← hv]
      exact c.1
    · have ej : j = j / 2 * 2 + 1 := by omega
      rw [ej] at hv ⊢
      rw [f.2] at hv
      injection hv with hv
      rw [← hv, ← Nat.add_assoc]
      exact c.2
theorem own_setV {W : World} {base : Nat} {T : TypeId} {size n c g : Nat} {xs : List Value} (h : W.ownsRow base T size (.slice (some ⟨g, 0, none⟩) n c) n xs) (i : Nat) (u : Value) :
    (W.setCell ⟨g, i, none⟩ u).ownsRow base T size (.slice (some ⟨g, 0, none⟩) n c) n (xs.set i u) := by
  refine ⟨by rw [List.length_set]; exact h.1, ?_⟩
  rcases h.2 with ⟨h0, _⟩ | ⟨g', cap, cur, h1, h2, h3, h4, h5, h6, h7⟩
  · cases h0
  · cases h1
    refine .inr ⟨g, c, cur.setIfInBounds i u, rfl, h2, ?_, h4, h5, by simpa using h6, ?_⟩
    · exact Own.set_ (show Own W g T cur from h3) i u
    · rw [Array.toList_setIfInBounds, List.take_set, h7]
theorem own_farV {W : World} {base : Nat} {T U : TypeId} {size n c g : Nat} {A : Option Addr} {xs : List Value} {cur : Array Value} (h : W.ownsRow base T size (.slice A n c) n xs) (k : Own W g U cur) (hne : T ≠ U) (i : Nat) (u : Value) :
    (W.setCell ⟨g, i, none⟩ u).ownsRow base T size (.slice A n c) n xs := by
  refine ⟨h.1, ?_⟩
  rcases h.2 with h0 | ⟨g', cap, cur', h1, h2, h3, h4⟩
  · exact .inl h0
  · refine .inr ⟨g', cap, cur', h1, h2, ?_, h4⟩
    have hg : g' ≠ g := by
      rintro rfl
      have e := h3.symm.trans k
      injection e with e
      injection e with e1 e2 e3
      exact hne e2
    exact Own.far (show Own W g' T cur' from h3) (p := ⟨g, i, none⟩) hg u
theorem flatR_len {rs : List Rt} (h : ∀ r ∈ rs, r.Ok) : (flatR rs).length = rs.length * 19 := by
  induction rs with
  | nil => rfl
  | cons r rs ih =>
    have h1 : (rt r).toList.length = 19 := by rw [Array.length_toList, rt_size (h r (List.mem_cons_self ..)).1.1]
    have h2 := ih (fun q hq => h q (List.mem_cons_of_mem _ hq))
    have e : flatR (r :: rs) = (rt r).toList ++ flatR rs := by simp [flatR]
    rw [e, List.length_append, h1, h2, List.length_cons]; omega
theorem flatR_one (rs : List Rt) : ∀ u ∈ flatR rs, u.oneCell' = true := by
  intro u hu
  obtain ⟨r, _, hr⟩ := List.mem_flatMap.1 hu
  exact rt_one_mem u hr
theorem flatR_at {rs : List Rt} (h : ∀ r ∈ rs, r.Ok) {j : Nat} {v : Value} (hv : (flatR rs)[j]? = some v) : ∃ r, rs[j / 19]? = some r ∧ (rt r).toList[j % 19]? = some v := by
  have hj := (List.getElem?_eq_some_iff.1 hv).1
  rw [flatR_len h] at hj
  have hi : j / 19 < rs.length := by omega
  have hr := nthR_some hi
  have hok := h _ (nthR_mem hi)
  have hl : j % 19 < (rt (nthR rs (j / 19))).toList.length := by rw [Array.length_toList, rt_size hok.1.1]; omega
  refine ⟨_, hr, ?_⟩
  have h3 := flatR_get h (j / 19) _ hr (j % 19) _ (List.getElem?_eq_getElem hl)
  rw [show j / 19 * 19 + j % 19 = j by omega, hv] at h3
  rw [List.getElem?_eq_getElem hl, h3]
theorem Routes.shows {w : World} {B : Nat} {A : Option Addr} {n : Nat} {rs : List Rt} (h : Routes w B A n rs) : Shows w B A (flatR rs) := by
  obtain ⟨hn, ho, h0 | ⟨b, o, hA, hb, hc⟩⟩ := h
  · subst h0; exact .inl rfl
  · refine .inr ⟨b, o, hA, hb, fun j v hv => ?_⟩
    obtain ⟨r, hr, hrv⟩ := flatR_at ho hv
    have := hc _ _ hr _ _ hrv
    rw [show o + j / 19 * 19 + j % 19 = o + j by omega] at this
    exact this

/-- All that a copy holds lies in rows of its own. -/
structure Mine (base : Nat) (W : World) (a : At) (tt : List Sg) (ls bs : List Int) (rs : List Rt) : Prop where
  s : W.ownsRow base 51 2 (.slice a.A1 a.n1 a.c1) a.n1 (flatS tt)
  x : ∀ s ∈ tt, W.ownsRow base 32 1 (.slice s.A s.n s.c) s.n (s.xs.map (Value.int .u32))
  l : W.ownsRow base 32 1 (.slice a.A2 a.n2 a.c2) a.n2 (ls.map (Value.int .u32))
  b : W.ownsRow base 5 1 (.slice a.A3 a.n3 a.c3) a.n3 (bs.map (Value.int .u8))
  r : W.ownsRow base 56 19 (.slice a.A4 a.n4 a.c4) a.n4 (flatR rs)
theorem own_stepV {W W' : World} {base : Nat} {T : TypeId} {size n : Nat} {v : Value} {xs : List Value} (h : W.ownsRow base T size v n xs) (hb : Below W.heap.size W W') : W'.ownsRow base T size v n xs := by
  refine ⟨h.1, ?_⟩
  rcases h.2 with h0 | ⟨g', cap, cur', h1, h2, h3, h4⟩
  · exact .inl h0
  · exact .inr ⟨g', cap, cur', h1, h2, Own.step (show Own W g' T cur' from h3) hb, h4⟩
theorem own_baseV {W : World} {base base' : Nat} {T : TypeId} {size n : Nat} {v : Value} {xs : List Value} (h : W.ownsRow base T size v n xs) (hb : base' ≤ base) : W.ownsRow base' T size v n xs := by
  refine ⟨h.1, ?_⟩
  rcases h.2 with h0 | ⟨g', cap, cur', h1, h2, h4⟩
  · exact .inl h0
  · exact .inr ⟨g', cap, cur', h1, by omega, h4⟩
theorem own_capV {W : World} {base : Nat} {T : TypeId} {size n c : Nat} {A : Option Addr} {xs : List Value} (h : W.ownsRow base T size (.slice A n c) n xs) : n ≤ c ∧ c ≤ maxLen := by
  rcases h.2 with ⟨h0, rfl⟩ | ⟨g', cap, cur', h1, h2, h3, h4, h5, _⟩
  · cases h0; exact ⟨Nat.le_refl _, Nat.zero_le _⟩
  · cases h1; exact ⟨h4, h5⟩
theorem segs_ownV {W : World} {base : Nat} {A : Option Addr} {n c : Nat} {tt : List Sg} (h : W.ownsRow base 51 2 (.slice A n c) n (flatS tt)) (hx : ∀ s ∈ tt, W.ownsRow base 32 1 (.slice s.A s.n s.c) s.n (s.xs.map (Value.int .u32))) (hk : ∀ s ∈ tt, (Lit.int .i64 s.k).wf = true ∧ ∀ x ∈ s.xs, 0 ≤ x ∧ x < 4294967296) : Segs W W.heap.size A n tt := by
  have hl := h.1
  rw [flatS_len] at hl
  refine ⟨by omega, fun s hs => ?_, ?_⟩
  · have c2 := own_capV (hx s hs)
    have l2 := (hx s hs).1
    rw [List.length_map] at l2
    exact ⟨c2.1, c2.2, (hk s hs).1, (hk s hs).2, by omega, Shows.of_own (hx s hs)⟩
  · rcases tt with _ | ⟨s0, t⟩
    · exact .inl rfl
    · right
      rcases Shows.of_own h with h0 | ⟨b, o, hA, hb, hc⟩
      · have := flatS_len (s0 :: t); rw [h0] at this; simp at this
      · exact ⟨b, o, hA, hb, fun i s hi => by
          have f := flatS_at _ i s hi
          exact ⟨hc _ _ f.1, by rw [Nat.add_assoc]; exact hc _ _ f.2⟩⟩
theorem Mine.atC {base : Nat} {W : World} {a : At} {tt : List Sg} {ls bs : List Int} {rs : List Rt} (h : Mine base W a tt ls bs rs) (hk : ∀ s ∈ tt, (Lit.int .i64 s.k).wf = true ∧ ∀ x ∈ s.xs, 0 ≤ x ∧ x < 4294967296) (hb : ∀ x ∈ bs, 0 ≤ x ∧ x ≤ 255) (hr : ∀ r ∈ rs, r.Ok) : AtC W W.heap.size a tt ls bs rs := by
  have l2 := h.l.1
  have l3 := h.b.1
  have l4 := h.r.1
  rw [List.length_map] at l2 l3
  rw [flatR_len hr] at l4
  refine ⟨segs_ownV h.s h.x hk, ⟨by omega, Shows.of_own h.l⟩, ⟨by omega, hb, Shows.of_own h.b⟩, ?_⟩
  obtain ⟨A', c', e, _, hR⟩ := own_routes h.r hr (by omega)
  cases e
  exact hR
end Go.Proofs.YtmcnpkfeipelgaaGreatDoor

/- value.Clone (written by gen/vcc.py) -/
namespace Go.Proofs.YtmcnpkfeipelgaaGreatDoor
open Go.RowKit Go.Sort

/-- The segments, the first j of them with numbers of their own. -/
structure Tw (base : Nat) (W : World) (j : Nat) (tt ss : List Sg) : Prop where
  e : tt.map sgK = ss.map sgK
  x : ∀ i s, tt[i]? = some s → i < j → W.ownsRow base 32 1 (.slice s.A s.n s.c) s.n (s.xs.map (Value.int .u32))
  o : ∀ i s, tt[i]? = some s → j ≤ i → ss[i]? = some s
theorem Tw.start (base : Nat) (W : World) (ss : List Sg) : Tw base W 0 ss ss := ⟨rfl, fun _ _ _ h => absurd h (Nat.not_lt_zero _), fun _ _ h _ => h⟩
theorem Tw.len {base : Nat} {W : World} {j : Nat} {tt ss : List Sg} (h : Tw base W j tt ss) : tt.length = ss.length := by
  have := congrArg List.length h.e
  simpa using this
theorem Tw.step {base : Nat} {W W' : World} {j : Nat} {tt ss : List Sg} (h : Tw base W j tt ss) (hb : Below W.heap.size W W') : Tw base W' j tt ss := ⟨h.e, fun i s hi hj => own_stepV (h.x i s hi hj) hb, h.o⟩
theorem Tw.next {base : Nat} {W : World} {j : Nat} {tt ss : List Sg} {s : Sg} {A : Option Addr} {c g i0 : Nat} {cur : Array Value} {u : Value} (h : Tw base W j tt ss) (hj : tt[j]? = some s) (k : Own W g 51 cur)
    (hx : W.ownsRow base 32 1 (.slice A s.n c) s.n (s.xs.map (Value.int .u32))) : Tw base (W.setCell ⟨g, i0, none⟩ u) (j + 1) (tt.set j { s with A := A, c := c }) ss := by
  have hne : (32 : TypeId) ≠ 51 := by decide
  refine ⟨?_, fun i t hi hlt => ?_, fun i t hi hle => ?_⟩
  · rw [← h.e, List.map_set]
    apply List.ext_getElem?
    intro i
    rw [List.getElem?_set]
    split
    · rename_i e
      subst e
      split
      · rw [List.getElem?_map, hj]; rfl
      · rename_i hl; exact absurd (by rw [List.length_map]; exact (List.getElem?_eq_some_iff.1 hj).1) hl
    · rfl
  · rw [List.getElem?_set] at hi
    split at hi
    · split at hi
      · injection hi with hi
        subst hi
        exact own_farV hx k hne _ _
      · cases hi
    · exact own_farV (h.x i t hi (by omega)) k hne _ _
  · rw [List.getElem?_set] at hi
    split at hi
    · omega
    · exact h.o i t hi (by omega)
theorem own_sliceV {W : World} {base : Nat} {T : TypeId} {size n : Nat} {v : Value} {xs : List Value} (h : W.ownsRow base T size v n xs) : ∃ A c, v = .slice A n c ∧ W.ownsRow base T size (.slice A n c) n xs := by
  obtain ⟨A, c, e, _, _⟩ := own_val h
  exact ⟨A, c, e, e ▸ h⟩
theorem u32_one (xs : List Int) : ∀ u ∈ xs.map (Value.int .u32), u.oneCell' = true := by
  intro u hu
  obtain ⟨x, _, rfl⟩ := List.mem_map.1 hu
  rfl
theorem u8_one (xs : List Int) : ∀ u ∈ xs.map (Value.int .u8), u.oneCell' = true := by
  intro u hu
  obtain ⟨x, _, rfl⟩ := List.mem_map.1 hu
  rfl
theorem own_cellV {W : World} {base : Nat} {T : TypeId} {size n c g : Nat} {xs : List Value} (h : W.ownsRow base T size (.slice (some ⟨g, 0, none⟩) n c) n xs) : base ≤ g ∧ (∃ cur, Own W g T cur) ∧ (∀ i, W.frozen? ⟨g, i, none⟩ = false) ∧ ∀ (i : Nat) (v : Value), xs[i]? = some v → W.cell? ⟨g, i, none⟩ = some v := by
  rcases h.2 with ⟨h0, _⟩ | ⟨g', cap, cur, h1, h2, h3, h4, h5, h6, h7⟩
  · cases h0
  · cases h1
    have ho : Own W g T cur := h3
    refine ⟨h2, ⟨cur, ho⟩, fun i => ho.frozen i, fun i v hv => ho.cell ?_⟩
    rw [← h7] at hv
    have := (List.getElem?_eq_some_iff.1 hv).1
    rw [List.length_take] at this
    rw [List.getElem?_take_of_lt (by omega)] at hv
    rw [← Array.getElem?_toList]
    exact hv
theorem own_someV {W : World} {base : Nat} {T : TypeId} {size n c : Nat} {A : Option Addr} {xs : List Value} (h : W.ownsRow base T size (.slice A n c) n xs) (hn : 0 < n) : ∃ g, A = some ⟨g, 0, none⟩ := by
  rcases h.2 with ⟨_, h0⟩ | ⟨g', cap, cur, h1, _⟩
  · omega
  · cases h1; exact ⟨g', rfl⟩
/-- How far the copying of the segments is. -/
def ClI (w W : World) (row : Array Value) (B1 : Option Addr) (n1 d1 j : Nat) (tt ss : List Sg) : Prop :=
  Below w.heap.size w W ∧ Own W w.heap.size 37 row ∧ Own W (w.heap.size + 1) 37 #[.int .i64 0, .bool false, .int .u32 0, .int .u32 0, .slice none 0 0, .slice none 0 0, .slice none 0 0, .int .i64 0, .slice none 0 0] ∧ W.ownsRow (w.heap.size + 1 + 1) 51 2 (.slice B1 n1 d1) n1 (flatS tt) ∧ Tw (w.heap.size + 1 + 1) W j tt ss
theorem ClI.step {w W W' : World} {row : Array Value} {B1 : Option Addr} {n1 d1 j : Nat} {tt ss : List Sg} (h : ClI w W row B1 n1 d1 j tt ss) (hb : Below W.heap.size W W') : ClI w W' row B1 n1 d1 j tt ss :=
  ⟨bl_trans h.1 hb, h.2.1.step hb, h.2.2.1.step hb, own_stepV h.2.2.2.1 hb, h.2.2.2.2.step hb⟩
theorem ClI.next {w W : World} {row : Array Value} {g n1 d1 j : Nat} {tt ss : List Sg} {s : Sg} {A : Option Addr} {c : Nat} (h : ClI w W row (some ⟨g, 0, none⟩) n1 d1 j tt ss) (hj : tt[j]? = some s)
    (hx : W.ownsRow (w.heap.size + 1 + 1) 32 1 (.slice A s.n c) s.n (s.xs.map (Value.int .u32))) : ClI w (W.setCell ⟨g, j * 2 + 1, none⟩ (.slice A s.n c)) row (some ⟨g, 0, none⟩) n1 d1 (j + 1) (tt.set j { s with A := A, c := c }) ss := by
  obtain ⟨hg, ⟨cur, ho⟩, _, _⟩ := own_cellV h.2.2.2.1
  exact ⟨bl_only h.1 (only_setCell (only_of_below (bl_refl W) _) (p := ⟨g, j * 2 + 1, none⟩) rfl _) (show w.heap.size ≤ g by omega), h.2.1.far (p := ⟨g, j * 2 + 1, none⟩) (show w.heap.size ≠ g by omega) _, h.2.2.1.far (p := ⟨g, j * 2 + 1, none⟩) (show w.heap.size + 1 ≠ g by omega) _, by rw [flatS_set _ _ _ _ _ hj]; exact own_setV h.2.2.2.1 _ _, h.2.2.2.2.next hj ho hx⟩
/-- It stays so where all blocks behind the two rows stay. -/
def KeepO (w : World) (X : World → Prop) : Prop := ∀ W W' : World, X W → W.heap.size ≤ W'.heap.size → (∀ i, w.heap.size + 1 + 1 ≤ i → i < W.heap.size → W'.heap[i]? = W.heap[i]?) → X W'
theorem KeepO.own (w : World) (T : TypeId) (size n : Nat) (v : Value) (xs : List Value) : KeepO w (fun W => W.ownsRow (w.heap.size + 1 + 1) T size v n xs) := by
  intro W W' h hs hk
  refine ⟨h.1, ?_⟩
  rcases h.2 with h0 | ⟨g', cap, cur', h1, h2, h3, h4⟩
  · exact .inl h0
  · exact .inr ⟨g', cap, cur', h1, h2, (hk g' h2 (show Own W g' T cur' from h3).lt).trans h3, h4⟩
theorem KeepO.and_ {w : World} {X Y : World → Prop} (h : KeepO w X) (k : KeepO w Y) : KeepO w (fun W => X W ∧ Y W) := fun W W' hx hs hk => ⟨h W W' hx.1 hs hk, k W W' hx.2 hs hk⟩
theorem KeepO.all {w : World} {tt : List Sg} {X : Sg → World → Prop} (h : ∀ s, KeepO w (X s)) : KeepO w (fun W => ∀ s ∈ tt, X s W) := fun W W' hx hs hk s hm => h s W W' (hx s hm) hs hk
def TlS (w W : World) (row : Array Value) (X : World → Prop) : Prop := Below w.heap.size w W ∧ Own W w.heap.size 37 row ∧ Own W (w.heap.size + 1) 37 #[.int .i64 0, .bool false, .int .u32 0, .int .u32 0, .slice none 0 0, .slice none 0 0, .slice none 0 0, .int .i64 0, .slice none 0 0] ∧ X W
theorem TlS.step {w W W' : World} {row : Array Value} {X : World → Prop} (h : TlS w W row X) (hX : KeepO w X) (hb : Below W.heap.size W W') : TlS w W' row X :=
  ⟨bl_trans h.1 hb, h.2.1.step hb, h.2.2.1.step hb, hX _ _ h.2.2.2 hb.size (fun i _ hi => hb.block i hi)⟩
theorem TlS.add {w W : World} {row : Array Value} {X Y : World → Prop} (h : TlS w W row X) (hY : Y W) : TlS w W row (fun W => X W ∧ Y W) := ⟨h.1, h.2.1, h.2.2.1, h.2.2.2, hY⟩
theorem TlS.set {w W : World} {row : Array Value} {X : World → Prop} (h : TlS w W row X) (hX : KeepO w X) (i : Nat) (u : Value) : TlS w (W.setCell ⟨w.heap.size, i, none⟩ u) (row.setIfInBounds i u) X :=
  ⟨bl_only h.1 (only_setCell (only_of_below (bl_refl W) _) (p := ⟨w.heap.size, i, none⟩) rfl u) (Nat.le_refl _), h.2.1.set_ i u, h.2.2.1.far (p := ⟨w.heap.size, i, none⟩) (show w.heap.size + 1 ≠ w.heap.size by omega) u,
   hX _ _ h.2.2.2 (by simp [World.setCell]) (fun k hk _ => Below.heap_setCell W ⟨w.heap.size, i, none⟩ u k (show k ≠ w.heap.size by omega))⟩
theorem results_cell1V {P : Program} {fn : Func} {p : Tmp} {ty : TypeId} (h : fn.results = #[.cell p ty]) (tmps : Array Value) (w : World) (g : Nat) (T : TypeId) (cs : Array Value) (d : TypeDesc)
    (hp : tmps.getD p undef = .pointer (some ⟨g, 0, none⟩)) (hg : Own w g T cs) (hu : P.underlying ty = some d) (hd : (match d with | .struct _ | .array _ _ => true | _ => false) = true) (hi : (P.info? ty).map (·.size) = some cs.size) :
    (results fn tmps).run P w = .ok (.agg cs) w := by
  have hp' : tmps[p]?.getD undef = .pointer (some ⟨g, 0, none⟩) := by simpa using hp
  simp [results, h, hp', asAddr, run_loadVar_row w g T ty cs (0, 0) d hg hu hd hi]
theorem at_oneC (k : Int) (p : Bool) (N M : Int) (A1 : Option Addr) (n1 c1 : Nat) (A2 : Option Addr) (n2 c2 : Nat) (A3 : Option Addr) (n3 c3 : Nat) (f : Int) (A4 : Option Addr) (n4 c4 : Nat) : (#[.int .i64 k, .bool p, .int .u32 N, .int .u32 M, .slice A1 n1 c1, .slice A2 n2 c2, .slice A3 n3 c3, .int .i64 f, .slice A4 n4 c4] : Array Value).all (·.oneCell') = true := by simp [Value.oneCell']
set_option maxRecDepth 100000 in
set_option maxHeartbeats 6400000 in
theorem clone13_any (a : At) (ss : List Sg) (ls bs : List Int) (rs : List Rt) (w : World) (h : AtC w w.heap.size a ss ls bs rs) (hf : AtF a ss) :
    Calls Tryz.prog 17 #[.agg (atc a)] w fun e w' => ∃ a' tt, e = .returned (.agg (atc a')) ∧ (a'.k = a.k ∧ a'.p = a.p ∧ a'.N = a.N ∧ a'.M = a.M ∧ a'.f = a.f ∧ a'.n1 = a.n1 ∧ a'.n2 = a.n2 ∧ a'.n3 = a.n3 ∧ a'.n4 = a.n4) ∧ tt.map sgK = ss.map sgK ∧ Mine w.heap.size w' a' tt ls bs rs ∧ Below w.heap.size w w' := by
  have b1 := bl_alloc (bl_alloc (bl_refl w) (.cells (atc a) 37)) (.cells #[.int .i64 0, .bool false, .int .u32 0, .int .u32 0, .slice none 0 0, .slice none 0 0, .slice none 0 0, .int .i64 0, .slice none 0 0] 37)
  have oa := (Own.new w 37 (atc a)).alloc (.cells #[.int .i64 0, .bool false, .int .u32 0, .int .u32 0, .slice none 0 0, .slice none 0 0, .slice none 0 0, .int .i64 0, .slice none 0 0] 37)
  have oz := Own.new (w.alloc (.cells (atc a) 37)) 37 #[.int .i64 0, .bool false, .int .u32 0, .int .u32 0, .slice none 0 0, .slice none 0 0, .slice none 0 0, .int .i64 0, .slice none 0 0]
  rw [show (w.alloc (.cells (atc a) 37)).heap.size = w.heap.size + 1 by simp] at oz
  have hc := h.at b1
  have hS := Lib.hid (fun W (hb : Below w.heap.size w W) => copS_any a.A1 a.n1 a.c1 (flatS ss) W (by rw [flatS_len, h.s.1]) (h.at hb).s.showsV (flatS_one ss) (Nat.le_trans hf.n1 (by decide)))
  have hU := Lib.hid (fun W (hb : Below w.heap.size w W) => copU_any a.A2 a.n2 a.c2 (ls.map (Value.int .u32)) W (by rw [List.length_map, h.l.1]; omega) (h.at hb).l.2 (u32_one ls) (Nat.le_trans hf.n2 (by decide)))
  have hB := Lib.hid (fun W (hb : Below w.heap.size w W) => copB_any a.A3 a.n3 a.c3 (bs.map (Value.int .u8)) W (by rw [List.length_map, h.b.1]; omega) (h.at hb).b.2.2 (u8_one bs) (Nat.le_trans hf.n3 (by decide)))
  have hR := Lib.hid (fun W (hb : Below w.heap.size w W) => copR_any a.A4 a.n4 a.c4 (flatR rs) W (by rw [flatR_len h.r.2.1, h.r.1]) (h.at hb).r.shows (flatR_one rs) (Nat.le_trans hf.n4 (by decide)))
  have hX := Lib.hid (fun (s : Sg) (hs : s ∈ ss) W (hb : Below w.heap.size w W) => copU_any s.A s.n s.c (s.xs.map (Value.int .u32)) W (by rw [List.length_map]; have := (h.s.2.1 s hs).2.2.2.2.1; omega) ((h.at hb).s.2.1 s hs).2.2.2.2.2 (u32_one s.xs) (Nat.le_trans (hf.s s hs) (by decide)))
  have HN := Lib.hid h.s.1
  have HN1 := Lib.hid hf.n1
  obtain ⟨k, p, N, M, A1, n1, c1, A2, n2, c2, A3, n3, c3, f, A4, n4, c4⟩ := a
  unfold atc at *
  dsimp only at *
  clear h hf hc
  go_enter Tryz.func17, Tryz.ntmps17
  obtain ⟨x0, x1, x2, x3, x4, x5, x6, x7, x8⟩ := at_cells oa
  go_wp2_with fail
  refine (hS.out _ b1).mono ?_
  rintro e w1 ⟨v1, rfl, ho1, hb1⟩
  rw [show ((w.alloc (.cells #[.int .i64 k, .bool p, .int .u32 N, .int .u32 M, .slice A1 n1 c1, .slice A2 n2 c2, .slice A3 n3 c3, .int .i64 f, .slice A4 n4 c4] 37)).alloc (.cells #[.int .i64 0, .bool false, .int .u32 0, .int .u32 0, .slice none 0 0, .slice none 0 0, .slice none 0 0, .int .i64 0, .slice none 0 0] 37)).heap.size = w.heap.size + 1 + 1 by simp] at ho1
  obtain ⟨B1, d1, rfl, ho1⟩ := own_sliceV ho1
  have oa1 := oa.step hb1
  have oz1 := oz.step hb1
  have b2 := bl_trans b1 hb1
  clear x0 x1 x2 x3 x4 x5 x6 x7 x8 oa oz b1 hb1 hS
  obtain ⟨x0, x1, x2, x3, x4, x5, x6, x7, x8⟩ := at_cells oa1
  have f4 := oa1.frozen 4
  have I0 : ClI w (w1.setCell ⟨w.heap.size, 4, none⟩ (.slice B1 n1 d1)) #[.int .i64 k, .bool p, .int .u32 N, .int .u32 M, .slice B1 n1 d1, .slice A2 n2 c2, .slice A3 n3 c3, .int .i64 f, .slice A4 n4 c4] B1 n1 d1 0 ss ss := by
    have ho2 : w1.ownsRow (w.heap.size + 1 + 1) 51 2 (.slice B1 n1 d1) n1 (flatS ss) := ho1
    refine ⟨bl_only b2 (only_setCell (only_of_below (bl_refl w1) _) (p := ⟨w.heap.size, 4, none⟩) rfl _) (Nat.le_refl _), oa1.set_ 4 _, oz1.far (p := ⟨w.heap.size, 4, none⟩) (show w.heap.size + 1 ≠ w.heap.size by omega) _, ⟨ho2.1, ?_⟩, Tw.start _ _ _⟩
    rcases ho2.2 with h0 | ⟨g', cap, cur', h1, h2, h3, h4⟩
    · exact .inl h0
    · exact .inr ⟨g', cap, cur', h1, h2, Own.far (show Own w1 g' 51 cur' from h3) (p := ⟨w.heap.size, 4, none⟩) (show g' ≠ w.heap.size by omega) _, h4⟩
  go_wp2_with fail
  generalize w1.setCell ⟨w.heap.size, 4, none⟩ (.slice B1 n1 d1) = W1 at I0 ⊢
  clear x0 x1 x2 x3 x4 x5 x6 x7 x8 oa1 oz1 b2 ho1 f4
  go_loopw [3, 4, 12] (fun _ _ i wr => ∃ (j : Nat) (tt : List Sg), j ≤ n1 ∧ i = .int .i64 j ∧ ClI w wr #[.int .i64 k, .bool p, .int .u32 N, .int .u32 M, .slice B1 n1 d1, .slice A2 n2 c2, .slice A3 n3 c3, .int .i64 f, .slice A4 n4 c4] B1 n1 d1 j tt ss) (fun _ _ i _ => n1 - (intOf i).toNat)
  case atStart => exact ⟨0, ss, Nat.zero_le _, rfl, I0⟩
  case round =>
    obtain ⟨j, tt, hj, rfl, I1⟩ := hrel
    by_cases hlt : j < n1
    · have ht := sgth_some (ss := tt) (k := j) (by rw [I1.2.2.2.2.len, ← HN.out]; exact hlt)
      generalize sgth tt j = s at ht
      have hss := I1.2.2.2.2.o j s ht (Nat.le_refl _)
      have hXs := Lib.hid (hX.out s (List.mem_of_getElem? hss))
      obtain ⟨g, rfl⟩ := own_someV I1.2.2.2.1 (by omega)
      obtain ⟨hg, _, hfz, hcl⟩ := own_cellV I1.2.2.2.1
      have fa := flatS_at tt j s ht
      have y0 := hcl _ _ fa.1
      have y1 := hcl _ _ fa.2
      have HT := Lib.hid ht
      have I1b := Lib.hid I1
      clear hcl fa hss ht I0
      have hby := bl_alloc (bl_refl wr) (.cells #[.int .i64 s.k, .slice s.A s.n s.c] 51)
      have I2 : ClI w (wr.alloc (.cells #[.int .i64 s.k, .slice s.A s.n s.c] 51)).drew #[.int .i64 k, .bool p, .int .u32 N, .int .u32 M, .slice (some ⟨g, 0, none⟩) n1 d1, .slice A2 n2 c2, .slice A3 n3 c3, .int .i64 f, .slice A4 n4 c4] (some ⟨g, 0, none⟩) n1 d1 j tt ss := (I1.step hby).step (bl_drewN (bl_refl _) 1)
      have ob := (Own.new wr 51 #[.int .i64 s.k, .slice s.A s.n s.c]).drew
      have hgl : g < wr.heap.size := by
        obtain ⟨_, ⟨cur, ho⟩, _, _⟩ := own_cellV I1.2.2.2.1
        exact ho.lt
      clear I1 I1b
      go_wp2_with fail
      refine wp_region_held_drew (S := (fun W => Own W w.heap.size 37 #[.int .i64 k, .bool p, .int .u32 N, .int .u32 M, .slice (some ⟨g, 0, none⟩) n1 d1, .slice A2 n2 c2, .slice A3 n3 c3, .int .i64 f, .slice A4 n4 c4] ∧ Own W wr.heap.size 51 #[.int .i64 s.k, .slice s.A s.n s.c])) (by kernel_rfl) ⟨I2.2.1, ob⟩ (fun hHeld => ?_)
      generalize (wr.alloc (.cells #[.int .i64 s.k, .slice s.A s.n s.c] 51)).drew = w5 at *
      refine wpAnyH_take (i := 0) (v := ?_) rfl (by kernel_rfl) (by kernel_rfl) (by kernel_rfl) (fun _ _ _ h => h) (Or.inl ⟨by rfl, ?_⟩) (by assumption) ?_
      rotate_left
      · (intro W hSw; obtain ⟨hSa, hSb⟩ := hSw; obtain ⟨e0, e1, e2, e3, e4, e5, e6, e7, e8⟩ := at_cells hSa; have q0 := hSb.cell (i := 0) (v := .int .i64 s.k) rfl; have q1 := hSb.cell (i := 1) (v := .slice s.A s.n s.c) rfl; go_simp; try with_reducible rfl)
      simp only [Act.put, List.getElem_toArray, List.getElem_cons_zero, List.setIfInBounds_toArray, List.set_cons_zero, List.set_cons_succ]
      refine wpAnyH_take (i := 1) (v := ?_) rfl (by kernel_rfl) (by kernel_rfl) (by kernel_rfl) (fun _ _ _ h => h) (Or.inl ⟨by rfl, ?_⟩) (by assumption) ?_
      rotate_left
      · (intro W hSw; obtain ⟨hSa, hSb⟩ := hSw; obtain ⟨e0, e1, e2, e3, e4, e5, e6, e7, e8⟩ := at_cells hSa; have q0 := hSb.cell (i := 0) (v := .int .i64 s.k) rfl; have q1 := hSb.cell (i := 1) (v := .slice s.A s.n s.c) rfl; go_simp; try with_reducible rfl)
      simp only [Act.put, List.getElem_toArray, List.getElem_cons_zero, List.getElem_cons_succ, List.setIfInBounds_toArray, List.set_cons_zero, List.set_cons_succ]
      refine wpAnyH_take (i := 2) (v := ?_) rfl (by kernel_rfl) (by kernel_rfl) (by kernel_rfl) (fun _ _ _ h => h) (Or.inl ⟨by rfl, ?_⟩) (by assumption) ?_
      rotate_left
      · (intro W hSw; obtain ⟨hSa, hSb⟩ := hSw; obtain ⟨e0, e1, e2, e3, e4, e5, e6, e7, e8⟩ := at_cells hSa; have q0 := hSb.cell (i := 0) (v := .int .i64 s.k) rfl; have q1 := hSb.cell (i := 1) (v := .slice s.A s.n s.c) rfl; go_simp; try with_reducible rfl)
      simp only [Act.put, List.getElem_toArray, List.getElem_cons_zero, List.getElem_cons_succ, List.setIfInBounds_toArray, List.set_cons_zero, List.set_cons_succ]
      refine wpAnyH_take (i := 3) (v := ?_) rfl (by kernel_rfl) (by kernel_rfl) (by kernel_rfl) (fun _ _ _ h => h) (Or.inl ⟨by rfl, ?_⟩) (by assumption) ?_
      rotate_left
      · (intro W hSw; obtain ⟨hSa, hSb⟩ := hSw; obtain ⟨e0, e1, e2, e3, e4, e5, e6, e7, e8⟩ := at_cells hSa; have q0 := hSb.cell (i := 0) (v := .int .i64 s.k) rfl; have q1 := hSb.cell (i := 1) (v := .slice s.A s.n s.c) rfl; go_simp; try with_reducible rfl)
      simp only [Act.put, List.getElem_toArray, List.getElem_cons_zero, List.getElem_cons_succ, List.setIfInBounds_toArray, List.set_cons_zero, List.set_cons_succ]
      refine wpAnyH_take (i := 4) (v := ?_) rfl (by kernel_rfl) (by kernel_rfl) (by kernel_rfl) (fun _ _ _ h => h) (Or.inl ⟨by rfl, ?_⟩) (by assumption) ?_
      rotate_left
      · (intro W hSw; obtain ⟨hSa, hSb⟩ := hSw; obtain ⟨e0, e1, e2, e3, e4, e5, e6, e7, e8⟩ := at_cells hSa; have q0 := hSb.cell (i := 0) (v := .int .i64 s.k) rfl; have q1 := hSb.cell (i := 1) (v := .slice s.A s.n s.c) rfl; go_simp; try with_reducible rfl)
      simp only [Act.put, List.getElem_toArray, List.getElem_cons_zero, List.getElem_cons_succ, List.setIfInBounds_toArray, List.set_cons_zero, List.set_cons_succ]
      refine wpAnyH_ready (rs := [5]) (by kernel_rfl) (by simp) ?_
      refine (AllReadyH.cons rfl (fun K hK => ?_) AllReadyH.nil)
      go_simp
      go_at_call 45
      refine (hXs.out _ I2.1).mono ?_
      rintro e w6 ⟨v, rfl, hov, hb6⟩
      obtain ⟨AX, cX, rfl, hov⟩ := own_sliceV hov
      have I3 := I2.step hb6
      have ob3 := ob.step hb6
      have hov2 := own_baseV hov (base' := w.heap.size + 1 + 1) (by have := I2.2.2.1.lt; omega)
      obtain ⟨_, _, hfz3, hcl3⟩ := own_cellV I3.2.2.2.1
      have y3 := hcl3 _ _ (flatS_at tt j s HT.out).2
      have f3 := hfz3 (j * 2 + 1)
      have I4 := I3.next HT.out hov2
      have ob4 := ob3.far (p := ⟨g, j * 2 + 1, none⟩) (show wr.heap.size ≠ g by omega) (.slice AX s.n cX)
      clear hcl3 hfz3 I2 ob
      refine hK.out _ _ ⟨I3.2.1, ob3⟩ (fun hHeld2 => ?_)
      clear hK K hHeld
      have hHeld := hHeld2
      clear hHeld2
      try simp only [Act.put, List.getElem_toArray, List.getElem_cons_zero, List.getElem_cons_succ, List.setIfInBounds_toArray, List.set_cons_zero, List.set_cons_succ]
      refine wpAnyH_take (i := 6) (v := ?_) rfl (by kernel_rfl) (by kernel_rfl) (by kernel_rfl) (fun _ _ _ h => h) (Or.inl ⟨by rfl, ?_⟩) (by assumption) ?_
      rotate_left
      · (intro W hSw; obtain ⟨hSa, hSb⟩ := hSw; obtain ⟨e0, e1, e2, e3, e4, e5, e6, e7, e8⟩ := at_cells hSa; have q0 := hSb.cell (i := 0) (v := .int .i64 s.k) rfl; have q1 := hSb.cell (i := 1) (v := .slice s.A s.n s.c) rfl; go_simp; try with_reducible rfl)
      simp only [Act.put, List.getElem_toArray, List.getElem_cons_zero, List.getElem_cons_succ, List.setIfInBounds_toArray, List.set_cons_zero, List.set_cons_succ]
      refine wpAnyH_take (i := 7) (v := ?_) rfl (by kernel_rfl) (by kernel_rfl) (by kernel_rfl) (fun _ _ _ h => h) (Or.inl ⟨by rfl, ?_⟩) (by assumption) ?_
      rotate_left
      · (intro W hSw; obtain ⟨hSa, hSb⟩ := hSw; obtain ⟨e0, e1, e2, e3, e4, e5, e6, e7, e8⟩ := at_cells hSa; have q0 := hSb.cell (i := 0) (v := .int .i64 s.k) rfl; have q1 := hSb.cell (i := 1) (v := .slice s.A s.n s.c) rfl; go_simp; try with_reducible rfl)
      simp only [Act.put, List.getElem_toArray, List.getElem_cons_zero, List.getElem_cons_succ, List.setIfInBounds_toArray, List.set_cons_zero, List.set_cons_succ]
      refine wpAnyH_ready (rs := [8]) (by kernel_rfl) (by simp) ?_
      refine (AllReadyH.cons rfl (fun K hK => ?_) AllReadyH.nil)
      go_simp
      refine hK.out _ _ ⟨I4.2.1, ob4⟩ (fun hHeld2 => ?_)
      clear hK K hHeld
      have hHeld := hHeld2
      clear hHeld2
      try simp only [Act.put, List.getElem_toArray, List.getElem_cons_zero, List.getElem_cons_succ, List.setIfInBounds_toArray, List.set_cons_zero, List.set_cons_succ]
      refine wpAnyH_done (by kernel_rfl) ?_ _
      have hn1 := HN1.out
      go_wp2
      go_roundw
      case rel => exact ⟨j + 1, _, by omega, by go_num, I4⟩
      case measure => simp [intOf]; omega
    · have hjn : j = n1 := by omega
      subst hjn
      clear hlt hj I0
      have HS1 := I1.2.2.2.1
      have HT1 := I1.2.2.2.2
      have oa2 := I1.2.1
      have oz2 := I1.2.2.1
      have b2 := I1.1
      clear I1
      have T0 : TlS w wr #[.int .i64 k, .bool p, .int .u32 N, .int .u32 M, .slice B1 j d1, .slice A2 n2 c2, .slice A3 n3 c3, .int .i64 f, .slice A4 n4 c4] (fun W => (W.ownsRow (w.heap.size + 1 + 1) 51 2 (.slice B1 j d1) j (flatS tt) ∧ ∀ s ∈ tt, W.ownsRow (w.heap.size + 1 + 1) 32 1 (.slice s.A s.n s.c) s.n (s.xs.map (Value.int .u32)))) := ⟨b2, oa2, oz2, HS1, fun s hs => by
        obtain ⟨i, hi⟩ := List.getElem?_of_mem hs
        exact HT1.x i s hi (by have := (List.getElem?_eq_some_iff.1 hi).1; rw [HT1.len, ← HN.out] at this; exact this)⟩
      have HTe := Lib.hid HT1.e
      clear HS1 HT1 oa2 oz2 b2 hX
      obtain ⟨x0, x1, x2, x3, x4, x5, x6, x7, x8⟩ := at_cells T0.2.1
      go_wp2_with fail
      refine (hU.out _ T0.1).mono ?_
      rintro e V2 ⟨v, rfl, ho, hb⟩
      obtain ⟨B2, d2, rfl, ho⟩ := own_sliceV ho
      have ho2 := own_baseV ho (base' := w.heap.size + 1 + 1) (by have := T0.2.2.1.lt; omega)
      have S0 : TlS w V2 #[.int .i64 k, .bool p, .int .u32 N, .int .u32 M, .slice B1 j d1, .slice A2 n2 c2, .slice A3 n3 c3, .int .i64 f, .slice A4 n4 c4] (fun W => ((W.ownsRow (w.heap.size + 1 + 1) 51 2 (.slice B1 j d1) j (flatS tt) ∧ ∀ s ∈ tt, W.ownsRow (w.heap.size + 1 + 1) 32 1 (.slice s.A s.n s.c) s.n (s.xs.map (Value.int .u32))) ∧ W.ownsRow (w.heap.size + 1 + 1) 32 1 (.slice B2 n2 d2) n2 (ls.map (Value.int .u32)))) := (T0.step (KeepO.and_ (KeepO.own w _ _ _ _ _) (KeepO.all (fun s => KeepO.own w _ _ _ _ _))) hb).add ho2
      have T1 : TlS w (V2.setCell ⟨w.heap.size, 5, none⟩ (.slice B2 n2 d2)) #[.int .i64 k, .bool p, .int .u32 N, .int .u32 M, .slice B1 j d1, .slice B2 n2 d2, .slice A3 n3 c3, .int .i64 f, .slice A4 n4 c4] (fun W => ((W.ownsRow (w.heap.size + 1 + 1) 51 2 (.slice B1 j d1) j (flatS tt) ∧ ∀ s ∈ tt, W.ownsRow (w.heap.size + 1 + 1) 32 1 (.slice s.A s.n s.c) s.n (s.xs.map (Value.int .u32))) ∧ W.ownsRow (w.heap.size + 1 + 1) 32 1 (.slice B2 n2 d2) n2 (ls.map (Value.int .u32)))) := S0.set ((KeepO.and_ (KeepO.own w _ _ _ _ _) (KeepO.all (fun s => KeepO.own w _ _ _ _ _))).and_ (KeepO.own w _ _ _ _ _)) 5 _
      clear x0 x1 x2 x3 x4 x5 x6 x7 x8 ho ho2 hb T0 hU
      obtain ⟨y0, y1, y2, y3, y4, y5, y6, y7, y8⟩ := at_cells S0.2.1
      have fz := S0.2.1.frozen 5
      obtain ⟨x0, x1, x2, x3, x4, x5, x6, x7, x8⟩ := at_cells T1.2.1
      go_wp2_with fail
      refine (hB.out _ T1.1).mono ?_
      rintro e V3 ⟨v, rfl, ho, hb⟩
      obtain ⟨B3, d3, rfl, ho⟩ := own_sliceV ho
      have ho2 := own_baseV ho (base' := w.heap.size + 1 + 1) (by have := T1.2.2.1.lt; omega)
      have S1 : TlS w V3 #[.int .i64 k, .bool p, .int .u32 N, .int .u32 M, .slice B1 j d1, .slice B2 n2 d2, .slice A3 n3 c3, .int .i64 f, .slice A4 n4 c4] (fun W => (((W.ownsRow (w.heap.size + 1 + 1) 51 2 (.slice B1 j d1) j (flatS tt) ∧ ∀ s ∈ tt, W.ownsRow (w.heap.size + 1 + 1) 32 1 (.slice s.A s.n s.c) s.n (s.xs.map (Value.int .u32))) ∧ W.ownsRow (w.heap.size + 1 + 1) 32 1 (.slice B2 n2 d2) n2 (ls.map (Value.int .u32))) ∧ W.ownsRow (w.heap.size + 1 + 1) 5 1 (.slice B3 n3 d3) n3 (bs.map (Value.int .u8)))) := (T1.step ((KeepO.and_ (KeepO.own w _ _ _ _ _) (KeepO.all (fun s => KeepO.own w _ _ _ _ _))).and_ (KeepO.own w _ _ _ _ _)) hb).add ho2
      have T2 : TlS w (V3.setCell ⟨w.heap.size, 6, none⟩ (.slice B3 n3 d3)) #[.int .i64 k, .bool p, .int .u32 N, .int .u32 M, .slice B1 j d1, .slice B2 n2 d2, .slice B3 n3 d3, .int .i64 f, .slice A4 n4 c4] (fun W => (((W.ownsRow (w.heap.size + 1 + 1) 51 2 (.slice B1 j d1) j (flatS tt) ∧ ∀ s ∈ tt, W.ownsRow (w.heap.size + 1 + 1) 32 1 (.slice s.A s.n s.c) s.n (s.xs.map (Value.int .u32))) ∧ W.ownsRow (w.heap.size + 1 + 1) 32 1 (.slice B2 n2 d2) n2 (ls.map (Value.int .u32))) ∧ W.ownsRow (w.heap.size + 1 + 1) 5 1 (.slice B3 n3 d3) n3 (bs.map (Value.int .u8)))) := S1.set (((KeepO.and_ (KeepO.own w _ _ _ _ _) (KeepO.all (fun s => KeepO.own w _ _ _ _ _))).and_ (KeepO.own w _ _ _ _ _)).and_ (KeepO.own w _ _ _ _ _)) 6 _
      clear x0 x1 x2 x3 x4 x5 x6 x7 x8 ho ho2 hb T1 hB y0 y1 y2 y3 y4 y5 y6 y7 y8 fz
      obtain ⟨y0, y1, y2, y3, y4, y5, y6, y7, y8⟩ := at_cells S1.2.1
      have fz := S1.2.1.frozen 6
      obtain ⟨x0, x1, x2, x3, x4, x5, x6, x7, x8⟩ := at_cells T2.2.1
      go_wp2_with fail
      refine (hR.out _ T2.1).mono ?_
      rintro e V4 ⟨v, rfl, ho, hb⟩
      obtain ⟨B4, d4, rfl, ho⟩ := own_sliceV ho
      have ho2 := own_baseV ho (base' := w.heap.size + 1 + 1) (by have := T2.2.2.1.lt; omega)
      have S2 : TlS w V4 #[.int .i64 k, .bool p, .int .u32 N, .int .u32 M, .slice B1 j d1, .slice B2 n2 d2, .slice B3 n3 d3, .int .i64 f, .slice A4 n4 c4] (fun W => ((((W.ownsRow (w.heap.size + 1 + 1) 51 2 (.slice B1 j d1) j (flatS tt) ∧ ∀ s ∈ tt, W.ownsRow (w.heap.size + 1 + 1) 32 1 (.slice s.A s.n s.c) s.n (s.xs.map (Value.int .u32))) ∧ W.ownsRow (w.heap.size + 1 + 1) 32 1 (.slice B2 n2 d2) n2 (ls.map (Value.int .u32))) ∧ W.ownsRow (w.heap.size + 1 + 1) 5 1 (.slice B3 n3 d3) n3 (bs.map (Value.int .u8))) ∧ W.ownsRow (w.heap.size + 1 + 1) 56 19 (.slice B4 n4 d4) n4 (flatR rs))) := (T2.step (((KeepO.and_ (KeepO.own w _ _ _ _ _) (KeepO.all (fun s => KeepO.own w _ _ _ _ _))).and_ (KeepO.own w _ _ _ _ _)).and_ (KeepO.own w _ _ _ _ _)) hb).add ho2
      have T3 : TlS w (V4.setCell ⟨w.heap.size, 8, none⟩ (.slice B4 n4 d4)) #[.int .i64 k, .bool p, .int .u32 N, .int .u32 M, .slice B1 j d1, .slice B2 n2 d2, .slice B3 n3 d3, .int .i64 f, .slice B4 n4 d4] (fun W => ((((W.ownsRow (w.heap.size + 1 + 1) 51 2 (.slice B1 j d1) j (flatS tt) ∧ ∀ s ∈ tt, W.ownsRow (w.heap.size + 1 + 1) 32 1 (.slice s.A s.n s.c) s.n (s.xs.map (Value.int .u32))) ∧ W.ownsRow (w.heap.size + 1 + 1) 32 1 (.slice B2 n2 d2) n2 (ls.map (Value.int .u32))) ∧ W.ownsRow (w.heap.size + 1 + 1) 5 1 (.slice B3 n3 d3) n3 (bs.map (Value.int .u8))) ∧ W.ownsRow (w.heap.size + 1 + 1) 56 19 (.slice B4 n4 d4) n4 (flatR rs))) := S2.set ((((KeepO.and_ (KeepO.own w _ _ _ _ _) (KeepO.all (fun s => KeepO.own w _ _ _ _ _))).and_ (KeepO.own w _ _ _ _ _)).and_ (KeepO.own w _ _ _ _ _)).and_ (KeepO.own w _ _ _ _ _)) 8 _
      clear x0 x1 x2 x3 x4 x5 x6 x7 x8 ho ho2 hb T2 hR y0 y1 y2 y3 y4 y5 y6 y7 y8 fz
      obtain ⟨y0, y1, y2, y3, y4, y5, y6, y7, y8⟩ := at_cells S2.2.1
      have fz := S2.2.1.frozen 8
      obtain ⟨x0, x1, x2, x3, x4, x5, x6, x7, x8⟩ := at_cells T3.2.1
      have oz9 := T3.2.2.1
      have hXe := (show KeepO w (fun W => (((W.ownsRow (w.heap.size + 1 + 1) 51 2 (.slice B1 j d1) j (flatS tt) ∧ ∀ s ∈ tt, W.ownsRow (w.heap.size + 1 + 1) 32 1 (.slice s.A s.n s.c) s.n (s.xs.map (Value.int .u32))) ∧ W.ownsRow (w.heap.size + 1 + 1) 32 1 (.slice B2 n2 d2) n2 (ls.map (Value.int .u32))) ∧ W.ownsRow (w.heap.size + 1 + 1) 5 1 (.slice B3 n3 d3) n3 (bs.map (Value.int .u8))) ∧ W.ownsRow (w.heap.size + 1 + 1) 56 19 (.slice B4 n4 d4) n4 (flatR rs)) from (((KeepO.and_ (KeepO.own w _ _ _ _ _) (KeepO.all (fun s => KeepO.own w _ _ _ _ _))).and_ (KeepO.own w _ _ _ _ _)).and_ (KeepO.own w _ _ _ _ _)).and_ (KeepO.own w _ _ _ _ _)) _ ((V4.setCell ⟨w.heap.size, 8, none⟩ (.slice B4 n4 d4)).setRow (w.heap.size + 1) #[.int .i64 k, .bool p, .int .u32 N, .int .u32 M, .slice B1 j d1, .slice B2 n2 d2, .slice B3 n3 d3, .int .i64 f, .slice B4 n4 d4]) T3.2.2.2 (by simp) (fun i hi _ => setRow_other _ _ _ _ (by omega))
      have hbe : Below w.heap.size w ((V4.setCell ⟨w.heap.size, 8, none⟩ (.slice B4 n4 d4)).setRow (w.heap.size + 1) #[.int .i64 k, .bool p, .int .u32 N, .int .u32 M, .slice B1 j d1, .slice B2 n2 d2, .slice B3 n3 d3, .int .i64 f, .slice B4 n4 d4]) := bl_setRow T3.1 (by omega)
      have oa9 := T3.2.1
      clear x0 x1 x2 x3 x4 x5 x6 x7 x8
      go_wp2_with (first | (refine wpList_load_row rfl 37 _ rfl w.heap.size rfl 37 #[.int .i64 k, .bool p, .int .u32 N, .int .u32 M, .slice B1 j d1, .slice B2 n2 d2, .slice B3 n3 d3, .int .i64 f, .slice B4 n4 d4] (0, 0) (.struct (Tryz.prog.fieldsOf 37)) oa9 (by kernel_rfl) rfl (by kernel_rfl) ?_) | (refine wpList_store_row rfl 37 _ _ rfl (w.heap.size + 1) #[.int .i64 k, .bool p, .int .u32 N, .int .u32 M, .slice B1 j d1, .slice B2 n2 d2, .slice B3 n3 d3, .int .i64 f, .slice B4 n4 d4] rfl rfl 37 #[.int .i64 0, .bool false, .int .u32 0, .int .u32 0, .slice none 0 0, .slice none 0 0, .slice none 0 0, .int .i64 0, .slice none 0 0] oz9 (at_info9 _ _ _ _ _ _ _ _ _) rfl (at_oneC _ _ _ _ _ _ _ _ _ _ _ _ _ _ _ _ _) ?_))
      exact bodyPost_ret (results_cell1V (p := 2) (fn := Tryz.f17) rfl _ _ (w.heap.size + 1) 37 #[.int .i64 k, .bool p, .int .u32 N, .int .u32 M, .slice B1 j d1, .slice B2 n2 d2, .slice B3 n3 d3, .int .i64 f, .slice B4 n4 d4] _ rfl oz9.setRow at_desc rfl (at_info9 _ _ _ _ _ _ _ _ _)) rfl (⟨⟨k, p, N, M, B1, j, d1, B2, n2, d2, B3, n3, d3, f, B4, n4, d4⟩, tt, rfl, ⟨rfl, rfl, rfl, rfl, rfl, rfl, rfl, rfl, rfl⟩, HTe.out, ⟨own_baseV hXe.1.1.1.1 (by omega), fun s hs => own_baseV (hXe.1.1.1.2 s hs) (by omega), own_baseV hXe.1.1.2 (by omega), own_baseV hXe.1.2 (by omega), own_baseV hXe.2 (by omega)⟩, hbe⟩)
end Go.Proofs.YtmcnpkfeipelgaaGreatDoor

/- worlds that differ in numbers alone, in some blocks; the region that makes two copies -/
namespace Go.Proofs.YtmcnpkfeipelgaaGreatDoor
open Go.RowKit Go.Sort

/-- A number in a number's place, else the same. -/
def SameSort (v u : Value) : Prop := (∀ k x, v = .int k x → ∃ y, u = .int k y) ∧ ((∀ k x, v ≠ .int k x) → u = v)
theorem SameSort.refl (v : Value) : SameSort v v := ⟨fun _ x h => ⟨x, h⟩, fun _ => rfl⟩
theorem SameSort.trans {a b c : Value} (h : SameSort a b) (k : SameSort b c) : SameSort a c := by
  refine ⟨fun q x e => ?_, fun e => ?_⟩
  · obtain ⟨y, hy⟩ := h.1 q x e
    exact k.1 q y hy
  · have hb := h.2 e
    exact (k.2 (by rw [hb]; exact e)).trans hb
/-- The worlds differ in numbers alone, in the blocks from lo to hi. -/
structure MS (lo hi : Nat) (w W : World) : Prop where
  os : W.os = w.os
  tape : W.tape = w.tape
  output : W.output = w.output
  size : W.heap.size = w.heap.size
  out : ∀ i, (i < lo ∨ hi ≤ i) → W.heap[i]? = w.heap[i]?
  fz : ∀ b o, W.frozen? ⟨b, o, none⟩ = w.frozen? ⟨b, o, none⟩
  cell : ∀ b o v, w.cell? ⟨b, o, none⟩ = some v → ∃ u, W.cell? ⟨b, o, none⟩ = some u ∧ SameSort v u
theorem MS.refl (lo hi : Nat) (w : World) : MS lo hi w w := ⟨rfl, rfl, rfl, rfl, fun _ _ => rfl, fun _ _ => rfl, fun _ _ v h => ⟨v, h, SameSort.refl v⟩⟩
theorem MS.int {lo hi : Nat} {w W : World} (h : MS lo hi w W) {b o : Nat} {k : IntKind} {x : Int} (e : w.cell? ⟨b, o, none⟩ = some (.int k x)) : ∃ y, W.cell? ⟨b, o, none⟩ = some (.int k y) := by
  obtain ⟨u, hu, hs⟩ := h.cell b o _ e
  obtain ⟨y, rfl⟩ := hs.1 k x rfl
  exact ⟨y, hu⟩
theorem MS.slice {lo hi : Nat} {w W : World} (h : MS lo hi w W) {b o : Nat} {A : Option Addr} {n c : Nat} (e : w.cell? ⟨b, o, none⟩ = some (.slice A n c)) : W.cell? ⟨b, o, none⟩ = some (.slice A n c) := by
  obtain ⟨u, hu, hs⟩ := h.cell b o _ e
  rw [hu, hs.2 (fun _ _ h => by cases h)]
theorem MS.store {lo hi : Nat} {w W : World} (h : MS lo hi w W) {b o : Nat} {k : IntKind} {x y : Int} (e : w.cell? ⟨b, o, none⟩ = some (.int k x)) (hlo : lo ≤ b) (hhi : b < hi) : MS lo hi w (W.setCell ⟨b, o, none⟩ (.int k y)) := by
  refine ⟨h.os, h.tape, h.output, by simpa [World.setCell] using h.size, fun i hi2 => (Below.heap_setCell W ⟨b, o, none⟩ (.int k y) i (show i ≠ b by omega)).trans (h.out i hi2), fun b' o' => (World.frozen?_setCell _ _ _ _).trans (h.fz b' o'), fun b' o' v hv => ?_⟩
  obtain ⟨u, hu, hs⟩ := h.cell b' o' v hv
  by_cases ea : (⟨b, o, none⟩ : Addr) = ⟨b', o', none⟩
  · refine ⟨.int k y, ?_, ?_⟩
    · rw [← ea] at hu ⊢
      exact World.cell?_setCell_same _ _ _ hu
    · rw [← ea, e] at hv
      injection hv with hv
      subst hv
      exact ⟨fun q z hz => by cases hz; exact ⟨y, rfl⟩, fun hz => absurd rfl (hz k x)⟩
  · exact ⟨u, (World.cell?_setCell_other _ _ _ _ ea).trans hu, hs⟩
theorem MS.own {lo hi : Nat} {w W : World} (h : MS lo hi w W) {g : Nat} {T : TypeId} {cs : Array Value} (o : Own w g T cs) (hg : g < lo ∨ hi ≤ g) : Own W g T cs := (h.out g hg).trans o
theorem MS.below {lo hi : Nat} {w W V : World} {B : Nat} (h : MS lo hi w W) (hb : Below B V w) (hB : B ≤ lo) : Below B V W :=
  ⟨h.os.trans hb.os, h.tape.trans hb.tape, h.output.trans hb.output, by rw [h.size]; exact hb.size, fun i hi => (h.out i (.inl (by omega))).trans (hb.block i hi)⟩
theorem MS.row {lo hi : Nat} {w W : World} {T : TypeId} {size n : Nat} {v : Value} {xs : List Value} (h : MS lo hi w W) (o : w.ownsRow hi T size v n xs) : W.ownsRow hi T size v n xs := by
  refine ⟨o.1, ?_⟩
  rcases o.2 with h0 | ⟨g', cap, cur', h1, h2, h3, h4⟩
  · exact .inl h0
  · exact .inr ⟨g', cap, cur', h1, h2, (h.out g' (.inr h2)).trans h3, h4⟩
theorem MS.mine {lo hi : Nat} {w W : World} {a : At} {tt : List Sg} {ls bs : List Int} {rs : List Rt} (h : MS lo hi w W) (m : Mine hi w a tt ls bs rs) : Mine hi W a tt ls bs rs :=
  ⟨h.row m.s, fun s hs => h.row (m.x s hs), h.row m.l, h.row m.b, h.row m.r⟩
/-- Its blocks lie before hi. -/
def Upto (hi : Nat) (A : Option Addr) : Prop := ∀ g, A = some ⟨g, 0, none⟩ → g < hi
structure MineU (hi : Nat) (a : At) (tt : List Sg) : Prop where
  s : Upto hi a.A1
  x : ∀ s ∈ tt, Upto hi s.A
  l : Upto hi a.A2
  b : Upto hi a.A3
  r : Upto hi a.A4
theorem own_upto {W : World} {base : Nat} {T : TypeId} {size n c : Nat} {A : Option Addr} {xs : List Value} (h : W.ownsRow base T size (.slice A n c) n xs) : Upto W.heap.size A := by
  intro g e
  subst e
  obtain ⟨_, ⟨cur, ho⟩, _⟩ := own_cellV h
  exact ho.lt
theorem Mine.upto {base : Nat} {W : World} {a : At} {tt : List Sg} {ls bs : List Int} {rs : List Rt} (h : Mine base W a tt ls bs rs) : MineU W.heap.size a tt := ⟨own_upto h.s, fun s hs => own_upto (h.x s hs), own_upto h.l, own_upto h.b, own_upto h.r⟩
theorem Mine.step {base : Nat} {W W' : World} {a : At} {tt : List Sg} {ls bs : List Int} {rs : List Rt} (h : Mine base W a tt ls bs rs) (hb : Below W.heap.size W W') : Mine base W' a tt ls bs rs := ⟨own_stepV h.s hb, fun s hs => own_stepV (h.x s hs) hb, own_stepV h.l hb, own_stepV h.b hb, own_stepV h.r hb⟩
theorem Mine.base {base base' : Nat} {W : World} {a : At} {tt : List Sg} {ls bs : List Int} {rs : List Rt} (h : Mine base W a tt ls bs rs) (hb : base' ≤ base) : Mine base' W a tt ls bs rs := ⟨own_baseV h.s hb, fun s hs => own_baseV (h.x s hs) hb, own_baseV h.l hb, own_baseV h.b hb, own_baseV h.r hb⟩
theorem own_rowT {W : World} {base : Nat} {T U : TypeId} {size n g : Nat} {v : Value} {xs : List Value} {cur cs : Array Value} (h : W.ownsRow base T size v n xs) (k : Own W g U cur) (hne : T ≠ U) : (W.setRow g cs).ownsRow base T size v n xs := by
  refine ⟨h.1, ?_⟩
  rcases h.2 with h0 | ⟨g', cap, cur', h1, h2, h3, h4⟩
  · exact .inl h0
  · refine .inr ⟨g', cap, cur', h1, h2, ?_, h4⟩
    have hg : g' ≠ g := by
      rintro rfl
      have e := h3.symm.trans k
      injection e with e
      injection e with e1 e2 e3
      exact hne e2
    exact (setRow_other W g g' cs hg).trans h3
theorem Mine.setRow {base g : Nat} {W : World} {a : At} {tt : List Sg} {ls bs : List Int} {rs : List Rt} {cur cs : Array Value} (h : Mine base W a tt ls bs rs) (k : Own W g 37 cur) : Mine base (W.setRow g cs) a tt ls bs rs := by
  have n1 : (51 : TypeId) ≠ 37 := by decide
  have n2 : (32 : TypeId) ≠ 37 := by decide
  have n3 : (5 : TypeId) ≠ 37 := by decide
  have n4 : (56 : TypeId) ≠ 37 := by decide
  exact ⟨own_rowT h.s k n1, fun s hs => own_rowT (h.x s hs) k n2, own_rowT h.l k n2, own_rowT h.b k n3, own_rowT h.r k n4⟩
end Go.Proofs.YtmcnpkfeipelgaaGreatDoor

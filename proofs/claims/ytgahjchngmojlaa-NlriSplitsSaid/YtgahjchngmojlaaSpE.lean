/- NlriSplits: the walk -/
import Derived.Test.YtgahjchngmojlaaSpD
import Derived.Test.YtgahjchngmojlaaAl3
import Derived.Test.YtgahjchngmojlaaRteq
namespace Go.Proofs.Ytgahjchngmojlaa
open Go.RowKit

theorem sp_mem {most : Int} {add : Bool} {rs : List Rt} (h : SpOk most add rs rs.length (spAt most add rs rs.length)) {l : List Rt} (hl : l ∈ spEnd (spAt most add rs rs.length)) : ∀ r ∈ l, r ∈ rs := fun r hr => by
  rw [← spEnd_flat h]
  exact List.mem_flatten.2 ⟨l, hl, hr⟩
theorem rflat_map (ps : List RPart) : rflat ps = (ps.map RPart.xs).flatten := by unfold rflat; rw [List.flatMap_def]
set_option maxHeartbeats 12800000 in
set_option maxRecDepth 100000 in
theorem nsplits_main (most : Int) (hm0 : -9223372036854775808 ≤ most) (hm1 : most ≤ 9223372036854775807) (add : Bool) (A : Option Addr) (n c : Nat) (rs : List Rt) (w : World) (h : Routes w w.heap.size A n rs) (hm : n ≤ maxLen) :
    Calls Try.prog 4 #[.int .i64 most, .bool add, .slice A n c] w fun e w' => e = .returned (.bool true) ∧ Below w.heap.size w w' := by
  have HN := Lib.hid h.1
  have HX := Lib.hid h
  unfold maxLen at hm
  by_cases h100 : 100 < n
  · have q : decide ((100 : Int) < (n : Int)) = true := by simp; omega
    clear h h100
    go_enter Try.func4, Try.ntmps4
    go_wp2_with fail
    refine (alive3_any _).mono ?_
    rintro e w1 ⟨rfl, hb⟩
    go_wp2
    go_ret
    exact ⟨rfl, hb⟩
  · have q : decide ((100 : Int) < (n : Int)) = false := by simp; omega
    have hn100 : n ≤ 100 := by omega
    have HS := Lib.hid (nsplit_any most hm0 hm1 add A n c rs w h (by omega))
    have HRS := Lib.hid (fun W (hb : Below w.heap.size w W) => rsplit_any most add A n c rs W ((HX.out.below hb).more hb.size) (by omega))
    clear h h100 hm
    go_enter Try.func4, Try.ntmps4
    go_wp2_with fail
    refine HS.out.mono ?_
    rintro e w1 (⟨hv, hf, A1, c1, ps, rfl, hP, hxs, hb1⟩ | ⟨hno, rfl, hb1⟩)
    · have HV := Lib.hid hv
      have HF := Lib.hid hf
      have HXs := Lib.hid hxs
      have HP := Lib.hid hP
      clear hv hf hxs hP HS
      go_wp2_with fail
      refine (HRS.out w1 hb1).mono ?_
      rintro e w2 (⟨_, _, A2, c2, qs, rfl, hQ, hxs2, hb2⟩ | ⟨hno, _, _⟩)
      · have hSO := spAt_ok (most := most) (add := add) (rs := rs) (Nat.le_refl _) (by rw [List.take_length]; exact fits_ok HF.out)
        have hfl : rflat ps = rs := by rw [rflat_map, HXs.out, spEnd_flat hSO]
        have HFl := Lib.hid hfl
        have hdn : ∀ p ∈ ps, p.xs ≠ [] ∧ (szL add p.xs : Int) ≤ most ∧ p.xs.all (rtOk 2 add) = true ∧ p.n = p.xs.length ∧ p.n ≤ 100 := fun p hp => by
          have hin : p.xs ∈ spEnd (spAt most add rs rs.length) := by rw [← HXs.out]; exact List.mem_map_of_mem hp
          have h1 := spEnd_done hSO _ hin
          have h2 : p.n = p.xs.length := (HP.out.2.1 p hp).1
          have h3 : p.xs.length ≤ rs.length := by
            have h4 : rs = (ps.map RPart.xs).flatten := by rw [← rflat_map, hfl]
            rw [h4]
            exact List.Sublist.length_le (List.sublist_flatten_of_mem (List.mem_map_of_mem hp))
          exact ⟨h1.1, h1.2, List.all_eq_true.2 (fun r hr => List.all_eq_true.1 HV.out r (sp_mem hSO hin r hr)), h2, by have := HN.out; omega⟩
        have HDn := Lib.hid hdn
        have hpl : ps.length ≤ 100 := by
          have h1 := done_len (d := ps.map RPart.xs) (fun l hl => by
            obtain ⟨p, hp, rfl⟩ := List.mem_map.1 hl
            exact (hdn p hp).1)
          rw [← rflat_map, hfl, List.length_map] at h1
          have := HN.out
          omega
        have hb3 := bl_trans hb1 hb2
        have HP2 := Lib.hid (HP.out.step hb2)
        have HEf := Lib.hid (efnL_same A1 A2 _ _ c1 c2 ps qs w2 HP2.out hQ (by rw [HXs.out, hxs2]) (by omega) (fun p hp => by have := (hdn p hp).2.2.2.2; omega))
        have HPl := Lib.hid HP2.out.1
        clear hSO hfl hdn hQ hxs2 hb1 hb2 HRS HP
        go_wp2_with fail
        refine HEf.out.mono ?_
        rintro e w3 ⟨rfl, hb4⟩
        have hb5 := bl_trans hb3 hb4
        have HP3 := Lib.hid (HP2.out.step hb4)
        clear hb3 hb4 HEf
        go_wp2_with fail
        go_loopw [12, 42] (fun _ i wr => (∃ j : Nat, j ≤ ps.length ∧ i = .int .i64 j) ∧ Below w3.heap.size w3 wr) (fun _ i _ => ps.length - (intOf i).toNat)
        case atStart => exact ⟨⟨0, Nat.zero_le _, rfl⟩, bl_refl _⟩
        case round =>
          obtain ⟨⟨j, hj, rfl⟩, hbw⟩ := hrel
          by_cases hlt : j < ps.length
          · obtain ⟨b, o, rfl, hbB, e0, hR⟩ := (HP3.out.below hbw).at_ hlt
            have hd := HDn.out _ (rpth_mem hlt)
            have hbs := hbw.size
            have HSz := Lib.hid (nsize_any 2 add (rpth ps j).a (rpth ps j).n (rpth ps j).c (rpth ps j).xs wr (hR.more hbs) (by omega) hd.2.2.1)
            generalize rpth ps j = p at *
            obtain ⟨pa, pn, pc, px⟩ := p
            dsimp only at *
            have hpos : 0 < pn := by
              have := List.length_pos_iff.2 hd.1
              omega
            have hz : ((pn : Int) == 0) = false := by simp; omega
            have hsz : ¬ most < ((formAll add px).length : Int) := by
              have h1 := hd.2.1
              unfold szL at h1
              omega
            clear hR hd hpos
            go_wp2_with fail
            refine HSz.out.mono ?_
            rintro e w4 ⟨rfl, hb6⟩
            have hb7 := bl_trans hbw hb6
            clear e0 HSz hbw hb6
            go_wp2
            go_roundw
            case rel => exact ⟨⟨j + 1, by omega, by go_num⟩, hb7⟩
            case measure => simp [intOf]; omega
          · obtain rfl : j = ps.length := by omega
            have HP4 := Lib.hid (HP3.out.step hbw)
            have hb6 := bl_trans hb5 hbw
            clear hlt hj hbw hb5
            go_wp2_with fail
            refine (alive3_any _).mono ?_
            rintro e w5 ⟨rfl, hb7⟩
            have hb8 := bl_trans hb6 hb7
            have HCc := Lib.hid (rconcat_any A1 ps.length c1 ps w5 (HP4.out.step hb7) (by omega) (by rw [HFl.out, ← HN.out]; omega))
            rw [HFl.out] at HCc
            clear hb6 hb7
            go_wp2_with fail
            refine HCc.out.mono ?_
            rintro e w6 ⟨v6, rfl, hown6, hb9⟩
            obtain ⟨A6, c6, rfl, _, hR6⟩ := own_routes hown6 HX.out.2.1 rfl
            rw [← HN.out] at hR6
            have hb10 := bl_trans hb8 hb9
            have HEq := Lib.hid (routesEq_same A6 A n c6 c rs w6 _ _ hR6 ((HX.out.below hb10).more hb10.size) (by omega))
            have HNr := Lib.hid HN.out.symm
            rw [HNr.out]
            clear hown6 hR6 hb8 hb9
            go_wp2_with fail
            refine HEq.out.mono ?_
            rintro e w7 ⟨rfl, m, rfl⟩
            go_wp2
            go_ret
            exact ⟨rfl, bl_drewN hb10 m⟩
      · exfalso
        rw [HV.out, HF.out] at hno
        cases hno
    · have HNo := Lib.hid hno
      clear hno HS
      go_wp2_with fail
      refine (HRS.out w1 hb1).mono ?_
      rintro e w2 (⟨hv, hf, _⟩ | ⟨_, rfl, hb2⟩)
      · exfalso
        have h1 := HNo.out
        rw [hv, hf] at h1
        cases h1
      · have hb3 := bl_trans hb1 hb2
        have HEf := Lib.hid (efnL_same none none 0 0 0 0 [] [] w2 ⟨rfl, (fun _ h => by cases h), .inl rfl⟩ ⟨rfl, (fun _ h => by cases h), .inl rfl⟩ rfl (by omega) (fun _ h => by cases h))
        clear hb1 hb2 HRS
        go_wp2_with fail
        refine HEf.out.mono ?_
        rintro e w3 ⟨rfl, hb4⟩
        have hb5 := bl_trans hb3 hb4
        clear hb3 hb4 HEf
        go_wp2_with fail
        go_loopw [12, 42] (fun _ i wr => i = .int .i64 0 ∧ wr = w3) (fun _ _ _ => 0)
        case atStart => exact ⟨rfl, rfl⟩
        case round =>
          obtain ⟨rfl, rfl⟩ := hrel
          go_wp2_with fail
          refine (alive3_any _).mono ?_
          rintro e w5 ⟨rfl, hb7⟩
          have hb8 := bl_trans hb5 hb7
          go_wp2
          go_ret
          exact ⟨rfl, hb8⟩
end Go.Proofs.Ytgahjchngmojlaa

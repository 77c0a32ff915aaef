/- peerageref03.Valid, form, Bytes -/
import Derived.Test.YtgahjchngmojlaaNb
namespace Go.Proofs.Ytgahjchngmojlaa
open Go.RowKit

set_option maxHeartbeats 800000 in
set_option maxRecDepth 100000 in
theorem rright_any (f : Int) (add : Bool) (r : Rt) (w : World) (hok : r.Ok) :
    Calls Try.prog 30 #[.int .i64 f, .bool add, .agg (rt r)] w fun e w' => e = .returned (.bool (rtOk f add r)) ∧ Below w.heap.size w w' := by
  have hi18 := Lib.hid (pfx_infol (f := r.f) (l := r.l) hok.1.1)
  have ho := Own.new w 31 (rt r)
  have hb0 := bl_alloc (bl_refl w) (.cells (rt r) 31)
  have hpx := ho.pfxAt
  have HO := Lib.hid (show rtOk f add r = (pfxOk r.f r.l r.a && decide (r.f = f) && (add || decide (r.p = 0))) by unfold rtOk; rw [Bool.and_comm (decide _)])
  go_enter Try.func30, Try.ntmps30
  go_wp2_with (refine wpList_load_mid rfl 29 _ rfl w.heap.size 1 rfl (pfx r.f r.l r.a).toList (.struct (Try.prog.fieldsOf 29)) hpx pfx_desc rfl hi18.out ?_)
  refine (rpvalid_any _ _ _ _ hok.1).mono ?_
  rintro e w1 ⟨rfl, hb1⟩
  have ho1 := ho.step hb1
  have hc0 := ho1.cell (rt_0 _)
  have hc1 := ho1.cell (rt_1 _)
  have hb2 := bl_trans hb0 hb1
  clear ho hb0 hpx hb1
  go_wp2_with fail
  all_goals
    go_ret
    refine ⟨?_, hb2⟩
    rw [HO.out]
    first | (simp_all; done) | (simp_all; rfl)

set_option maxHeartbeats 800000 in
set_option maxRecDepth 100000 in
theorem rvalid_any (f : Int) (add : Bool) (A : Option Addr) (n c : Nat) (rs : List Rt) (w : World) (h : Routes w w.heap.size A n rs) (hn : n ≤ 1000000000) :
    Calls Try.prog 23 #[.int .i64 f, .bool add, .slice A n c] w fun e w' => e = .returned (.bool (rs.all (rtOk f add))) ∧ Below w.heap.size w w' := by
  have HN := Lib.hid h.1
  go_enter Try.func23, Try.ntmps23
  go_wp2_with fail
  go_loopw [7] (fun i wr => (∃ j : Nat, j ≤ n ∧ i = .int .i64 j ∧ (rs.take j).all (rtOk f add) = true) ∧ Below w.heap.size w wr) (fun i _ => n - (intOf i).toNat)
  case atStart => exact ⟨⟨0, Nat.zero_le _, rfl, by simp⟩, bl_refl w⟩
  case round =>
    obtain ⟨⟨j, hj, rfl, hall⟩, hbw⟩ := hrel
    by_cases hlt : j < n
    · obtain ⟨b, o, rfl, hbB, hok, hrg⟩ := (h.below hbw).at_ hlt
      have hi19 := Lib.hid (rt_infol hok.1.1)
      have hj' := Lib.hid (show j < rs.length by have := HN.out; omega)
      go_wp2_with (refine wpList_load_mid rfl 31 _ rfl b (o + j * 19) rfl (rt (nthR rs j)).toList (.struct (Try.prog.fieldsOf 31)) hrg rt_desc rfl hi19.out ?_)
      refine (rright_any f add (nthR rs j) _ hok).mono ?_
      by_cases hr : rtOk f add (nthR rs j) = true
      · rw [hr]
        rintro e w2 ⟨rfl, hb2⟩
        have hb3 := bl_trans hbw hb2
        go_wp2
        go_roundw
        case rel => exact ⟨⟨j + 1, by omega, by go_num, all_step hj'.out hall hr⟩, hb3⟩
        case measure => simp [intOf]; omega
      · have hr' : rtOk f add (nthR rs j) = false := by simpa using hr
        rw [hr']
        rintro e w2 ⟨rfl, hb2⟩
        have hb3 := bl_trans hbw hb2
        go_wp2
        go_ret
        exact ⟨by rw [all_no hj'.out hr']; rfl, hb3⟩
    · have hjn := Lib.hid (show j = rs.length by have := HN.out; omega)
      go_wp2
      go_ret
      refine ⟨?_, hbw⟩
      rw [hjn.out, List.take_length] at hall
      rw [hall]; rfl

theorem own_base_le {w : World} {base b : Nat} {e : TypeId} {size n : Nat} {v : Value} {xs : List Value} (h : w.ownsRow base e size v n xs) (hb : b ≤ base) : w.ownsRow b e size v n xs := by
  refine ⟨h.1, ?_⟩
  rcases h.2 with hn | ⟨g, cap, cur, hv, hbg, rest⟩
  · exact .inl hn
  · exact .inr ⟨g, cap, cur, hv, Nat.le_trans hb hbg, rest⟩

set_option maxHeartbeats 800000 in
set_option maxRecDepth 100000 in
theorem rform_false (r : Rt) (w : World) (hok : r.Ok) (hk : pfxOk r.f r.l r.a = true) :
    Calls Try.prog 24 #[.bool false, .agg (rt r)] w fun e w' => ∃ v, e = .returned v ∧ w'.ownsRow w.heap.size 5 1 v (rtForm false r).length ((rtForm false r).map (Value.int .u8)) ∧ Below w.heap.size w w' := by
  have hi18 := Lib.hid (pfx_infol (f := r.f) (l := r.l) hok.1.1)
  have ho := Own.new w 31 (rt r)
  have hb0 := bl_alloc (bl_refl w) (.cells (rt r) 31)
  have hpx := ho.pfxAt
  have hc0 := ho.cell (rt_0 _)
  have hp0 := hok.2.1
  have hp1 := hok.2.2
  have HK := Lib.hid hk
  have hpl : (pfxForm r.l r.a).length ≤ 17 := by
    have := pfxOk_range hk
    unfold pfxForm
    have h5 : (sizeOfBits r.l).toNat ≤ 16 := by unfold sizeOfBits; omega
    simp; omega
  clear hk
  go_enter Try.func24, Try.ntmps24
  have hown0 := World.ownsRow_nil (w.alloc (.cells (rt r) 31)) w.heap.size 5 1
  go_wp2_with (refine wpList_load_mid rfl 29 _ rfl w.heap.size 1 rfl (pfx r.f r.l r.a).toList (.struct (Try.prog.fieldsOf 29)) hpx pfx_desc rfl hi18.out ?_)
  refine (rpbytes_yes _ _ _ _ hok.1 HK.out).mono ?_
  rintro e w2 ⟨v2, rfl, hown2, hb2⟩
  have hb3 := bl_trans hb0 hb2
  have hown1 := own_below hown0 hb2
  obtain ⟨A2, c2, rfl, _, hs2⟩ := own_val hown2
  go_wp2_with (at_builtin; refine wpList_append_grow _ rfl _ _ rfl sl_bytes w.heap.size _ 0 [] rfl hown1 w2.heap.size A2 (pfxForm r.l r.a).length c2 ((pfxForm r.l r.a).map (Value.int .u8)) rfl (by simp) hs2 ints1 (by unfold maxLen; omega) (by omega) hb3.size ?_; intro v3 w3 hown3 hgrow3)
  have hb4 := hb3.grown hgrow3 hb3.size (own_base hown1)
  go_ret
  refine ⟨_, rfl, ?_, hb4⟩
  simpa [rtForm] using hown3

set_option maxHeartbeats 800000 in
set_option maxRecDepth 100000 in
theorem rform_true (r : Rt) (w : World) (hok : r.Ok) (hk : pfxOk r.f r.l r.a = true) :
    Calls Try.prog 24 #[.bool true, .agg (rt r)] w fun e w' => ∃ v, e = .returned v ∧ w'.ownsRow w.heap.size 5 1 v (rtForm true r).length ((rtForm true r).map (Value.int .u8)) ∧ Below w.heap.size w w' := by
  have hi18 := Lib.hid (pfx_infol (f := r.f) (l := r.l) hok.1.1)
  have ho := Own.new w 31 (rt r)
  have hb0 := bl_alloc (bl_refl w) (.cells (rt r) 31)
  have hpx := ho.pfxAt
  have hc0 := ho.cell (rt_0 _)
  have hp0 := hok.2.1
  have hp1 := hok.2.2
  have HK := Lib.hid hk
  have hpl : (pfxForm r.l r.a).length ≤ 17 := by
    have := pfxOk_range hk
    unfold pfxForm
    have h5 : (sizeOfBits r.l).toNat ≤ 16 := by unfold sizeOfBits; omega
    simp; omega
  clear hk
  go_enter Try.func24, Try.ntmps24
  go_wp2_with fail
  refine (of_any 4 r.p _ (by omega) (by omega) hp0 (by omega)).mono ?_
  rintro e w1 ⟨v1, rfl, hown0, hb1⟩
  have ho1 := ho.step hb1
  have hpx1 := ho1.pfxAt
  have hb5 := bl_trans hb0 hb1
  clear ho hpx hc0 hb0 hb1
  go_wp2_with (refine wpList_load_mid rfl 29 _ rfl w.heap.size 1 rfl (pfx r.f r.l r.a).toList (.struct (Try.prog.fieldsOf 29)) hpx1 pfx_desc rfl hi18.out ?_)
  refine (rpbytes_yes _ _ _ _ hok.1 HK.out).mono ?_
  rintro e w2 ⟨v2, rfl, hown2, hb2⟩
  have hb3 := bl_trans hb5 hb2
  have hown1 := own_base_le (own_below hown0 hb2) (b := w.heap.size) (by simp)
  obtain ⟨A2, c2, rfl, _, hs2⟩ := own_val hown2
  go_wp2_with (at_builtin; refine wpList_append_grow _ rfl _ _ rfl sl_bytes w.heap.size _ _ _ rfl hown1 w2.heap.size A2 (pfxForm r.l r.a).length c2 ((pfxForm r.l r.a).map (Value.int .u8)) rfl (by simp) hs2 ints1 (by unfold maxLen; omega) (by omega) hb3.size ?_; intro v3 w3 hown3 hgrow3)
  have hb4 := hb3.grown hgrow3 hb3.size (own_base hown1)
  go_ret
  refine ⟨_, rfl, ?_, hb4⟩
  have h4 := digitsOf_len 4 r.p
  have e1 : rtForm true r = digitsOf 4 r.p ++ pfxForm r.l r.a := rfl
  rw [e1, List.length_append, h4, List.map_append]
  exact hown3

set_option maxRecDepth 100000 in
theorem rform_any (add : Bool) (r : Rt) (w : World) (hok : r.Ok) (hk : pfxOk r.f r.l r.a = true) :
    Calls Try.prog 24 #[.bool add, .agg (rt r)] w fun e w' => ∃ v, e = .returned v ∧ w'.ownsRow w.heap.size 5 1 v (rtForm add r).length ((rtForm add r).map (Value.int .u8)) ∧ Below w.heap.size w w' := by
  cases add
  · exact rform_false r w hok hk
  · exact rform_true r w hok hk

end Go.Proofs.Ytgahjchngmojlaa

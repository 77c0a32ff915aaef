/- peerageref03.Valid, form, Bytes -/
import Derived.Test.YtmlmgjdjbpipcaaDoorNb
namespace Go.Proofs.YtmlmgjdjbpipcaaDoor
open Go.RowKit

set_option maxHeartbeats 800000 in
set_option maxRecDepth 100000 in
theorem rright_any (f : Int) (add : Bool) (r : Rt) (w : World) (hok : r.Ok) :
    Calls Tryd.prog 89 #[.int .i64 f, .bool add, .agg (rt r)] w fun e w' => e = .returned (.bool (rtOk f add r)) ∧ Below w.heap.size w w' := by
  have hi18 := Lib.hid (pfx_infol (f := r.f) (l := r.l) hok.1.1)
  have ho := Own.new w 87 (rt r)
  have hb0 := bl_alloc (bl_refl w) (.cells (rt r) 87)
  have hpx := ho.pfxAt
  have HO := Lib.hid (show rtOk f add r = (pfxOk r.f r.l r.a && decide (r.f = f) && (add || decide (r.p = 0))) by unfold rtOk; rw [Bool.and_comm (decide _)])
  go_enter Tryd.func89, Tryd.ntmps89
  go_wp2_with (refine wpList_load_mid rfl 85 _ rfl w.heap.size 1 rfl (pfx r.f r.l r.a).toList (.struct (Tryd.prog.fieldsOf 85)) hpx pfx_desc rfl hi18.out ?_)
  refine (rpvalid_any _ _ _ _ hok.1).mono ?_
  rintro e w1 ⟨rfl, hb1⟩
  have ho1 := ho.step hb1
  have hc0 := ho1.cell (rt_0 _)
  have hc1 := ho1.cell (rt_1 _)
  have hb2 := bl_trans hb0 hb1
  clear ho hb0 hpx hb1
  go_wp2_with fail
  all_goals
    go_ret
    refine ⟨?_, hb2⟩
    rw [HO.out]
    first | (simp_all; done) | (simp_all; rfl)

set_option maxHeartbeats 800000 in
set_option maxRecDepth 100000 in
theorem rvalid_any (f : Int) (add : Bool) (A : Option Addr) (n c : Nat) (rs : List Rt) (w : World) (h : Routes w w.heap.size A n rs) (hn : n ≤ 1000000000) :
    Calls Tryd.prog 68 #[.int .i64 f, .bool add, .slice A n c] w fun e w' => e = .returned (.bool (rs.all (rtOk f add))) ∧ Below w.heap.size w w' := by
  have HN := Lib.hid h.1
  go_enter Tryd.func68, Tryd.ntmps68
  go_wp2_with fail
  go_loopw [7] (fun i wr => (∃ j : Nat, j ≤ n ∧ i = .int .i64 j ∧ (rs.take j).all (rtOk f add) = true) ∧ Below w.heap.size w wr) (fun i _ => n - (intOf i).toNat)
  case atStart => exact ⟨⟨0, Nat.zero_le _, rfl, by simp⟩, bl_refl w⟩
  case round =>
    obtain ⟨⟨j, hj, rfl, hall⟩, hbw⟩ := hrel
    by_cases hlt : j < n
    · obtain ⟨b, o, rfl, hbB, hok, hrg⟩ := (h.below hbw).at_ hlt
      have hi19 := Lib.hid (rt_infol hok.1.1)
      have hj' := Lib.hid (show j < rs.length by have := HN.out; omega)
      go_wp2_with (refine wpList_load_mid rfl 87 _ rfl b (o + j * 19) rfl (rt (nthR rs j)).toList (.struct (Tryd.prog.fieldsOf 87)) hrg rt_desc rfl hi19.out ?_)
      refine (rright_any f add (nthR rs j) _ hok).mono ?_
      by_cases hr : rtOk f add (nthR rs j) = true
      · rw [hr]
        rintro e w2 ⟨rfl, hb2⟩
        have hb3 := bl_trans hbw hb2
        go_wp2
        go_roundw
        case rel => exact ⟨⟨j + 1, by omega, by go_num, all_step hj'.out hall hr⟩, hb3⟩
        case measure => simp [intOf]; omega
      · have hr' : rtOk f add (nthR rs j) = false := by simpa using hr
        rw [hr']
        rintro e w2 ⟨rfl, hb2⟩
        have hb3 := bl_trans hbw hb2
        go_wp2
        go_ret
        exact ⟨by rw [all_no hj'.out hr']; rfl, hb3⟩
    · have hjn := Lib.hid (show j = rs.length by have := HN.out; omega)
      go_wp2
      go_ret
      refine ⟨?_, hbw⟩
      rw [hjn.out, List.take_length] at hall
      rw [hall]; rfl

theorem own_base_le {w : World} {base b : Nat} {e : TypeId} {size n : Nat} {v : Value} {xs : List Value} (h : w.ownsRow base e size v n xs) (hb : b ≤ base) : w.ownsRow b e size v n xs := by
  refine ⟨h.1, ?_⟩
  rcases h.2 with hn | ⟨g, cap, cur, hv, hbg, rest⟩
  · exact .inl hn
  · exact .inr ⟨g, cap, cur, hv, Nat.le_trans hb hbg, rest⟩

set_option maxHeartbeats 800000 in
set_option maxRecDepth 100000 in
theorem rform_false (r : Rt) (w : World) (hok : r.Ok) (hk : pfxOk r.f r.l r.a = true) :
    Calls Tryd.prog 69 #[.bool false, .agg (rt r)] w fun e w' => ∃ v, e = .returned v ∧ w'.ownsRow w.heap.size 5 1 v (rtForm false r).length ((rtForm false r).map (Value.int .u8)) ∧ Below w.heap.size w w' := by
  have hi18 := Lib.hid (pfx_infol (f := r.f) (l := r.l) hok.1.1)
  have ho := Own.new w 87 (rt r)
  have hb0 := bl_alloc (bl_refl w) (.cells (rt r) 87)
  have hpx := ho.pfxAt
  have hc0 := ho.cell (rt_0 _)
  have hp0 := hok.2.1
  have hp1 := hok.2.2
  have HK := Lib.hid hk
  have hpl : (pfxForm r.l r.a).length ≤ 17 := by
    have := pfxOk_range hk
    unfold pfxForm
    have h5 : (sizeOfBits r.l).toNat ≤ 16 := by unfold sizeOfBits; omega
    simp; omega
  clear hk
  go_enter Tryd.func69, Tryd.ntmps69
  have hown0 := World.ownsRow_nil (w.alloc (.cells (rt r) 87)) w.heap.size 5 1
  go_wp2_with (refine wpList_load_mid rfl 85 _ rfl w.heap.size 1 rfl (pfx r.f r.l r.a).toList (.struct (Tryd.prog.fieldsOf 85)) hpx pfx_desc rfl hi18.out ?_)
  refine (rpbytes_yes _ _ _ _ hok.1 HK.out).mono ?_
  rintro e w2 ⟨v2, rfl, hown2, hb2⟩
  have hb3 := bl_trans hb0 hb2
  have hown1 := own_below hown0 hb2
  obtain ⟨A2, c2, rfl, _, hs2⟩ := own_val hown2
  go_wp2_with (at_builtin; refine wpList_append_grow _ rfl _ _ rfl sl_bytes w.heap.size _ 0 [] rfl hown1 w2.heap.size A2 (pfxForm r.l r.a).length c2 ((pfxForm r.l r.a).map (Value.int .u8)) rfl (by simp) hs2 ints1 (by unfold maxLen; omega) (by omega) hb3.size ?_; intro v3 w3 hown3 hgrow3)
  have hb4 := hb3.grown hgrow3 hb3.size (own_base hown1)
  go_ret
  refine ⟨_, rfl, ?_, hb4⟩
  simpa [rtForm] using hown3

set_option maxHeartbeats 800000 in
set_option maxRecDepth 100000 in
theorem rform_true (r : Rt) (w : World) (hok : r.Ok) (hk : pfxOk r.f r.l r.a = true) :
    Calls Tryd.prog 69 #[.bool true, .agg (rt r)] w fun e w' => ∃ v, e = .returned v ∧ w'.ownsRow w.heap.size 5 1 v (rtForm true r).length ((rtForm true r).map (Value.int .u8)) ∧ Below w.heap.size w w' := by
  have hi18 := Lib.hid (pfx_infol (f := r.f) (l := r.l) hok.1.1)
  have ho := Own.new w 87 (rt r)
  have hb0 := bl_alloc (bl_refl w) (.cells (rt r) 87)
  have hpx := ho.pfxAt
  have hc0 := ho.cell (rt_0 _)
  have hp0 := hok.2.1
  have hp1 := hok.2.2
  have HK := Lib.hid hk
  have hpl : (pfxForm r.l r.a).length ≤ 17 := by
    have := pfxOk_range hk
    unfold pfxForm
    have h5 : (sizeOfBits r.l).toNat ≤ 16 := by unfold sizeOfBits; omega
    simp; omega
  clear hk
  go_enter Tryd.func69, Tryd.ntmps69
  go_wp2_with fail
  refine (of_any 4 r.p _ (by omega) (by omega) hp0 (by omega)).mono ?_
  rintro e w1 ⟨v1, rfl, hown0, hb1⟩
  have ho1 := ho.step hb1
  have hpx1 := ho1.pfxAt
  have hb5 := bl_trans hb0 hb1
  clear ho hpx hc0 hb0 hb1
  go_wp2_with (refine wpList_load_mid rfl 85 _ rfl w.heap.size 1 rfl (pfx r.f r.l r.a).toList (.struct (Tryd.prog.fieldsOf 85)) hpx1 pfx_desc rfl hi18.out ?_)
  refine (rpbytes_yes _ _ _ _ hok.1 HK.out).mono ?_
  rintro e w2 ⟨v2, rfl, hown2, hb2⟩
  have hb3 := bl_trans hb5 hb2
  have hown1 := own_base_le (own_below hown0 hb2) (b := w.heap.size) (by simp)
  obtain ⟨A2, c2, rfl, _, hs2⟩ := own_val hown2
  go_wp2_with (at_builtin; refine wpList_append_grow _ rfl _ _ rfl sl_bytes w.heap.size _ _ _ rfl hown1 w2.heap.size A2 (pfxForm r.l r.a).length c2 ((pfxForm r.l r.a).map (Value.int .u8)) rfl (by simp) hs2 ints1 (by unfold maxLen; omega) (by omega) hb3.size ?_; intro v3 w3 hown3 hgrow3)
  have hb4 := hb3.grown hgrow3 hb3.size (own_base hown1)
  go_ret
  refine ⟨_, rfl, ?_, hb4⟩
  have h4 := digitsOf_len 4 r.p
  have e1 : rtForm true r = digitsOf 4 r.p ++ pfxForm r.l r.a := rfl
  rw [e1, List.length_append, h4, List.map_append]
  exact hown3

set_option maxRecDepth 100000 in
theorem rform_any (add : Bool) (r : Rt) (w : World) (hok : r.Ok) (hk : pfxOk r.f r.l r.a = true) :
    Calls Tryd.prog 69 #[.bool add, .agg (rt r)] w fun e w' => ∃ v, e = .returned v ∧ w'.ownsRow w.heap.size 5 1 v (rtForm add r).length ((rtForm add r).map (Value.int .u8)) ∧ Below w.heap.size w w' := by
  cases add
  · exact rform_false r w hok hk
  · exact rform_true r w hok hk

set_option maxHeartbeats 800000 in
set_option maxRecDepth 100000 in
theorem rnbytes_no (f : Int) (add : Bool) (A : Option Addr) (n c : Nat) (rs : List Rt) (w : World) (h : Routes w w.heap.size A n rs) (hn : n ≤ 1000000000) (hk : rs.all (rtOk f add) = false) :
    Calls Tryd.prog 31 #[.int .i64 f, .bool add, .slice A n c] w fun e w' => e = .returned (.tuple #[.slice none 0 0, .bool false]) ∧ Below w.heap.size w w' := by
  go_enter Tryd.func31, Tryd.ntmps31
  go_wp2_with fail
  refine (rvalid_any f add _ _ _ rs _ h hn).mono ?_
  rw [hk]
  rintro e w1 ⟨rfl, hb⟩
  go_wp2
  go_ret2
  exact ⟨rfl, hb⟩
set_option maxHeartbeats 800000 in
set_option maxRecDepth 100000 in
theorem rnbytes_yes (f : Int) (add : Bool) (A : Option Addr) (n c : Nat) (rs : List Rt) (w : World) (h : Routes w w.heap.size A n rs) (hn : n ≤ 1000000) (hk : rs.all (rtOk f add) = true) :
    Calls Tryd.prog 31 #[.int .i64 f, .bool add, .slice A n c] w fun e w' => ∃ v, e = .returned (.tuple #[v, .bool true]) ∧ w'.ownsRow w.heap.size 5 1 v (formAll add rs).length ((formAll add rs).map (Value.int .u8)) ∧ Below w.heap.size w w' := by
  have HN := Lib.hid h.1
  have HF := Lib.hid (formAll_len hk)
  have HK := Lib.hid hk
  clear hk
  go_enter Tryd.func31, Tryd.ntmps31
  go_wp2_with fail
  refine (rvalid_any f add _ _ _ rs _ h (by omega)).mono ?_
  rw [HK.out]
  rintro e w1 ⟨rfl, hb0⟩
  go_wp2_with fail
  go_loopw [8, 9] (fun v i wr => ∃ (j : Nat), j ≤ n ∧ i = .int .i64 j ∧ wr.ownsRow w.heap.size 5 1 v (formAll add (rs.take j)).length ((formAll add (rs.take j)).map (Value.int .u8)) ∧ (formAll add (rs.take j)).length ≤ 21 * j ∧ Below w.heap.size w wr) (fun _ i _ => n - (intOf i).toNat)
  case atStart => exact ⟨0, Nat.zero_le _, rfl, World.ownsRow_nil _ _ _ _, Nat.zero_le _, hb0⟩
  case round =>
    obtain ⟨j, hj, rfl, hown, hfl, hbw⟩ := hrel
    by_cases hlt : j < n
    · obtain ⟨b, o, rfl, hbB, hok, hrg⟩ := (h.below hbw).at_ hlt
      have hjl := Lib.hid (show j < rs.length by have := HN.out; omega)
      have hro := Lib.hid (show rtOk f add (nthR rs j) = true from List.all_eq_true.1 HK.out _ (nthR_mem hjl.out))
      have hpk := Lib.hid (show pfxOk (nthR rs j).f (nthR rs j).l (nthR rs j).a = true by have := hro.out; simp only [rtOk, Bool.and_eq_true] at this; exact this.1.2)
      have hi19 := Lib.hid (rt_infol hok.1.1)
      have hl21 := rtForm_len (add := add) hpk.out
      go_wp2_with (refine wpList_load_mid rfl 87 _ rfl b (o + j * 19) rfl (rt (nthR rs j)).toList (.struct (Tryd.prog.fieldsOf 87)) hrg rt_desc rfl hi19.out ?_)
      refine (rform_any add _ _ hok hpk.out).mono ?_
      rintro e w2 ⟨v2, rfl, hown2, hb2⟩
      have hown1 := own_below hown hb2
      have hb3 := bl_trans hbw hb2
      clear hown hbw hb2
      obtain ⟨A2, c2, rfl, _, hs2⟩ := own_val hown2
      go_wp2_with (at_builtin; refine wpList_append_grow _ rfl _ _ rfl sl_bytes w.heap.size _ _ _ rfl hown1 w2.heap.size A2 (rtForm add (nthR rs j)).length c2 ((rtForm add (nthR rs j)).map (Value.int .u8)) rfl (by simp) hs2 ints1 (by unfold maxLen; omega) (by omega) hb3.size ?_; intro v3 w3 hown3 hgrow3)
      have hb4 := hb3.grown hgrow3 hb3.size (own_base hown1)
      go_roundw
      case rel =>
        refine ⟨j + 1, by omega, by go_num, ?_, ?_, hb4⟩
        · rw [formAll_take hjl.out, List.length_append, List.map_append]; exact hown3
        · rw [formAll_take hjl.out, List.length_append]; omega
      case measure => simp [intOf]; omega
    · have hjn := Lib.hid (show j = rs.length by have := HN.out; omega)
      go_wp2
      go_ret2
      rw [hjn.out, List.take_length] at hown
      exact ⟨_, rfl, hown, hbw⟩
end Go.Proofs.YtmlmgjdjbpipcaaDoor

/- NlriUnique: the walk -/
import Derived.Test.YtmicpiaflgfojaaRm
import Derived.Test.YtmicpiaflgfojaaAl3
import Derived.Test.YtmicpiaflgfojaaRteq
import Derived.Test.YtmicpiaflgfojaaConR
namespace Go.Proofs.Ytmicpiaflgfojaa
open Go.RowKit

theorem uniqR_kr {rs : List Rt} (h : ∀ r ∈ rs, KR r) : ∀ r ∈ uniqR rs, KR r := fun r hr => h r (uniqR_mem hr)
theorem uniqR_ok {rs : List Rt} (h : ∀ r ∈ rs, r.Ok) : ∀ r ∈ uniqR rs, r.Ok := fun r hr => h r (uniqR_mem hr)
set_option maxRecDepth 100000 in
set_option maxHeartbeats 3200000 in
theorem nuq_main (A : Option Addr) (n c : Nat) (rs : List Rt) (w : World) (h : Routes w w.heap.size A n rs) (hK : ∀ r ∈ rs, KR r) (hm : n ≤ maxLen) :
    Calls Try.prog 3 #[.slice A n c] w fun e w' => e = .returned (.bool true) ∧ Below w.heap.size w w' := by
  unfold maxLen at hm
  by_cases h100 : 100 < n
  · have q : decide ((100 : Int) < (n : Int)) = true := by simp; omega
    clear h h100 hK
    go_enter Try.func3, Try.ntmps3
    go_wp2_with fail
    refine (alive3_any _).mono ?_
    rintro e w1 ⟨rfl, hb⟩
    go_wp2
    go_ret
    exact ⟨rfl, hb⟩
  · have q : decide ((100 : Int) < (n : Int)) = false := by simp; omega
    have hn100 : n ≤ 100 := by omega
    have hlr : rs.length ≤ 100 := by rw [← h.1]; exact hn100
    have hlu : (uniqR rs).length ≤ 100 := Nat.le_trans (uniqR_len rs) hlr
    have HX := Lib.hid h
    have HOk := Lib.hid (uniqR_ok h.2.1)
    have HO2 := Lib.hid h.2.1
    have HU := Lib.hid (fun W (hb : Below w.heap.size w W) => nunique_any A n c rs W ((HX.out.below hb).more hb.size) hK (by omega))
    have HR := Lib.hid (fun W (hb : Below w.heap.size w W) => runique_any A n c rs W ((HX.out.below hb).more hb.size) (by omega))
    have HU2 := Lib.hid (fun (A1 : Option Addr) (c1 : Nat) W (hx : Routes W W.heap.size A1 (uniqR rs).length (uniqR rs)) => nunique_any A1 (uniqR rs).length c1 (uniqR rs) W hx (uniqR_kr hK) (by omega))
    have HU3 := Lib.hid (fun (A1 : Option Addr) (c1 : Nat) W (hx : Routes W W.heap.size A1 (rs ++ rs).length (rs ++ rs)) => nunique_any A1 (rs ++ rs).length c1 (rs ++ rs) W hx (fun r hr => (List.mem_append.1 hr).elim (hK r) (hK r)) (by rw [List.length_append]; omega))
    rw [uniqR_uniqR] at HU2
    rw [uniqR_two] at HU3
    have HC := Lib.hid (fun (A1 : Option Addr) W (hx : RParts W W.heap.size A1 2 [⟨A, n, c, rs⟩, ⟨A, n, c, rs⟩]) => rconcat_any A1 2 2 [⟨A, n, c, rs⟩, ⟨A, n, c, rs⟩] W hx (by omega) (by simp [rflat]; omega))
    have hfl : rflat [⟨A, n, c, rs⟩, ⟨A, n, c, rs⟩] = rs ++ rs := by simp [rflat]
    rw [hfl] at HC
    have HOT := Lib.hid (show ∀ r ∈ rs ++ rs, r.Ok from fun r hr => (List.mem_append.1 hr).elim (HO2.out r) (HO2.out r))
    generalize rs ++ rs = T at *
    generalize uniqR rs = U at *
    clear h h100 hm hK hlr hfl HO2
    go_enter Try.func3, Try.ntmps3
    go_wp2_with fail
    refine (HU.out w (bl_refl w)).mono ?_
    rintro e w1 ⟨v1, rfl, row1, hb1⟩
    obtain ⟨A1, c1, rfl, hc1, hr1⟩ := own_routes row1 HOk.out rfl
    clear row1
    go_wp2_with fail
    refine (alive3_any _).mono ?_
    rintro e w2 ⟨rfl, hb2⟩
    have hB2 := bl_trans hb1 hb2
    have hr2 := (hr1.below hb2).more hb2.size
    go_wp2_with fail
    refine (HR.out w2 hB2).mono ?_
    rintro e w3 ⟨v3, rfl, row3, hb3⟩
    obtain ⟨A3, c3, rfl, hc3, hr3⟩ := own_routes row3 HOk.out rfl
    have hB3 := bl_trans hB2 hb3
    have hr4 := (hr2.below hb3).more hb3.size
    clear row3
    go_wp2_with fail
    refine (routesEq_same A1 A3 U.length c1 c3 U w3 w3.heap.size w3.heap.size hr4 hr3 (by omega)).mono ?_
    rintro e w4 ⟨rfl, m4, rfl⟩
    have hb4 := bl_drewN (bl_refl w3) m4
    have hB4 := bl_trans hB3 hb4
    have hr5 := (hr4.below hb4).more hb4.size
    generalize w3.drewN m4 = w4 at *
    go_wp2_with fail
    refine (HU2.out A1 c1 w4 hr5).mono ?_
    rintro e w5 ⟨v5, rfl, row5, hb5⟩
    obtain ⟨A5, c5, rfl, hc5, hr6⟩ := own_routes row5 HOk.out rfl
    have hB5 := bl_trans hB4 hb5
    have hr7 := (hr5.below hb5).more hb5.size
    clear row5
    go_wp2_with fail
    refine (routesEq_same A5 A1 U.length c5 c1 U w5 w5.heap.size w5.heap.size hr6 hr7 (by omega)).mono ?_
    rintro e w6 ⟨rfl, m6, rfl⟩
    have hb6 := bl_drewN (bl_refl w5) m6
    have hB6 := bl_trans hB5 hb6
    have hr8 := (hr7.below hb6).more hb6.size
    generalize w5.drewN m6 = w6 at *
    have o7 := Own.new w6 22 #[.slice A n c, .slice A n c]
    have hb7 := bl_alloc (bl_refl w6) (.cells #[.slice A n c, .slice A n c] 22)
    clear hr1 hr2 hr3 hr4 hr5 hr6 hr7
    go_wp2_with fail
    have hB7 := bl_trans hB6 hb7
    have hX7 := (HX.out.below hB7).more hB7.size
    have hp7 : RParts (w6.alloc (.cells #[.slice A n c, .slice A n c] 22)) (w6.alloc (.cells #[.slice A n c, .slice A n c] 22)).heap.size (some ⟨w6.heap.size, 0, none⟩) 2 [⟨A, n, c, rs⟩, ⟨A, n, c, rs⟩] := by
      refine ⟨rfl, fun p hp => ?_, Shows.of_owned o7 (by simp)⟩
      simp only [List.mem_cons, List.not_mem_nil, or_false, or_self] at hp
      subst hp
      exact hX7
    have hr9 := (hr8.below hb7).more hb7.size
    refine (HC.out _ _ hp7).mono ?_
    rintro e w8 ⟨v8, rfl, row8, hb8⟩
    obtain ⟨A8, c8, rfl, hc8, hr10⟩ := own_routes row8 HOT.out rfl
    have hB8 := bl_trans hB7 hb8
    have hr11 := (hr9.below hb8).more hb8.size
    clear row8 hp7 hr8 hr9 o7 hX7
    go_wp2_with fail
    refine (HU3.out A8 c8 w8 hr10).mono ?_
    rintro e w9 ⟨v9, rfl, row9, hb9⟩
    obtain ⟨A9, c9, rfl, hc9, hr12⟩ := own_routes row9 HOk.out rfl
    have hB9 := bl_trans hB8 hb9
    have hr13 := (hr11.below hb9).more hb9.size
    clear row9
    go_wp2_with fail
    refine (routesEq_same A9 A1 U.length c9 c1 U w9 w9.heap.size w9.heap.size hr12 hr13 (by omega)).mono ?_
    rintro e w10 ⟨rfl, m10, rfl⟩
    go_wp2
    go_ret
    exact ⟨rfl, bl_drewN hB9 m10⟩
end Go.Proofs.Ytmicpiaflgfojaa

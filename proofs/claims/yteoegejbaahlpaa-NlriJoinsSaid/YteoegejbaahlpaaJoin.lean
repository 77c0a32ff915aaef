/- Concat of two; NlriJoins: the walk -/
import Derived.Test.YteoegejbaahlpaaConB
import Derived.Test.YteoegejbaahlpaaConR
import Derived.Test.YteoegejbaahlpaaAl3
import Derived.Test.YteoegejbaahlpaaNm
namespace Go.Proofs.Yteoegejbaahlpaa
open Go.RowKit

theorem rparts_two {W : World} {j : Nat} {T : TypeId} {A1 A2 : Option Addr} {n1 n2 c1 c2 : Nat} {xs1 xs2 : List Rt} (ho : Own W j T #[.slice A1 n1 c1, .slice A2 n2 c2]) (h1 : Routes W W.heap.size A1 n1 xs1) (h2 : Routes W W.heap.size A2 n2 xs2) :
    RParts W W.heap.size (some ⟨j, 0, none⟩) 2 [⟨A1, n1, c1, xs1⟩, ⟨A2, n2, c2, xs2⟩] := by
  refine ⟨rfl, fun p hp => ?_, Shows.of_owned ho ho.lt⟩
  simp at hp
  rcases hp with rfl | rfl
  · exact h1
  · exact h2
set_option maxRecDepth 100000 in
theorem rconcat_two (A1 A2 : Option Addr) (n1 n2 c1 c2 : Nat) (xs1 xs2 : List Rt) (w : World) (h1 : Routes w w.heap.size A1 n1 xs1) (h2 : Routes w w.heap.size A2 n2 xs2) (hl : n1 + n2 ≤ 1000000) :
    Calls Try.prog 21 #[.slice (some ⟨w.heap.size, 0, none⟩) 2 2] (w.alloc (.cells #[.slice A1 n1 c1, .slice A2 n2 c2] 24)) fun e w' =>
      ∃ A c, e = .returned (.slice A (n1 + n2) c) ∧ Routes w' w'.heap.size A (n1 + n2) (xs1 ++ xs2) ∧ Below w.heap.size w w' := by
  have hb := bl_alloc (bl_refl w) (.cells #[.slice A1 n1 c1, .slice A2 n2 c2] 24)
  have hp := rparts_two (Own.new w 24 #[.slice A1 n1 c1, .slice A2 n2 c2]) ((h1.below hb).more hb.size) ((h2.below hb).more hb.size)
  have hfl : rflat [⟨A1, n1, c1, xs1⟩, ⟨A2, n2, c2, xs2⟩] = xs1 ++ xs2 := by simp [rflat]
  have hln : (xs1 ++ xs2).length = n1 + n2 := by rw [List.length_append, ← h1.1, ← h2.1]
  refine (rconcat_any _ _ _ _ _ hp (by omega) (by rw [hfl, hln]; exact hl)).mono ?_
  rw [hfl, hln]
  rintro e w' ⟨v, rfl, hown, hb2⟩
  obtain ⟨A, c, rfl, _, hr⟩ := own_routes hown (fun r hr => by
    rcases List.mem_append.1 hr with hr | hr
    · exact h1.2.1 r hr
    · exact h2.2.1 r hr) hln.symm
  exact ⟨A, c, rfl, hr, bl_trans hb hb2⟩
set_option maxRecDepth 100000 in
theorem bconcat_two (A1 A2 : Option Addr) (n1 n2 c1 c2 : Nat) (xs1 xs2 : List Int) (w : World) (h1 : Bytes w w.heap.size A1 n1 xs1) (h2 : Bytes w w.heap.size A2 n2 xs2) (hl : n1 + n2 ≤ 1000000000) :
    Calls Try.prog 22 #[.slice (some ⟨w.heap.size, 0, none⟩) 2 2] (w.alloc (.cells #[.slice A1 n1 c1, .slice A2 n2 c2] 22)) fun e w' =>
      ∃ A c, e = .returned (.slice A (n1 + n2) c) ∧ n1 + n2 ≤ c ∧ Bytes w' w'.heap.size A (n1 + n2) (xs1 ++ xs2) ∧ Below w.heap.size w w' := by
  have hb := bl_alloc (bl_refl w) (.cells #[.slice A1 n1 c1, .slice A2 n2 c2] 22)
  have hp := parts_two (Own.new w 22 #[.slice A1 n1 c1, .slice A2 n2 c2]) ((h1.below hb).more hb.size) ((h2.below hb).more hb.size)
  have hfl : flat [⟨A1, n1, c1, xs1⟩, ⟨A2, n2, c2, xs2⟩] = xs1 ++ xs2 := by simp [flat]
  have hln : (xs1 ++ xs2).length = n1 + n2 := by rw [List.length_append, ← h1.1, ← h2.1]
  refine (bconcat_any _ _ _ _ _ hp (by omega) (by rw [hfl, hln]; exact hl)).mono ?_
  rw [hfl, hln]
  rintro e w' ⟨v, rfl, hown, hb2⟩
  obtain ⟨A, c, rfl, hc, hs⟩ := own_val hown
  refine ⟨A, c, rfl, hc, ⟨hln.symm, fun x hx => ?_, hs⟩, bl_trans hb hb2⟩
  rcases List.mem_append.1 hx with hx | hx
  · exact h1.2.1 x hx
  · exact h2.2.1 x hx

set_option maxRecDepth 100000 in
theorem nbytes_ok (f : Int) (add : Bool) (A : Option Addr) (n c : Nat) (rs : List Rt) (w : World) (h : Routes w w.heap.size A n rs) (hn : n ≤ 1000000) (hk : rs.all (rtOk f add) = true) :
    Calls Try.prog 20 #[.int .i64 f, .bool add, .slice A n c] w fun e w' => ∃ g, e = .returned (.tuple #[.slice (some ⟨g, 0, none⟩) (formAll add rs).length (formAll add rs).length, .bool true]) ∧ Bytes w' w'.heap.size (some ⟨g, 0, none⟩) (formAll add rs).length (formAll add rs) ∧ Below w.heap.size w w' := by
  have hrange : ∀ x ∈ formAll add rs, 0 ≤ x ∧ x ≤ 255 := by
    intro x hx
    obtain ⟨r, hr, hxr⟩ := List.mem_flatMap.1 hx
    have hro := List.all_eq_true.1 hk r hr
    have hpk : pfxOk r.f r.l r.a = true := by simp only [rtOk, Bool.and_eq_true] at hro; exact hro.1.2
    have hrg := pfxOk_range hpk
    rcases List.mem_append.1 hxr with hx | hx
    · cases add
      · cases hx
      · exact digitsOf_range 4 r.p x hx
    · exact pfxForm_range (h.2.1 r hr).1 hrg.1 hrg.2 x hx
  cases add
  · exact (nbytes_false f A n c rs w h hn hk).mono fun _ _ ⟨g, he, _, ho, hb⟩ => ⟨g, he, Bytes.of_owned ho hrange ho.lt, hb⟩
  · exact (nbytes_true f A n c rs w h hn hk).mono fun _ _ ⟨g, he, _, ho, hb⟩ => ⟨g, he, Bytes.of_owned ho hrange ho.lt, hb⟩

set_option maxRecDepth 100000 in
theorem joins_early (add : Bool) (A A' : Option Addr) (n n' c c' : Nat) (w : World) (hm : n ≤ maxLen) (hm' : n' ≤ maxLen) (h : 200 < n ∨ 200 < n') :
    Calls Try.prog 4 #[.bool add, .slice A n c, .slice A' n' c'] w fun e w' => e = .returned (.bool true) ∧ Below w.heap.size w w' := by
  unfold maxLen at hm hm'
  by_cases h1 : 200 < n
  · have d1 : decide ((200 : Int) < (n : Int)) = true := by simp; omega
    go_enter Try.func4, Try.ntmps4
    go_wp2_with (go_at_call 14; refine (alive3_any _).mono ?_; rintro e w2 ⟨rfl, hb2⟩)
    go_ret
    exact ⟨rfl, hb2⟩
  · have d1 : decide ((200 : Int) < (n : Int)) = false := by simp; omega
    have d2 : decide ((200 : Int) < (n' : Int)) = true := by simp; omega
    go_enter Try.func4, Try.ntmps4
    go_wp2_with (go_at_call 14; refine (alive3_any _).mono ?_; rintro e w2 ⟨rfl, hb2⟩)
    go_ret
    exact ⟨rfl, hb2⟩

set_option maxRecDepth 100000 in
set_option maxHeartbeats 400000 in
theorem joins_bad (add : Bool) (A A' : Option Addr) (n n' c c' : Nat) (a b : List Rt) (w : World) (ha : Routes w w.heap.size A n a) (hb : Routes w w.heap.size A' n' b) (h1 : n ≤ 200) (h2 : n' ≤ 200) (hk : a.all (rtOk 1 add) = false ∨ b.all (rtOk 1 add) = false) :
    Calls Try.prog 4 #[.bool add, .slice A n c, .slice A' n' c'] w fun e w' => e = .returned (.bool true) ∧ Below w.heap.size w w' := by
  have d1 : decide ((200 : Int) < (n : Int)) = false := by simp; omega
  have d2 : decide ((200 : Int) < (n' : Int)) = false := by simp; omega
  by_cases hka : a.all (rtOk 1 add) = true
  · have HKA := Lib.hid hka
    have HKB := Lib.hid (show b.all (rtOk 1 add) = false by rcases hk with hk | hk; rw [hka] at hk; cases hk; exact hk)
    clear hka hk
    go_enter Try.func4, Try.ntmps4
    go_wp2_with fail
    refine (rvalid_any 1 add _ _ _ a _ ha (by omega)).mono ?_
    rw [HKA.out]
    rintro e w1 ⟨rfl, hb1⟩
    go_wp2_with fail
    refine (rvalid_any 1 add _ _ _ b _ ((hb.below hb1).more hb1.size) (by omega)).mono ?_
    rw [HKB.out]
    rintro e w2 ⟨rfl, hb2⟩
    go_wp2_with fail
    refine (alive3_any _).mono ?_
    rintro e w3 ⟨rfl, hb3⟩
    go_wp2
    go_ret
    exact ⟨rfl, bl_trans (bl_trans hb1 hb2) hb3⟩
  · have HKA := Lib.hid (show a.all (rtOk 1 add) = false by simpa using hka)
    clear hka hk
    go_enter Try.func4, Try.ntmps4
    go_wp2_with fail
    refine (rvalid_any 1 add _ _ _ a _ ha (by omega)).mono ?_
    rw [HKA.out]
    rintro e w1 ⟨rfl, hb1⟩
    go_wp2_with fail
    refine (alive3_any _).mono ?_
    rintro e w3 ⟨rfl, hb3⟩
    go_wp2
    go_ret
    exact ⟨rfl, bl_trans hb1 hb3⟩

set_option maxRecDepth 100000 in
set_option maxHeartbeats 1600000 in
theorem joins_main (add : Bool) (A A' : Option Addr) (n n' c c' : Nat) (a b : List Rt) (w : World) (ha : Routes w w.heap.size A n a) (hb : Routes w w.heap.size A' n' b) (h1 : n ≤ 200) (h2 : n' ≤ 200) (hka : a.all (rtOk 1 add) = true) (hkb : b.all (rtOk 1 add) = true) :
    Calls Try.prog 4 #[.bool add, .slice A n c, .slice A' n' c'] w fun e w' => e = .returned (.bool true) ∧ Below w.heap.size w w' := by
  have d1 : decide ((200 : Int) < (n : Int)) = false := by simp; omega
  have d2 : decide ((200 : Int) < (n' : Int)) = false := by simp; omega
  have HKA := Lib.hid hka
  have HKB := Lib.hid hkb
  have HKC := Lib.hid (show (a ++ b).all (rtOk 1 add) = true by rw [List.all_append, hka, hkb]; rfl)
  have HOC := Lib.hid (show ∀ r ∈ a ++ b, r.Ok from fun r hr => by
    rcases List.mem_append.1 hr with hr | hr
    · exact ha.2.1 r hr
    · exact hb.2.1 r hr)
  have HNA := Lib.hid ha.1
  have HNB := Lib.hid hb.1
  have HFA := Lib.hid (show formAll add (a ++ b) = formAll add a ++ formAll add b from formAll_append add a b)
  have hfa := formAll_len hka
  have hfb := formAll_len hkb
  have hla : (formAll add a).length ≤ 4200 := by have := ha.1; omega
  have hlb : (formAll add b).length ≤ 4200 := by have := hb.1; omega
  clear hka hkb hfa hfb
  go_enter Try.func4, Try.ntmps4
  go_wp2_with fail
  refine (rvalid_any 1 add _ _ _ a _ ha (by omega)).mono ?_
  rw [HKA.out]
  rintro e w1 ⟨rfl, hb1⟩
  go_wp2_with fail
  refine (rvalid_any 1 add _ _ _ b _ ((hb.below hb1).more hb1.size) (by omega)).mono ?_
  rw [HKB.out]
  rintro e w2 ⟨rfl, hb2⟩
  have hb12 := bl_trans hb1 hb2
  clear hb1 hb2
  go_wp2_with fail
  refine (nbytes_ok 1 add _ _ _ a _ ((ha.below hb12).more hb12.size) (by omega) HKA.out).mono ?_
  rintro e w3 ⟨g1, rfl, hx, hb3⟩
  have hb13 := bl_trans hb12 hb3
  clear hb12 hb3
  go_wp2_with fail
  refine (nbytes_ok 1 add _ _ _ b _ ((hb.below hb13).more hb13.size) (by omega) HKB.out).mono ?_
  rintro e w4 ⟨g2, rfl, hy, hb4⟩
  have hx4 := (hx.below hb4).more hb4.size
  have hb14 := bl_trans hb13 hb4
  clear hx hb13 hb4
  go_wp2_with fail
  refine (rconcat_two _ _ _ _ _ _ a b _ ((ha.below hb14).more hb14.size) ((hb.below hb14).more hb14.size) (by omega)).mono ?_
  rintro e w5 ⟨A5, c5, rfl, hr5, hb5⟩
  have hx5 := (hx4.below hb5).more hb5.size
  have hy5 := (hy.below hb5).more hb5.size
  have hb15 := bl_trans hb14 hb5
  clear hx4 hy hb14 hb5
  go_wp2_with fail
  refine (nbytes_ok 1 add _ _ _ (a ++ b) _ hr5 (by omega) HKC.out).mono ?_
  rintro e w6 ⟨g6, rfl, hz, hb6⟩
  have hx6 := (hx5.below hb6).more hb6.size
  have hy6 := (hy5.below hb6).more hb6.size
  have hb16 := bl_trans hb15 hb6
  clear hx5 hy5 hb15 hb6 hr5
  go_wp2_with fail
  refine (bconcat_two _ _ _ _ _ _ _ _ _ hx6 hy6 (by omega)).mono ?_
  rintro e w7 ⟨A7, c7, rfl, hc7, hq7, hb7⟩
  have hx7 := (hx6.below hb7).more hb7.size
  have hy7 := (hy6.below hb7).more hb7.size
  have hz7 := (hz.below hb7).more hb7.size
  have hb17 := bl_trans hb16 hb7
  clear hx6 hy6 hz hb16 hb7
  go_wp2_with fail
  refine (nread_any 1 add _ _ _ _ _ hq7 (by omega)).mono ?_
  rintro e w8 ⟨v8, a8, rfl, hrd, hb8⟩
  have hx8 := (hx7.below hb8).more hb8.size
  have hy8 := (hy7.below hb8).more hb8.size
  have hz8 := (hz7.below hb8).more hb8.size
  have hb18 := bl_trans hb17 hb8
  clear hx7 hy7 hz7 hb17 hb8 hq7
  rw [← HFA.out] at hrd
  rcases hrd with ⟨rs', A6, c6, rfl, hp, rfl, hc6, hro⟩ | ⟨p, rs', rfl, hp1, hp2, hp3, _⟩
  · have hrs : rs' = a ++ b := parsed_all HOC.out HKC.out hp
    subst hrs
    have HL := Lib.hid (show (a ++ b).length = n + n' by rw [List.length_append, ← HNA.out, ← HNB.out])
    rw [HL.out] at hro ⊢
    rw [HFA.out, List.length_append] at hz8 ⊢
    go_wp2_with fail
    refine (alive3_any _).mono ?_
    rintro e w9 ⟨rfl, hb9⟩
    have hx9 := (hx8.below hb9).more hb9.size
    have hy9 := (hy8.below hb9).more hb9.size
    have hz9 := (hz8.below hb9).more hb9.size
    have hr9 := (hro.below hb9).more hb9.size
    have hb19 := bl_trans hb18 hb9
    clear hx8 hy8 hz8 hro hb18 hb9
    go_wp2_with fail
    refine (bconcat_two _ _ _ _ _ _ _ _ _ hx9 hy9 (by omega)).mono ?_
    rintro e w10 ⟨A10, c10, rfl, hc10, hq10, hb10⟩
    have hz10 := (hz9.below hb10).more hb10.size
    have hr10 := (hr9.below hb10).more hb10.size
    have hb110 := bl_trans hb19 hb10
    clear hx9 hy9 hz9 hr9 hb19 hb10
    go_wp2_with fail
    refine (bytesEq_any _ _ _ _ _ _ _ _ _ _ _ hz10 hq10 (by omega) (by omega)).mono ?_
    rw [decide_eq_true rfl]
    rintro e w11 ⟨rfl, m, rfl⟩
    have hb111 := bl_drewN hb110 m
    have hr11 : Routes (w10.drewN m) (w10.drewN m).heap.size A6 (n + n') (a ++ b) := hr10
    clear hz10 hq10 hb110 hr10
    go_wp2_with fail
    refine (rconcat_two _ _ _ _ _ _ a b _ ((ha.below hb111).more hb111.size) ((hb.below hb111).more hb111.size) (by omega)).mono ?_
    rintro e w12 ⟨A12, c12, rfl, hr12, hb12⟩
    have hrl := (hr11.below hb12).more hb12.size
    have hbz := bl_trans hb111 hb12
    go_wp2_with fail
    refine (routesEq_same _ _ _ _ _ (a ++ b) _ _ _ hrl hr12 (by omega)).mono ?_
    rintro e w13 ⟨rfl, m2, rfl⟩
    go_wp2
    go_ret
    exact ⟨rfl, bl_drewN hbz m2⟩
  · exact absurd (parsed_go HOC.out HKC.out hp2 hp1) (by rw [hp3]; decide)

set_option maxRecDepth 100000 in
theorem joins_all (add : Bool) (A A' : Option Addr) (n n' c c' : Nat) (a b : List Rt) (w : World) (ha : Routes w w.heap.size A n a) (hb : Routes w w.heap.size A' n' b) (hm : n ≤ maxLen) (hm' : n' ≤ maxLen) :
    Calls Try.prog 4 #[.bool add, .slice A n c, .slice A' n' c'] w fun e w' => e = .returned (.bool true) ∧ Below w.heap.size w w' := by
  by_cases h1 : 200 < n ∨ 200 < n'
  · exact joins_early add A A' n n' c c' w hm hm' h1
  · by_cases hka : a.all (rtOk 1 add) = true
    · by_cases hkb : b.all (rtOk 1 add) = true
      · exact joins_main add A A' n n' c c' a b w ha hb (by omega) (by omega) hka hkb
      · exact joins_bad add A A' n n' c c' a b w ha hb (by omega) (by omega) (.inr (by simpa using hkb))
    · exact joins_bad add A A' n n' c c' a b w ha hb (by omega) (by omega) (.inl (by simpa using hka))
end Go.Proofs.Yteoegejbaahlpaa

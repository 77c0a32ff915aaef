/- NlriForms: the walk -/
import Derived.Test.YtbojfoefelbakaaAl3
namespace Go.Proofs.Ytbojfoefelbakaa
open Go.RowKit

set_option maxRecDepth 100000 in
theorem forms_early (f : Int) (add : Bool) (A : Option Addr) (n c : Nat) (w : World) (hm : n ≤ maxLen) (h : 300 < n) :
    Calls Try.prog 8 #[.int .i64 f, .bool add, .slice A n c] w fun e w' => e = .returned (.bool true) ∧ Below w.heap.size w w' := by
  unfold maxLen at hm
  have h1 : (300 : Int) < (n : Int) := by omega
  go_enter Try.func8, Try.ntmps8
  go_wp2_with fail
  refine (alive3_any _).mono ?_
  rintro e w2 ⟨rfl, hb2⟩
  go_wp2
  go_ret
  exact ⟨rfl, hb2⟩

set_option maxHeartbeats 800000 in
set_option maxRecDepth 100000 in
theorem forms_no (f : Int) (add : Bool) (A : Option Addr) (n c : Nat) (rs : List Rt) (w : World) (h : Routes w w.heap.size A n rs) (hn : n ≤ 300) (hk : rs.all (rtOk f add) = false) :
    Calls Try.prog 8 #[.int .i64 f, .bool add, .slice A n c] w fun e w' => e = .returned (.bool true) ∧ Below w.heap.size w w' := by
  have h1 : ¬ (300 : Int) < (n : Int) := by omega
  have HK := Lib.hid hk
  clear hk
  go_enter Try.func8, Try.ntmps8
  go_wp2_with fail
  refine (nbytes_no f add _ _ _ rs _ h (by omega) HK.out).mono ?_
  rintro e w1 ⟨rfl, hb1⟩
  go_wp2_with fail
  refine (rnbytes_no f add _ _ _ rs _ ((h.below hb1).more hb1.size) (by omega) HK.out).mono ?_
  rintro e w2 ⟨rfl, hb2⟩
  have hb12 := bl_trans hb1 hb2
  go_wp2_with fail
  refine (nvalid_any f add _ _ _ rs _ ((h.below hb12).more hb12.size) (by omega)).mono ?_
  rw [HK.out]
  rintro e w3 ⟨rfl, hb3⟩
  have hb13 := bl_trans hb12 hb3
  go_wp2_with fail
  refine (rvalid_any f add _ _ _ rs _ ((h.below hb13).more hb13.size) (by omega)).mono ?_
  rw [HK.out]
  rintro e w4 ⟨rfl, hb4⟩
  have hb14 := bl_trans hb13 hb4
  go_wp2_with fail
  refine (bytesEq_any _ _ _ _ _ _ [] [] _ w4.heap.size w4.heap.size (Bytes.nil _ _ _) (Bytes.nil _ _ _) (by decide) (by decide)).mono ?_
  rintro e w5 ⟨rfl, m, rfl⟩
  have hb15 := bl_drewN hb14 m
  go_wp2_with fail
  refine (alive3_any _).mono ?_
  rintro e w6 ⟨rfl, hb6⟩
  go_wp2
  go_ret
  exact ⟨rfl, bl_trans hb15 hb6⟩

set_option maxHeartbeats 1600000 in
set_option maxRecDepth 100000 in
theorem forms_yes (f : Int) (add : Bool) (A : Option Addr) (n c : Nat) (rs : List Rt) (w : World) (h : Routes w w.heap.size A n rs) (hn : n ≤ 300) (hk : rs.all (rtOk f add) = true) :
    Calls Try.prog 8 #[.int .i64 f, .bool add, .slice A n c] w fun e w' => e = .returned (.bool true) ∧ Below w.heap.size w w' := by
  have h1 : ¬ (300 : Int) < (n : Int) := by omega
  have HK := Lib.hid hk
  have HN := Lib.hid h.1
  have HO := Lib.hid h.2.1
  have HF := Lib.hid (formAll_len hk)
  have hfl : (formAll add rs).length ≤ 6300 := by have := HF.out; have := HN.out; omega
  have hrange : ∀ x ∈ formAll add rs, 0 ≤ x ∧ x ≤ 255 := by
    intro x hx
    obtain ⟨r, hr, hxr⟩ := List.mem_flatMap.1 hx
    have hro := List.all_eq_true.1 hk r hr
    have hpk : pfxOk r.f r.l r.a = true := by simp only [rtOk, Bool.and_eq_true] at hro; exact hro.1.2
    have hrg := pfxOk_range hpk
    rcases List.mem_append.1 hxr with hx | hx
    · cases add
      · cases hx
      · exact digitsOf_range 4 r.p x hx
    · exact pfxForm_range (h.2.1 r hr).1 hrg.1 hrg.2 x hx
  have HRG := Lib.hid hrange
  clear hk hrange
  have nb : ∀ W : World, Routes W W.heap.size A n rs → Calls Try.prog 28 #[.int .i64 f, .bool add, .slice A n c] W fun e w' => ∃ g, e = .returned (.tuple #[.slice (some ⟨g, 0, none⟩) (formAll add rs).length (formAll add rs).length, .bool true]) ∧ W.heap.size ≤ g ∧ Own w' g 5 ((formAll add rs).map (Value.int .u8)).toArray ∧ Below W.heap.size W w' := by
    intro W hW
    cases add
    · exact nbytes_false f A n c rs W hW (by omega) HK.out
    · exact nbytes_true f A n c rs W hW (by omega) HK.out
  have NB := Lib.hid nb
  clear nb
  go_enter Try.func8, Try.ntmps8
  go_wp2_with fail
  refine (NB.out _ h).mono ?_
  rintro e w1 ⟨g, rfl, hg, hown, hb1⟩
  go_wp2_with fail
  refine (rnbytes_yes f add _ _ _ rs _ ((h.below hb1).more hb1.size) (by omega) HK.out).mono ?_
  rintro e w2 ⟨v, rfl, hrow, hb2⟩
  obtain ⟨A2, c2, rfl, _, hs2⟩ := own_val hrow
  have hby := Bytes.of_owned (hown.step hb2) HRG.out (hown.step hb2).lt
  have hwant : Bytes w2 w2.heap.size A2 (formAll add rs).length (formAll add rs) := ⟨rfl, HRG.out, hs2⟩
  have hb12 := bl_trans hb1 hb2
  clear hrow hs2 hown
  go_wp2_with fail
  refine (nvalid_any f add _ _ _ rs _ ((h.below hb12).more hb12.size) (by omega)).mono ?_
  rw [HK.out]
  rintro e w3 ⟨rfl, hb3⟩
  have hb13 := bl_trans hb12 hb3
  go_wp2_with fail
  refine (rvalid_any f add _ _ _ rs _ ((h.below hb13).more hb13.size) (by omega)).mono ?_
  rw [HK.out]
  rintro e w4 ⟨rfl, hb4⟩
  have hb14 := bl_trans hb13 hb4
  have hb24 := bl_trans hb3 hb4
  go_wp2_with fail
  refine (bytesEq_any _ _ _ _ _ _ (formAll add rs) (formAll add rs) _ _ _ (hby.below hb24) (hwant.below hb24) (by omega) (by omega)).mono ?_
  rw [decide_eq_true rfl]
  rintro e w5 ⟨rfl, m, rfl⟩
  have hb15 := bl_drewN hb14 m
  have hb25 := bl_drewN hb24 m
  go_wp2_with fail
  refine (nread_any f add _ _ _ (formAll add rs) _ ((hby.below hb25).more hb25.size) (by omega)).mono ?_
  rintro e w6 ⟨v6, a6, rfl, hrd, hb6⟩
  have hb16 := bl_trans hb15 hb6
  rcases hrd with ⟨rs', A6, c6, rfl, hp, rfl, hc6, hro⟩ | ⟨p, rs', rfl, hp1, hp2, hp3, _⟩
  · have hrs : rs' = rs := parsed_all HO.out HK.out hp
    subst hrs
    have hn6 := HN.out
    have hL : Routes w w.heap.size A rs'.length rs' := by rw [← hn6]; exact h
    go_wp2_with fail
    refine (alive3_any _).mono ?_
    rintro e w7 ⟨rfl, hb7⟩
    have hb17 := bl_trans hb16 hb7
    go_wp2_with fail
    refine (routesEq_same _ _ _ _ _ rs' _ _ _ (hro.below hb7) (hL.below hb17) (by omega)).mono ?_
    rintro e w8 ⟨rfl, m8, rfl⟩
    have hb18 := bl_drewN hb17 m8
    go_wp2_with fail
    refine (nsize_any f add _ _ _ rs' _ ((hL.below hb18).more hb18.size) (by omega) HK.out).mono ?_
    rintro e w9 ⟨rfl, hb9⟩
    go_wp2
    go_ret
    exact ⟨rfl, bl_trans hb18 hb9⟩
  · exact absurd (parsed_go HO.out HK.out hp2 hp1) (by rw [hp3]; decide)

set_option maxRecDepth 100000 in
theorem forms_all (f : Int) (add : Bool) (A : Option Addr) (n c : Nat) (rs : List Rt) (w : World) (h : Routes w w.heap.size A n rs) (hm : n ≤ maxLen) :
    Calls Try.prog 8 #[.int .i64 f, .bool add, .slice A n c] w fun e w' => e = .returned (.bool true) ∧ Below w.heap.size w w' := by
  by_cases h1 : 300 < n
  · exact forms_early f add A n c w hm h1
  · by_cases hk : rs.all (rtOk f add) = true
    · exact forms_yes f add A n c rs w h (by omega) hk
    · exact forms_no f add A n c rs w h (by omega) (by simpa using hk)
end Go.Proofs.Ytbojfoefelbakaa

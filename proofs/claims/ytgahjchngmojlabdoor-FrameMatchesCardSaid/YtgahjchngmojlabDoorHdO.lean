/- peerageref04.Parse: an unknown kind; a length that its kind does not have; what is accepted -/
import Derived.Test.YtgahjchngmojlabDoorHdN
namespace Go.Proofs.YtgahjchngmojlabDoor
open Go.RowKit

set_option maxRecDepth 100000 in
set_option maxHeartbeats 3200000 in
theorem rparse_kind (a0 a1 a2 a3 a4 a5 : Bool) (A : Option Addr) (n c : Nat) (xs : List Int) (w : World) (hx : Bytes w w.heap.size A n xs) (_hn : n ≤ 1000000000) (hall : ∀ j, j < 16 → nth xs j = 255) (hs : 19 ≤ n) (hr : 19 ≤ nth xs 16 * 256 + nth xs 17 ∧ nth xs 16 * 256 + nth xs 17 ≤ (if a1 then 65535 else 4096)) (hk : hLeast (nth xs 18) = 0) :
    Calls Tryd.prog 41 #[.agg #[.bool a0, .bool a1, .bool a2, .bool a3, .bool a4, .bool a5], .slice A n c] w fun e w' => ∃ G, e = .returned (.tuple #[.int .i64 0, .int .i64 0, .agg #[.int .i64 4, .int .i64 1, .int .i64 3, .slice (some ⟨G, 0, none⟩) 1 1, .int .i64 18]]) ∧ w.heap.size ≤ G ∧ Own w' G 5 #[.int .u8 (nth xs 18)] ∧ Below w.heap.size w w' := by
  obtain ⟨V, hV, oO, oV, hb0, hsz⟩ := rp_worlds a0 a1 a2 a3 a4 a5 w
  have hx1 := (hx.below hb0).more hb0.size
  have HV := Lib.hid hV
  clear hV
  obtain ⟨b, o, rfl, hb, c16, c17, c18, l0, u0, l1, u1, l2, u2⟩ := hx1.three hs
  have hbw0 := hx.three hs
  have hbw : b < w.heap.size := by obtain ⟨b', o', eb, h, _⟩ := hbw0; obtain ⟨rfl, rfl⟩ : b = b' ∧ o = o' := by simpa using eb
                                   exact h
  clear hbw0
  have i16 : (16 : Int) < (n : Int) := by omega
  have i17 : (17 : Int) < (n : Int) := by omega
  have i18 : (18 : Int) < (n : Int) := by omega
  have n1 : b ≠ w.heap.size + 1 := by omega
  have e16 : IntKind.i64.wrap (nth xs 16) = nth xs 16 := by rw [IntKind.wrap_i64]; omega
  have e17 : IntKind.i64.wrap (nth xs 17) = nth xs 17 := by rw [IntKind.wrap_i64]; omega
  have e18 : IntKind.i64.wrap (nth xs 18) = nth xs 18 := by rw [IntKind.wrap_i64]; omega
  have em : IntKind.i64.wrap (nth xs 16 * 256) = nth xs 16 * 256 := by rw [IntKind.wrap_i64]; omega
  have es : IntKind.i64.wrap (nth xs 16 * 256 + nth xs 17) = nth xs 16 * 256 + nth xs 17 := by rw [IntKind.wrap_i64]; omega
  have HX := Lib.hid hr
  clear hr
  have e0 : (hLeast (nth xs 18) == 0) = true := by simpa using hk
  clear hk
  generalize nth xs 16 = y0 at *
  generalize nth xs 17 = y1 at *
  generalize nth xs 18 = y2 at *
  have HA := Lib.hid hall
  clear hall
  go_enter Tryd.func41, Tryd.ntmps41
  go_wp2
  go_loop [7] (fun v => ∃ k : Nat, k ≤ 16 ∧ k ≤ n ∧ v = .int .i64 k) (fun v => 16 - (intOf v).toNat)
  case atStart => exact ⟨0, by omega, by omega, rfl⟩
  case round =>
    obtain ⟨k, hk, hk2, rfl⟩ := hrel
    rw [← HV.out]
    by_cases hgo : k < 16 ∧ k < n
    · obtain ⟨b2, o2, eb2, _, hc, h0, h1⟩ := hx1.at_ (k := k) hgo.2
      obtain ⟨rfl, rfl⟩ : b = b2 ∧ o = o2 := by simpa using eb2
      have hk16 : (k : Int) < 16 := by omega
      have hkn : (k : Int) < (n : Int) := by omega
      have e1 : (nth xs k != 255) = false := by have := HA.out k hgo.1; simpa using this
      clear hgo
      go_wp2
      go_round
      case rel => exact ⟨k + 1, by omega, by omega, by go_num⟩
      case measure => simp [intOf]; omega
    · have hk16 : k = 16 := by omega
      subst hk16
      clear hgo
      clear HA HV
      go_wp2_with fail
      have HS0 : V.drew.cell? ⟨b, o + 16, none⟩ = some (.int .u8 y0) ∧ V.drew.cell? ⟨b, o + 17, none⟩ = some (.int .u8 y1) ∧ V.drew.cell? ⟨b, o + 18, none⟩ = some (.int .u8 y2) := ⟨c16, c17, c18⟩
      go_region_held3 (fun W => W.cell? ⟨b, o + 16, none⟩ = some (.int .u8 y0) ∧ W.cell? ⟨b, o + 17, none⟩ = some (.int .u8 y1) ∧ W.cell? ⟨b, o + 18, none⟩ = some (.int .u8 y2)) (with_reducible exact HS0) (fail)
      have oU := oO.drew
      have k0 := oU.cell (i := 0) (v := .bool a0) rfl
      have k1 := oU.cell (i := 1) (v := .bool a1) rfl
      have k2 := oU.cell (i := 2) (v := .bool a2) rfl
      have k3 := oU.cell (i := 3) (v := .bool a3) rfl
      have k4 := oU.cell (i := 4) (v := .bool a4) rfl
      have k5 := oU.cell (i := 5) (v := .bool a5) rfl
      have hb1 := hb0.drew
      have HVV := Lib.hid oV.drew
      have HZ := Lib.hid (show w.heap.size + 1 + 1 ≤ V.drew.heap.size from Nat.le_of_eq hsz.symm)
      clear oO oV hb0 hx hx1 hsz oU
      generalize V.drew = U at *
      have c16 := HS0.1
      have c17 := HS0.2.1
      have c18 := HS0.2.2
      have hbU : b < U.heap.size := by have := HZ.out; omega
      cases a1
      · have d0 : decide (y0 * 256 + y1 < 19) = false := by have hr := HX.out; simp; omega
        have d1 : decide (4096 < y0 * 256 + y1) = false := by have hr := HX.out; simp at hr ⊢; omega
        go_wp2_with fail
        refine (rleast_any y2 _).mono ?_
        rintro e u0 ⟨rfl, rfl⟩
        have oD := Own.new U 5 #[.int .u8 y2]
        have hbA := bl_alloc hb1 (.cells #[.int .u8 y2] 5)
        have pV1 := HVV.out.alloc (.cells #[.int .u8 y2] 5)
        clear HVV hb1 c16 c17 HS0 k0 k1 k2 k3 k4 k5
        go_wp2_with fail
        refine (bad_any 3 18 _ 1 1 _).mono ?_
        rintro e w1 ⟨rfl, hbf⟩
        have hbw := bl_trans hbA hbf
        have pV := pV1.step hbf
        have hoG := oD.step hbf
        have v0 := pV.cell (i := 0) (v := .int .i64 0) rfl
        have v1 := pV.cell (i := 1) (v := .int .i64 0) rfl
        have v2 := pV.cell (i := 2) (v := .int .i64 0) rfl
        have v3 := pV.cell (i := 3) (v := .slice none 0 0) rfl
        have v4 := pV.cell (i := 4) (v := .int .i64 0) rfl
        have f0 := pV.frozen 0
        have f1 := pV.frozen 1
        have f2 := pV.frozen 2
        have f3 := pV.frozen 3
        have f4 := pV.frozen 4
        have hlt2 := pV.lt
        clear hbA hbf pV1 oD c18
        go_wp2
        refine bodyPost_ret (results_ttc (p := 6) (q := 4) (r := 5) (fn := Tryd.f41) rfl _ _ (w.heap.size + 1) 49 #[.int .i64 4, .int .i64 1, .int .i64 3, .slice (some ⟨U.heap.size, 0, none⟩) 1 1, .int .i64 18] _ rfl (own_five pV _ _ _ _ _) vd_desc rfl (vd_info _ _ _ _ _)) rfl ⟨U.heap.size, rfl, (by have := HZ.out; omega), (st5_far hoG (by have := HZ.out; omega) _ _ _ _ _), below_five hbw (by omega) _ _ _ _ _⟩
      · have d0 : decide (y0 * 256 + y1 < 19) = false := by have hr := HX.out; simp; omega
        have d1 : decide (65535 < y0 * 256 + y1) = false := by have hr := HX.out; simp at hr ⊢; omega
        go_wp2_with fail
        refine (rleast_any y2 _).mono ?_
        rintro e u0 ⟨rfl, rfl⟩
        have oD := Own.new U 5 #[.int .u8 y2]
        have hbA := bl_alloc hb1 (.cells #[.int .u8 y2] 5)
        have pV1 := HVV.out.alloc (.cells #[.int .u8 y2] 5)
        clear HVV hb1 c16 c17 HS0 k0 k1 k2 k3 k4 k5
        go_wp2_with fail
        refine (bad_any 3 18 _ 1 1 _).mono ?_
        rintro e w1 ⟨rfl, hbf⟩
        have hbw := bl_trans hbA hbf
        have pV := pV1.step hbf
        have hoG := oD.step hbf
        have v0 := pV.cell (i := 0) (v := .int .i64 0) rfl
        have v1 := pV.cell (i := 1) (v := .int .i64 0) rfl
        have v2 := pV.cell (i := 2) (v := .int .i64 0) rfl
        have v3 := pV.cell (i := 3) (v := .slice none 0 0) rfl
        have v4 := pV.cell (i := 4) (v := .int .i64 0) rfl
        have f0 := pV.frozen 0
        have f1 := pV.frozen 1
        have f2 := pV.frozen 2
        have f3 := pV.frozen 3
        have f4 := pV.frozen 4
        have hlt2 := pV.lt
        clear hbA hbf pV1 oD c18
        go_wp2
        refine bodyPost_ret (results_ttc (p := 6) (q := 4) (r := 5) (fn := Tryd.f41) rfl _ _ (w.heap.size + 1) 49 #[.int .i64 4, .int .i64 1, .int .i64 3, .slice (some ⟨U.heap.size, 0, none⟩) 1 1, .int .i64 18] _ rfl (own_five pV _ _ _ _ _) vd_desc rfl (vd_info _ _ _ _ _)) rfl ⟨U.heap.size, rfl, (by have := HZ.out; omega), (st5_far hoG (by have := HZ.out; omega) _ _ _ _ _), below_five hbw (by omega) _ _ _ _ _⟩
set_option maxRecDepth 100000 in
set_option maxHeartbeats 3200000 in
theorem rparse_allow (a0 a1 a2 a3 a4 a5 : Bool) (A : Option Addr) (n c : Nat) (xs : List Int) (w : World) (hx : Bytes w w.heap.size A n xs) (_hn : n ≤ 1000000000) (hall : ∀ j, j < 16 → nth xs j = 255) (hs : 19 ≤ n) (hr : 19 ≤ nth xs 16 * 256 + nth xs 17 ∧ nth xs 16 * 256 + nth xs 17 ≤ (if a1 then 65535 else 4096)) (hkn : hLeast (nth xs 18) ≠ 0) (hA : hAllow a1 (nth xs 18) (nth xs 16 * 256 + nth xs 17) = false) :
    Calls Tryd.prog 41 #[.agg #[.bool a0, .bool a1, .bool a2, .bool a3, .bool a4, .bool a5], .slice A n c] w fun e w' => ∃ G, e = .returned (.tuple #[.int .i64 0, .int .i64 0, .agg #[.int .i64 4, .int .i64 1, .int .i64 2, .slice (some ⟨G, 0, none⟩) 2 2, .int .i64 16]]) ∧ w.heap.size ≤ G ∧ Own w' G 5 #[.int .u8 (nth xs 16), .int .u8 (nth xs 17)] ∧ Below w.heap.size w w' := by
  obtain ⟨V, hV, oO, oV, hb0, hsz⟩ := rp_worlds a0 a1 a2 a3 a4 a5 w
  have hx1 := (hx.below hb0).more hb0.size
  have HV := Lib.hid hV
  clear hV
  obtain ⟨b, o, rfl, hb, c16, c17, c18, l0, u0, l1, u1, l2, u2⟩ := hx1.three hs
  have hbw0 := hx.three hs
  have hbw : b < w.heap.size := by obtain ⟨b', o', eb, h, _⟩ := hbw0; obtain ⟨rfl, rfl⟩ : b = b' ∧ o = o' := by simpa using eb
                                   exact h
  clear hbw0
  have i16 : (16 : Int) < (n : Int) := by omega
  have i17 : (17 : Int) < (n : Int) := by omega
  have i18 : (18 : Int) < (n : Int) := by omega
  have n1 : b ≠ w.heap.size + 1 := by omega
  have e16 : IntKind.i64.wrap (nth xs 16) = nth xs 16 := by rw [IntKind.wrap_i64]; omega
  have e17 : IntKind.i64.wrap (nth xs 17) = nth xs 17 := by rw [IntKind.wrap_i64]; omega
  have e18 : IntKind.i64.wrap (nth xs 18) = nth xs 18 := by rw [IntKind.wrap_i64]; omega
  have em : IntKind.i64.wrap (nth xs 16 * 256) = nth xs 16 * 256 := by rw [IntKind.wrap_i64]; omega
  have es : IntKind.i64.wrap (nth xs 16 * 256 + nth xs 17) = nth xs 16 * 256 + nth xs 17 := by rw [IntKind.wrap_i64]; omega
  have HX := Lib.hid hr
  clear hr
  have e0 : (hLeast (nth xs 18) == 0) = false := by simpa using hkn
  have HAL := Lib.hid hA
  clear hkn hA
  generalize nth xs 16 = y0 at *
  generalize nth xs 17 = y1 at *
  generalize nth xs 18 = y2 at *
  have HA := Lib.hid hall
  clear hall
  go_enter Tryd.func41, Tryd.ntmps41
  go_wp2
  go_loop [7] (fun v => ∃ k : Nat, k ≤ 16 ∧ k ≤ n ∧ v = .int .i64 k) (fun v => 16 - (intOf v).toNat)
  case atStart => exact ⟨0, by omega, by omega, rfl⟩
  case round =>
    obtain ⟨k, hk, hk2, rfl⟩ := hrel
    rw [← HV.out]
    by_cases hgo : k < 16 ∧ k < n
    · obtain ⟨b2, o2, eb2, _, hc, h0, h1⟩ := hx1.at_ (k := k) hgo.2
      obtain ⟨rfl, rfl⟩ : b = b2 ∧ o = o2 := by simpa using eb2
      have hk16 : (k : Int) < 16 := by omega
      have hkn : (k : Int) < (n : Int) := by omega
      have e1 : (nth xs k != 255) = false := by have := HA.out k hgo.1; simpa using this
      clear hgo
      go_wp2
      go_round
      case rel => exact ⟨k + 1, by omega, by omega, by go_num⟩
      case measure => simp [intOf]; omega
    · have hk16 : k = 16 := by omega
      subst hk16
      clear hgo
      clear HA HV
      go_wp2_with fail
      have HS0 : V.drew.cell? ⟨b, o + 16, none⟩ = some (.int .u8 y0) ∧ V.drew.cell? ⟨b, o + 17, none⟩ = some (.int .u8 y1) ∧ V.drew.cell? ⟨b, o + 18, none⟩ = some (.int .u8 y2) := ⟨c16, c17, c18⟩
      go_region_held3 (fun W => W.cell? ⟨b, o + 16, none⟩ = some (.int .u8 y0) ∧ W.cell? ⟨b, o + 17, none⟩ = some (.int .u8 y1) ∧ W.cell? ⟨b, o + 18, none⟩ = some (.int .u8 y2)) (with_reducible exact HS0) (fail)
      have oU := oO.drew
      have k0 := oU.cell (i := 0) (v := .bool a0) rfl
      have k1 := oU.cell (i := 1) (v := .bool a1) rfl
      have k2 := oU.cell (i := 2) (v := .bool a2) rfl
      have k3 := oU.cell (i := 3) (v := .bool a3) rfl
      have k4 := oU.cell (i := 4) (v := .bool a4) rfl
      have k5 := oU.cell (i := 5) (v := .bool a5) rfl
      have hb1 := hb0.drew
      have HVV := Lib.hid oV.drew
      have HZ := Lib.hid (show w.heap.size + 1 + 1 ≤ V.drew.heap.size from Nat.le_of_eq hsz.symm)
      clear oO oV hb0 hx hx1 hsz oU
      generalize V.drew = U at *
      have c16 := HS0.1
      have c17 := HS0.2.1
      have c18 := HS0.2.2
      have hbU : b < U.heap.size := by have := HZ.out; omega
      cases a1
      · have d0 : decide (y0 * 256 + y1 < 19) = false := by have hr := HX.out; simp; omega
        have d1 : decide (4096 < y0 * 256 + y1) = false := by have hr := HX.out; simp at hr ⊢; omega
        go_wp2_with fail
        refine (rleast_any y2 _).mono ?_
        rintro e u0 ⟨rfl, rfl⟩
        have hA2 := HAL.out
        simp only [hAllow, Bool.and_eq_false_iff, decide_eq_false_iff_not] at hA2
        go_wp2_with fail
        refine (rleast_any y2 _).mono ?_
        rintro e u0 ⟨rfl, rfl⟩
        by_cases hl : y0 * 256 + y1 < hLeast y2
        · have d2 : decide (y0 * 256 + y1 < hLeast y2) = true := by simpa using hl
          clear hl hA2
          go_wp2_with fail
          have HS1 : U.drew.cell? ⟨b, o + 16, none⟩ = some (.int .u8 y0) ∧ U.drew.cell? ⟨b, o + 17, none⟩ = some (.int .u8 y1) ∧ U.drew.cell? ⟨b, o + 18, none⟩ = some (.int .u8 y2) := ⟨c16, c17, c18⟩
          have HSA : (U.alloc (.cells #[.int .u8 y0, .int .u8 y1] 5)).drew.cell? ⟨b, o + 16, none⟩ = some (.int .u8 y0) ∧ (U.alloc (.cells #[.int .u8 y0, .int .u8 y1] 5)).drew.cell? ⟨b, o + 17, none⟩ = some (.int .u8 y1) ∧ (U.alloc (.cells #[.int .u8 y0, .int .u8 y1] 5)).drew.cell? ⟨b, o + 18, none⟩ = some (.int .u8 y2) := ⟨((bl_alloc (bl_refl U) _).cell (p := ⟨b, o + 16, none⟩) hbU).trans c16, ((bl_alloc (bl_refl U) _).cell (p := ⟨b, o + 17, none⟩) hbU).trans c17, ((bl_alloc (bl_refl U) _).cell (p := ⟨b, o + 18, none⟩) hbU).trans c18⟩
          have oD := (Own.new U 5 #[.int .u8 y0, .int .u8 y1]).drew
          have hbA := (bl_alloc (bl_refl U) (.cells #[.int .u8 y0, .int .u8 y1] 5)).drew
          go_region_held3 (fun W => W.cell? ⟨b, o + 16, none⟩ = some (.int .u8 y0) ∧ W.cell? ⟨b, o + 17, none⟩ = some (.int .u8 y1) ∧ W.cell? ⟨b, o + 18, none⟩ = some (.int .u8 y2)) (with_reducible first | exact HS1 | exact HSA | exact HS2 | exact HS3 _ _ _ _ _) ((first
            | (go_at_call 51; (with_reducible refine (bad_any 2 16 _ 2 2 _).mono ?_); rintro e w1 ⟨rfl, hbf⟩; have hbw := bl_trans hb1 (hbA.trans (hbf.mono (by simp [World.drew]))); have q16 := (hbf.cell (p := ⟨b, o + 16, none⟩) (by simp [World.drew]; omega)).trans HSA.1; have q17 := (hbf.cell (p := ⟨b, o + 17, none⟩) (by simp [World.drew]; omega)).trans HSA.2.1; have q18 := (hbf.cell (p := ⟨b, o + 18, none⟩) (by simp [World.drew]; omega)).trans HSA.2.2; have HS2 : w1.cell? ⟨b, o + 16, none⟩ = some (.int .u8 y0) ∧ w1.cell? ⟨b, o + 17, none⟩ = some (.int .u8 y1) ∧ w1.cell? ⟨b, o + 18, none⟩ = some (.int .u8 y2) := ⟨q16, q17, q18⟩; have HS3 := fun x y z t u => st5_three (w := w1) n1 q16 q17 q18 x y z t u; have pV := (HVV.out.alloc (.cells #[.int .u8 y0, .int .u8 y1] 5)).drew.step hbf; have hoG := oD.step hbf; have v0 := pV.cell (i := 0) (v := .int .i64 0) rfl; have v1 := pV.cell (i := 1) (v := .int .i64 0) rfl; have v2 := pV.cell (i := 2) (v := .int .i64 0) rfl; have v3 := pV.cell (i := 3) (v := .slice none 0 0) rfl; have v4 := pV.cell (i := 4) (v := .int .i64 0) rfl; have f0 := pV.frozen 0; have f1 := pV.frozen 1; have f2 := pV.frozen 2; have f3 := pV.frozen 3; have f4 := pV.frozen 4; have hlt2 := pV.lt)))
          go_wp2
          refine bodyPost_ret (results_ttc (p := 6) (q := 4) (r := 5) (fn := Tryd.f41) rfl _ _ (w.heap.size + 1) 49 #[.int .i64 4, .int .i64 1, .int .i64 2, .slice (some ⟨U.heap.size, 0, none⟩) 2 2, .int .i64 16] _ rfl (own_five pV _ _ _ _ _) vd_desc rfl (vd_info _ _ _ _ _)) rfl ⟨U.heap.size, rfl, (by have := HZ.out; omega), (st5_far hoG (by have := HZ.out; omega) _ _ _ _ _), below_five hbw (by omega) _ _ _ _ _⟩
        · have d2 : decide (y0 * 256 + y1 < hLeast y2) = false := by simpa using hl
          have d3 : decide (hLim false y2 < y0 * 256 + y1) = true := by simp; omega
          clear hl hA2
          go_wp2_with fail
          refine (rlimit_any a0 false a2 a3 a4 a5 y2 _).mono ?_
          rintro e u1 ⟨rfl, hbn⟩
          have hz1 := hbn.size
          replace c16 := (hbn.cell (p := ⟨b, o + 16, none⟩) hbU).trans c16
          replace c17 := (hbn.cell (p := ⟨b, o + 17, none⟩) hbU).trans c17
          replace c18 := (hbn.cell (p := ⟨b, o + 18, none⟩) hbU).trans c18
          replace hb1 := bl_trans hb1 hbn
          replace HVV := Lib.hid (HVV.out.step hbn)
          replace HZ := Lib.hid (show w.heap.size + 1 + 1 ≤ u1.heap.size by have := HZ.out; omega)
          replace hbU : b < u1.heap.size := by omega
          clear hbn hz1 HS0 k0 k1 k2 k3 k4 k5
          go_wp2_with fail
          have HS1 : u1.drew.cell? ⟨b, o + 16, none⟩ = some (.int .u8 y0) ∧ u1.drew.cell? ⟨b, o + 17, none⟩ = some (.int .u8 y1) ∧ u1.drew.cell? ⟨b, o + 18, none⟩ = some (.int .u8 y2) := ⟨c16, c17, c18⟩
          have HSA : (u1.alloc (.cells #[.int .u8 y0, .int .u8 y1] 5)).drew.cell? ⟨b, o + 16, none⟩ = some (.int .u8 y0) ∧ (u1.alloc (.cells #[.int .u8 y0, .int .u8 y1] 5)).drew.cell? ⟨b, o + 17, none⟩ = some (.int .u8 y1) ∧ (u1.alloc (.cells #[.int .u8 y0, .int .u8 y1] 5)).drew.cell? ⟨b, o + 18, none⟩ = some (.int .u8 y2) := ⟨((bl_alloc (bl_refl u1) _).cell (p := ⟨b, o + 16, none⟩) hbU).trans c16, ((bl_alloc (bl_refl u1) _).cell (p := ⟨b, o + 17, none⟩) hbU).trans c17, ((bl_alloc (bl_refl u1) _).cell (p := ⟨b, o + 18, none⟩) hbU).trans c18⟩
          have oD := (Own.new u1 5 #[.int .u8 y0, .int .u8 y1]).drew
          have hbA := (bl_alloc (bl_refl u1) (.cells #[.int .u8 y0, .int .u8 y1] 5)).drew
          go_region_held3 (fun W => W.cell? ⟨b, o + 16, none⟩ = some (.int .u8 y0) ∧ W.cell? ⟨b, o + 17, none⟩ = some (.int .u8 y1) ∧ W.cell? ⟨b, o + 18, none⟩ = some (.int .u8 y2)) (with_reducible first | exact HS1 | exact HSA | exact HS2 | exact HS3 _ _ _ _ _) ((first
            | (go_at_call 51; (with_reducible refine (bad_any 2 16 _ 2 2 _).mono ?_); rintro e w1 ⟨rfl, hbf⟩; have hbw := bl_trans hb1 (hbA.trans (hbf.mono (by simp [World.drew]))); have q16 := (hbf.cell (p := ⟨b, o + 16, none⟩) (by simp [World.drew]; omega)).trans HSA.1; have q17 := (hbf.cell (p := ⟨b, o + 17, none⟩) (by simp [World.drew]; omega)).trans HSA.2.1; have q18 := (hbf.cell (p := ⟨b, o + 18, none⟩) (by simp [World.drew]; omega)).trans HSA.2.2; have HS2 : w1.cell? ⟨b, o + 16, none⟩ = some (.int .u8 y0) ∧ w1.cell? ⟨b, o + 17, none⟩ = some (.int .u8 y1) ∧ w1.cell? ⟨b, o + 18, none⟩ = some (.int .u8 y2) := ⟨q16, q17, q18⟩; have HS3 := fun x y z t u => st5_three (w := w1) n1 q16 q17 q18 x y z t u; have pV := (HVV.out.alloc (.cells #[.int .u8 y0, .int .u8 y1] 5)).drew.step hbf; have hoG := oD.step hbf; have v0 := pV.cell (i := 0) (v := .int .i64 0) rfl; have v1 := pV.cell (i := 1) (v := .int .i64 0) rfl; have v2 := pV.cell (i := 2) (v := .int .i64 0) rfl; have v3 := pV.cell (i := 3) (v := .slice none 0 0) rfl; have v4 := pV.cell (i := 4) (v := .int .i64 0) rfl; have f0 := pV.frozen 0; have f1 := pV.frozen 1; have f2 := pV.frozen 2; have f3 := pV.frozen 3; have f4 := pV.frozen 4; have hlt2 := pV.lt)))
          go_wp2
          refine bodyPost_ret (results_ttc (p := 6) (q := 4) (r := 5) (fn := Tryd.f41) rfl _ _ (w.heap.size + 1) 49 #[.int .i64 4, .int .i64 1, .int .i64 2, .slice (some ⟨u1.heap.size, 0, none⟩) 2 2, .int .i64 16] _ rfl (own_five pV _ _ _ _ _) vd_desc rfl (vd_info _ _ _ _ _)) rfl ⟨u1.heap.size, rfl, (by have := HZ.out; omega), (st5_far hoG (by have := HZ.out; omega) _ _ _ _ _), below_five hbw (by omega) _ _ _ _ _⟩
      · have d0 : decide (y0 * 256 + y1 < 19) = false := by have hr := HX.out; simp; omega
        have d1 : decide (65535 < y0 * 256 + y1) = false := by have hr := HX.out; simp at hr ⊢; omega
        go_wp2_with fail
        refine (rleast_any y2 _).mono ?_
        rintro e u0 ⟨rfl, rfl⟩
        have hA2 := HAL.out
        simp only [hAllow, Bool.and_eq_false_iff, decide_eq_false_iff_not] at hA2
        go_wp2_with fail
        refine (rleast_any y2 _).mono ?_
        rintro e u0 ⟨rfl, rfl⟩
        by_cases hl : y0 * 256 + y1 < hLeast y2
        · have d2 : decide (y0 * 256 + y1 < hLeast y2) = true := by simpa using hl
          clear hl hA2
          go_wp2_with fail
          have HS1 : U.drew.cell? ⟨b, o + 16, none⟩ = some (.int .u8 y0) ∧ U.drew.cell? ⟨b, o + 17, none⟩ = some (.int .u8 y1) ∧ U.drew.cell? ⟨b, o + 18, none⟩ = some (.int .u8 y2) := ⟨c16, c17, c18⟩
          have HSA : (U.alloc (.cells #[.int .u8 y0, .int .u8 y1] 5)).drew.cell? ⟨b, o + 16, none⟩ = some (.int .u8 y0) ∧ (U.alloc (.cells #[.int .u8 y0, .int .u8 y1] 5)).drew.cell? ⟨b, o + 17, none⟩ = some (.int .u8 y1) ∧ (U.alloc (.cells #[.int .u8 y0, .int .u8 y1] 5)).drew.cell? ⟨b, o + 18, none⟩ = some (.int .u8 y2) := ⟨((bl_alloc (bl_refl U) _).cell (p := ⟨b, o + 16, none⟩) hbU).trans c16, ((bl_alloc (bl_refl U) _).cell (p := ⟨b, o + 17, none⟩) hbU).trans c17, ((bl_alloc (bl_refl U) _).cell (p := ⟨b, o + 18, none⟩) hbU).trans c18⟩
          have oD := (Own.new U 5 #[.int .u8 y0, .int .u8 y1]).drew
          have hbA := (bl_alloc (bl_refl U) (.cells #[.int .u8 y0, .int .u8 y1] 5)).drew
          go_region_held3 (fun W => W.cell? ⟨b, o + 16, none⟩ = some (.int .u8 y0) ∧ W.cell? ⟨b, o + 17, none⟩ = some (.int .u8 y1) ∧ W.cell? ⟨b, o + 18, none⟩ = some (.int .u8 y2)) (with_reducible first | exact HS1 | exact HSA | exact HS2 | exact HS3 _ _ _ _ _) ((first
            | (go_at_call 51; (with_reducible refine (bad_any 2 16 _ 2 2 _).mono ?_); rintro e w1 ⟨rfl, hbf⟩; have hbw := bl_trans hb1 (hbA.trans (hbf.mono (by simp [World.drew]))); have q16 := (hbf.cell (p := ⟨b, o + 16, none⟩) (by simp [World.drew]; omega)).trans HSA.1; have q17 := (hbf.cell (p := ⟨b, o + 17, none⟩) (by simp [World.drew]; omega)).trans HSA.2.1; have q18 := (hbf.cell (p := ⟨b, o + 18, none⟩) (by simp [World.drew]; omega)).trans HSA.2.2; have HS2 : w1.cell? ⟨b, o + 16, none⟩ = some (.int .u8 y0) ∧ w1.cell? ⟨b, o + 17, none⟩ = some (.int .u8 y1) ∧ w1.cell? ⟨b, o + 18, none⟩ = some (.int .u8 y2) := ⟨q16, q17, q18⟩; have HS3 := fun x y z t u => st5_three (w := w1) n1 q16 q17 q18 x y z t u; have pV := (HVV.out.alloc (.cells #[.int .u8 y0, .int .u8 y1] 5)).drew.step hbf; have hoG := oD.step hbf; have v0 := pV.cell (i := 0) (v := .int .i64 0) rfl; have v1 := pV.cell (i := 1) (v := .int .i64 0) rfl; have v2 := pV.cell (i := 2) (v := .int .i64 0) rfl; have v3 := pV.cell (i := 3) (v := .slice none 0 0) rfl; have v4 := pV.cell (i := 4) (v := .int .i64 0) rfl; have f0 := pV.frozen 0; have f1 := pV.frozen 1; have f2 := pV.frozen 2; have f3 := pV.frozen 3; have f4 := pV.frozen 4; have hlt2 := pV.lt)))
          go_wp2
          refine bodyPost_ret (results_ttc (p := 6) (q := 4) (r := 5) (fn := Tryd.f41) rfl _ _ (w.heap.size + 1) 49 #[.int .i64 4, .int .i64 1, .int .i64 2, .slice (some ⟨U.heap.size, 0, none⟩) 2 2, .int .i64 16] _ rfl (own_five pV _ _ _ _ _) vd_desc rfl (vd_info _ _ _ _ _)) rfl ⟨U.heap.size, rfl, (by have := HZ.out; omega), (st5_far hoG (by have := HZ.out; omega) _ _ _ _ _), below_five hbw (by omega) _ _ _ _ _⟩
        · have d2 : decide (y0 * 256 + y1 < hLeast y2) = false := by simpa using hl
          have d3 : decide (hLim true y2 < y0 * 256 + y1) = true := by simp; omega
          clear hl hA2
          go_wp2_with fail
          refine (rlimit_any a0 true a2 a3 a4 a5 y2 _).mono ?_
          rintro e u1 ⟨rfl, hbn⟩
          have hz1 := hbn.size
          replace c16 := (hbn.cell (p := ⟨b, o + 16, none⟩) hbU).trans c16
          replace c17 := (hbn.cell (p := ⟨b, o + 17, none⟩) hbU).trans c17
          replace c18 := (hbn.cell (p := ⟨b, o + 18, none⟩) hbU).trans c18
          replace hb1 := bl_trans hb1 hbn
          replace HVV := Lib.hid (HVV.out.step hbn)
          replace HZ := Lib.hid (show w.heap.size + 1 + 1 ≤ u1.heap.size by have := HZ.out; omega)
          replace hbU : b < u1.heap.size := by omega
          clear hbn hz1 HS0 k0 k1 k2 k3 k4 k5
          go_wp2_with fail
          have HS1 : u1.drew.cell? ⟨b, o + 16, none⟩ = some (.int .u8 y0) ∧ u1.drew.cell? ⟨b, o + 17, none⟩ = some (.int .u8 y1) ∧ u1.drew.cell? ⟨b, o + 18, none⟩ = some (.int .u8 y2) := ⟨c16, c17, c18⟩
          have HSA : (u1.alloc (.cells #[.int .u8 y0, .int .u8 y1] 5)).drew.cell? ⟨b, o + 16, none⟩ = some (.int .u8 y0) ∧ (u1.alloc (.cells #[.int .u8 y0, .int .u8 y1] 5)).drew.cell? ⟨b, o + 17, none⟩ = some (.int .u8 y1) ∧ (u1.alloc (.cells #[.int .u8 y0, .int .u8 y1] 5)).drew.cell? ⟨b, o + 18, none⟩ = some (.int .u8 y2) := ⟨((bl_alloc (bl_refl u1) _).cell (p := ⟨b, o + 16, none⟩) hbU).trans c16, ((bl_alloc (bl_refl u1) _).cell (p := ⟨b, o + 17, none⟩) hbU).trans c17, ((bl_alloc (bl_refl u1) _).cell (p := ⟨b, o + 18, none⟩) hbU).trans c18⟩
          have oD := (Own.new u1 5 #[.int .u8 y0, .int .u8 y1]).drew
          have hbA := (bl_alloc (bl_refl u1) (.cells #[.int .u8 y0, .int .u8 y1] 5)).drew
          go_region_held3 (fun W => W.cell? ⟨b, o + 16, none⟩ = some (.int .u8 y0) ∧ W.cell? ⟨b, o + 17, none⟩ = some (.int .u8 y1) ∧ W.cell? ⟨b, o + 18, none⟩ = some (.int .u8 y2)) (with_reducible first | exact HS1 | exact HSA | exact HS2 | exact HS3 _ _ _ _ _) ((first
            | (go_at_call 51; (with_reducible refine (bad_any 2 16 _ 2 2 _).mono ?_); rintro e w1 ⟨rfl, hbf⟩; have hbw := bl_trans hb1 (hbA.trans (hbf.mono (by simp [World.drew]))); have q16 := (hbf.cell (p := ⟨b, o + 16, none⟩) (by simp [World.drew]; omega)).trans HSA.1; have q17 := (hbf.cell (p := ⟨b, o + 17, none⟩) (by simp [World.drew]; omega)).trans HSA.2.1; have q18 := (hbf.cell (p := ⟨b, o + 18, none⟩) (by simp [World.drew]; omega)).trans HSA.2.2; have HS2 : w1.cell? ⟨b, o + 16, none⟩ = some (.int .u8 y0) ∧ w1.cell? ⟨b, o + 17, none⟩ = some (.int .u8 y1) ∧ w1.cell? ⟨b, o + 18, none⟩ = some (.int .u8 y2) := ⟨q16, q17, q18⟩; have HS3 := fun x y z t u => st5_three (w := w1) n1 q16 q17 q18 x y z t u; have pV := (HVV.out.alloc (.cells #[.int .u8 y0, .int .u8 y1] 5)).drew.step hbf; have hoG := oD.step hbf; have v0 := pV.cell (i := 0) (v := .int .i64 0) rfl; have v1 := pV.cell (i := 1) (v := .int .i64 0) rfl; have v2 := pV.cell (i := 2) (v := .int .i64 0) rfl; have v3 := pV.cell (i := 3) (v := .slice none 0 0) rfl; have v4 := pV.cell (i := 4) (v := .int .i64 0) rfl; have f0 := pV.frozen 0; have f1 := pV.frozen 1; have f2 := pV.frozen 2; have f3 := pV.frozen 3; have f4 := pV.frozen 4; have hlt2 := pV.lt)))
          go_wp2
          refine bodyPost_ret (results_ttc (p := 6) (q := 4) (r := 5) (fn := Tryd.f41) rfl _ _ (w.heap.size + 1) 49 #[.int .i64 4, .int .i64 1, .int .i64 2, .slice (some ⟨u1.heap.size, 0, none⟩) 2 2, .int .i64 16] _ rfl (own_five pV _ _ _ _ _) vd_desc rfl (vd_info _ _ _ _ _)) rfl ⟨u1.heap.size, rfl, (by have := HZ.out; omega), (st5_far hoG (by have := HZ.out; omega) _ _ _ _ _), below_five hbw (by omega) _ _ _ _ _⟩
set_option maxRecDepth 100000 in
set_option maxHeartbeats 3200000 in
theorem rparse_ok (a0 a1 a2 a3 a4 a5 : Bool) (A : Option Addr) (n c : Nat) (xs : List Int) (w : World) (hx : Bytes w w.heap.size A n xs) (_hn : n ≤ 1000000000) (hall : ∀ j, j < 16 → nth xs j = 255) (hs : 19 ≤ n) (hr : 19 ≤ nth xs 16 * 256 + nth xs 17 ∧ nth xs 16 * 256 + nth xs 17 ≤ (if a1 then 65535 else 4096)) (hkn : hLeast (nth xs 18) ≠ 0) (hA : hAllow a1 (nth xs 18) (nth xs 16 * 256 + nth xs 17) = true) :
    Calls Tryd.prog 41 #[.agg #[.bool a0, .bool a1, .bool a2, .bool a3, .bool a4, .bool a5], .slice A n c] w fun e w' => ∃ G : Value, e = .returned (.tuple #[.int .i64 (nth xs 16 * 256 + nth xs 17), .int .i64 (nth xs 18), .agg #[.int .i64 0, .int .i64 0, .int .i64 0, G, .int .i64 0]]) ∧ G = .slice none 0 0 ∧ Below w.heap.size w w' := by
  obtain ⟨V, hV, oO, oV, hb0, hsz⟩ := rp_worlds a0 a1 a2 a3 a4 a5 w
  have hx1 := (hx.below hb0).more hb0.size
  have HV := Lib.hid hV
  clear hV
  obtain ⟨b, o, rfl, hb, c16, c17, c18, l0, u0, l1, u1, l2, u2⟩ := hx1.three hs
  have hbw0 := hx.three hs
  have hbw : b < w.heap.size := by obtain ⟨b', o', eb, h, _⟩ := hbw0; obtain ⟨rfl, rfl⟩ : b = b' ∧ o = o' := by simpa using eb
                                   exact h
  clear hbw0
  have i16 : (16 : Int) < (n : Int) := by omega
  have i17 : (17 : Int) < (n : Int) := by omega
  have i18 : (18 : Int) < (n : Int) := by omega
  have n1 : b ≠ w.heap.size + 1 := by omega
  have e16 : IntKind.i64.wrap (nth xs 16) = nth xs 16 := by rw [IntKind.wrap_i64]; omega
  have e17 : IntKind.i64.wrap (nth xs 17) = nth xs 17 := by rw [IntKind.wrap_i64]; omega
  have e18 : IntKind.i64.wrap (nth xs 18) = nth xs 18 := by rw [IntKind.wrap_i64]; omega
  have em : IntKind.i64.wrap (nth xs 16 * 256) = nth xs 16 * 256 := by rw [IntKind.wrap_i64]; omega
  have es : IntKind.i64.wrap (nth xs 16 * 256 + nth xs 17) = nth xs 16 * 256 + nth xs 17 := by rw [IntKind.wrap_i64]; omega
  have HX := Lib.hid hr
  clear hr
  have e0 : (hLeast (nth xs 18) == 0) = false := by simpa using hkn
  have HAL := Lib.hid hA
  clear hkn hA
  generalize nth xs 16 = y0 at *
  generalize nth xs 17 = y1 at *
  generalize nth xs 18 = y2 at *
  have HA := Lib.hid hall
  clear hall
  go_enter Tryd.func41, Tryd.ntmps41
  go_wp2
  go_loop [7] (fun v => ∃ k : Nat, k ≤ 16 ∧ k ≤ n ∧ v = .int .i64 k) (fun v => 16 - (intOf v).toNat)
  case atStart => exact ⟨0, by omega, by omega, rfl⟩
  case round =>
    obtain ⟨k, hk, hk2, rfl⟩ := hrel
    rw [← HV.out]
    by_cases hgo : k < 16 ∧ k < n
    · obtain ⟨b2, o2, eb2, _, hc, h0, h1⟩ := hx1.at_ (k := k) hgo.2
      obtain ⟨rfl, rfl⟩ : b = b2 ∧ o = o2 := by simpa using eb2
      have hk16 : (k : Int) < 16 := by omega
      have hkn : (k : Int) < (n : Int) := by omega
      have e1 : (nth xs k != 255) = false := by have := HA.out k hgo.1; simpa using this
      clear hgo
      go_wp2
      go_round
      case rel => exact ⟨k + 1, by omega, by omega, by go_num⟩
      case measure => simp [intOf]; omega
    · have hk16 : k = 16 := by omega
      subst hk16
      clear hgo
      clear HA HV
      go_wp2_with fail
      have HS0 : V.drew.cell? ⟨b, o + 16, none⟩ = some (.int .u8 y0) ∧ V.drew.cell? ⟨b, o + 17, none⟩ = some (.int .u8 y1) ∧ V.drew.cell? ⟨b, o + 18, none⟩ = some (.int .u8 y2) := ⟨c16, c17, c18⟩
      go_region_held3 (fun W => W.cell? ⟨b, o + 16, none⟩ = some (.int .u8 y0) ∧ W.cell? ⟨b, o + 17, none⟩ = some (.int .u8 y1) ∧ W.cell? ⟨b, o + 18, none⟩ = some (.int .u8 y2)) (with_reducible exact HS0) (fail)
      have oU := oO.drew
      have k0 := oU.cell (i := 0) (v := .bool a0) rfl
      have k1 := oU.cell (i := 1) (v := .bool a1) rfl
      have k2 := oU.cell (i := 2) (v := .bool a2) rfl
      have k3 := oU.cell (i := 3) (v := .bool a3) rfl
      have k4 := oU.cell (i := 4) (v := .bool a4) rfl
      have k5 := oU.cell (i := 5) (v := .bool a5) rfl
      have hb1 := hb0.drew
      have HVV := Lib.hid oV.drew
      have HZ := Lib.hid (show w.heap.size + 1 + 1 ≤ V.drew.heap.size from Nat.le_of_eq hsz.symm)
      clear oO oV hb0 hx hx1 hsz oU
      generalize V.drew = U at *
      have c16 := HS0.1
      have c17 := HS0.2.1
      have c18 := HS0.2.2
      have hbU : b < U.heap.size := by have := HZ.out; omega
      cases a1
      · have d0 : decide (y0 * 256 + y1 < 19) = false := by have hr := HX.out; simp; omega
        have d1 : decide (4096 < y0 * 256 + y1) = false := by have hr := HX.out; simp at hr ⊢; omega
        go_wp2_with fail
        refine (rleast_any y2 _).mono ?_
        rintro e u0 ⟨rfl, rfl⟩
        have hA2 := HAL.out
        simp only [hAllow, Bool.and_eq_true, decide_eq_true_eq] at hA2
        have d2 : decide (y0 * 256 + y1 < hLeast y2) = false := by simp; omega
        have d3 : decide (hLim false y2 < y0 * 256 + y1) = false := by simp; omega
        clear hA2
        go_wp2_with fail
        refine (rleast_any y2 _).mono ?_
        rintro e u0 ⟨rfl, rfl⟩
        go_wp2_with fail
        refine (rlimit_any a0 false a2 a3 a4 a5 y2 _).mono ?_
        rintro e u1 ⟨rfl, hbn⟩
        have hbw := bl_trans hb1 hbn
        have pV := HVV.out.step hbn
        have v0 := pV.cell (i := 0) (v := .int .i64 0) rfl
        have v1 := pV.cell (i := 1) (v := .int .i64 0) rfl
        have v2 := pV.cell (i := 2) (v := .int .i64 0) rfl
        have v3 := pV.cell (i := 3) (v := .slice none 0 0) rfl
        have v4 := pV.cell (i := 4) (v := .int .i64 0) rfl
        have f0 := pV.frozen 0
        have f1 := pV.frozen 1
        have f2 := pV.frozen 2
        have f3 := pV.frozen 3
        have f4 := pV.frozen 4
        have hlt2 := pV.lt
        clear HVV hb1 hbn c16 c17 c18 HS0 k0 k1 k2 k3 k4 k5
        go_wp2
        refine bodyPost_ret (results_ttc (p := 6) (q := 4) (r := 5) (fn := Tryd.f41) rfl _ _ (w.heap.size + 1) 49 #[.int .i64 0, .int .i64 0, .int .i64 0, .slice none 0 0, .int .i64 0] _ rfl (own_five pV _ _ _ _ _) vd_desc rfl (vd_info _ _ _ _ _)) rfl ⟨_, rfl, rfl, below_five hbw (by omega) _ _ _ _ _⟩
      · have d0 : decide (y0 * 256 + y1 < 19) = false := by have hr := HX.out; simp; omega
        have d1 : decide (65535 < y0 * 256 + y1) = false := by have hr := HX.out; simp at hr ⊢; omega
        go_wp2_with fail
        refine (rleast_any y2 _).mono ?_
        rintro e u0 ⟨rfl, rfl⟩
        have hA2 := HAL.out
        simp only [hAllow, Bool.and_eq_true, decide_eq_true_eq] at hA2
        have d2 : decide (y0 * 256 + y1 < hLeast y2) = false := by simp; omega
        have d3 : decide (hLim true y2 < y0 * 256 + y1) = false := by simp; omega
        clear hA2
        go_wp2_with fail
        refine (rleast_any y2 _).mono ?_
        rintro e u0 ⟨rfl, rfl⟩
        go_wp2_with fail
        refine (rlimit_any a0 true a2 a3 a4 a5 y2 _).mono ?_
        rintro e u1 ⟨rfl, hbn⟩
        have hbw := bl_trans hb1 hbn
        have pV := HVV.out.step hbn
        have v0 := pV.cell (i := 0) (v := .int .i64 0) rfl
        have v1 := pV.cell (i := 1) (v := .int .i64 0) rfl
        have v2 := pV.cell (i := 2) (v := .int .i64 0) rfl
        have v3 := pV.cell (i := 3) (v := .slice none 0 0) rfl
        have v4 := pV.cell (i := 4) (v := .int .i64 0) rfl
        have f0 := pV.frozen 0
        have f1 := pV.frozen 1
        have f2 := pV.frozen 2
        have f3 := pV.frozen 3
        have f4 := pV.frozen 4
        have hlt2 := pV.lt
        clear HVV hb1 hbn c16 c17 c18 HS0 k0 k1 k2 k3 k4 k5
        go_wp2
        refine bodyPost_ret (results_ttc (p := 6) (q := 4) (r := 5) (fn := Tryd.f41) rfl _ _ (w.heap.size + 1) 49 #[.int .i64 0, .int .i64 0, .int .i64 0, .slice none 0 0, .int .i64 0] _ rfl (own_five pV _ _ _ _ _) vd_desc rfl (vd_info _ _ _ _ _)) rfl ⟨_, rfl, rfl, below_five hbw (by omega) _ _ _ _ _⟩
end Go.Proofs.YtgahjchngmojlabDoor

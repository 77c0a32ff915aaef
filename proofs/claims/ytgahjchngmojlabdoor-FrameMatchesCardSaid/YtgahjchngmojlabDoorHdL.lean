/- header.Parse: an unknown kind; a length that its kind does not have -/
import Derived.Test.YtgahjchngmojlabDoorHdK
namespace Go.Proofs.YtgahjchngmojlabDoor
open Go.RowKit

set_option maxRecDepth 100000 in
set_option maxHeartbeats 3200000 in
theorem hparse_kind (a0 a1 a2 a3 a4 a5 : Bool) (A : Option Addr) (n c : Nat) (xs : List Int) (w : World) (ht : HRows w) (hx : Bytes w w.heap.size A n xs) (hc : n ≤ c) (hn : n ≤ 1000000000) (hall : ∀ j, j < 16 → nth xs j = 255) (hs : 19 ≤ n) (hr : 19 ≤ nth xs 16 * 256 + nth xs 17 ∧ nth xs 16 * 256 + nth xs 17 ≤ (if a1 then 65535 else 4096)) (hk : hName (nth xs 18) = ⟨#[]⟩) :
    Calls Tryd.prog 43 #[.agg #[.bool a0, .bool a1, .bool a2, .bool a3, .bool a4, .bool a5], .slice A n c] w fun e w' => ∃ G, e = .returned (.tuple #[.agg #[.int .i64 0, .int .i64 0], .agg #[.int .i64 4, .int .i64 1, .int .i64 3, .slice (some ⟨G, 0, none⟩) 1 1, .int .i64 18]]) ∧ Own w' G 5 #[.int .u8 (nth xs 18)] ∧ Below w.heap.size w w' := by
  obtain ⟨V, hV, oO, oH, oV, hb0, hsz⟩ := hp_worlds a0 a1 a2 a3 a4 a5 w
  have hx1 := (hx.below hb0).more hb0.size
  have HA := Lib.hid hall
  clear hall
  obtain ⟨b, o, rfl, hb, c16, c17, c18, l0, u0, l1, u1, l2, u2⟩ := hx1.three hs
  have hbw0 := hx.three hs
  have hbw : b < w.heap.size := by obtain ⟨b', o', eb, h, _⟩ := hbw0; obtain ⟨rfl, rfl⟩ : b = b' ∧ o = o' := by simpa using eb
                                   exact h
  clear hbw0
  have i16 : (16 : Int) < (n : Int) := by omega
  have i17 : (17 : Int) < (n : Int) := by omega
  have i18 : (18 : Int) < (n : Int) := by omega
  have n1 : b ≠ w.heap.size + 1 := by omega
  have n2 : b ≠ w.heap.size + 1 + 1 := by omega
  have hor := or_byte_h _ _ l0 u0 l1 u1
  have e16 : IntKind.i64.wrap (nth xs 16) = nth xs 16 := by rw [IntKind.wrap_i64]; omega
  have e17 : IntKind.i64.wrap (nth xs 17) = nth xs 17 := by rw [IntKind.wrap_i64]; omega
  have e18 : IntKind.i64.wrap (nth xs 18) = nth xs 18 := by rw [IntKind.wrap_i64]; omega
  have em : IntKind.i64.wrap (nth xs 16 * 256) = nth xs 16 * 256 := by rw [IntKind.wrap_i64]; omega
  have hN : ∃ N, N = nth xs 16 * 256 + nth xs 17 := ⟨_, rfl⟩
  obtain ⟨N, hN⟩ := hN
  rw [← hN] at hor hr
  clear hN
  generalize nth xs 16 = y0 at *
  generalize nth xs 17 = y1 at *
  generalize nth xs 18 = y2 at *
  go_enter Tryd.func43, Tryd.ntmps43
  go_wp2_with fail
  rw [← hV]
  refine (idx_none hx1 hn 16 (by omega) (fun j hj => HA.out j hj)).mono ?_
  rintro e w' ⟨rfl, rfl⟩
  clear hV
  go_wp2_with fail
  have HS0 : V.drew.cell? ⟨b, o + 16, none⟩ = some (.int .u8 y0) ∧ V.drew.cell? ⟨b, o + 17, none⟩ = some (.int .u8 y1) ∧ V.drew.cell? ⟨b, o + 18, none⟩ = some (.int .u8 y2) := ⟨c16, c17, c18⟩
  go_region_held3 (fun W => W.cell? ⟨b, o + 16, none⟩ = some (.int .u8 y0) ∧ W.cell? ⟨b, o + 17, none⟩ = some (.int .u8 y1) ∧ W.cell? ⟨b, o + 18, none⟩ = some (.int .u8 y2)) (with_reducible exact HS0) (fail)
  have hne : (hName y2).toList = [] := hName_nil hk
  have hne2 : (hName y2).toList.isEmpty = true := by simpa using hne
  clear hk
  have HT := Lib.hid (show HRows V.drew from (ht.below hb0).drew)
  have c1 : V.drew.cell? ⟨w.heap.size, 1, none⟩ = some (.bool a1) := oO.cell rfl
  have hb1 := hb0.drew
  have HH := Lib.hid oH.drew
  have HVV := Lib.hid oV.drew
  have HO := Lib.hid oO.drew
  have HZ := Lib.hid (show w.heap.size + 1 + 1 + 1 ≤ V.drew.heap.size from Nat.le_of_eq hsz.symm)
  clear oO oH oV hb0 hx hx1 hsz
  generalize V.drew = U at *
  have c16 := HS0.1
  have c17 := HS0.2.1
  have c18 := HS0.2.2
  cases a1
  · have d0 : decide (N < 19) = false := by simp; omega
    have d1 : decide (4096 < N) = false := by simp at hr ⊢; omega
    go_wp2_with fail
    refine (name_any y2 _ HT.out).mono ?_
    rintro e u1 ⟨rfl, hbn⟩
    have hbU : b < U.heap.size := by have := HZ.out; omega
    have q18 := (hbn.cell (p := ⟨b, o + 18, none⟩) hbU).trans c18
    have hbn1 := bl_trans hb1 hbn
    have hZ2 := hbn.size
    have HZ2 := Lib.hid (show w.heap.size + 1 + 1 + 1 ≤ u1.heap.size by have := HZ.out; omega)
    have oD := Own.new u1 5 #[.int .u8 y2]
    have hBD := Bytes.of_owned (xs := [y2]) oD (by intro x hx; simp at hx; omega) oD.lt
    have hbA := bl_alloc hbn1 (.cells #[.int .u8 y2] 5)
    have pH1 := (HH.out.step hbn).alloc (.cells #[.int .u8 y2] 5)
    have pV1 := (HVV.out.step hbn).alloc (.cells #[.int .u8 y2] 5)
    clear HT hbn hbn1 HH HVV HO hb1 c16 c17 c18 HS0 hZ2
    go_wp2_with fail
    refine (failure_any 3 18 _ 1 1 [y2] _ hBD (by omega)).mono ?_
    rintro e w1 ⟨G, rfl, hG, hoG, hbf⟩
    have hbw := bl_trans hbA hbf
    have pH := pH1.step hbf
    have pV := pV1.step hbf
    have hGs : w.heap.size + 1 + 1 + 1 ≤ G := by have := HZ2.out; simp at hG; omega
    have h0 := pH.cell (i := 0) (v := .int .i64 0) rfl
    have h1 := pH.cell (i := 1) (v := .int .i64 0) rfl
    have v0 := pV.cell (i := 0) (v := .int .i64 0) rfl
    have v1 := pV.cell (i := 1) (v := .int .i64 0) rfl
    have v2 := pV.cell (i := 2) (v := .int .i64 0) rfl
    have v3 := pV.cell (i := 3) (v := .slice none 0 0) rfl
    have v4 := pV.cell (i := 4) (v := .int .i64 0) rfl
    have g0 := pH.frozen 0
    have g1 := pH.frozen 1
    have f0 := pV.frozen 0
    have f1 := pV.frozen 1
    have f2 := pV.frozen 2
    have f3 := pV.frozen 3
    have f4 := pV.frozen 4
    have hlt1 := pH.lt
    have hlt2 := pV.lt
    clear hbA hbf pH1 pV1 oD hBD
    go_wp2
    refine bodyPost_ret (results_two (p := 4) (q := 5) (fn := Tryd.f43) rfl _ _ (w.heap.size + 1) 94 #[.int .i64 0, .int .i64 0] _ (w.heap.size + 1 + 1) 49 #[.int .i64 4, .int .i64 1, .int .i64 3, .slice (some ⟨G, 0, none⟩) 1 1, .int .i64 18] _ rfl (st7_own1 pH) hd_desc rfl (hd_info _ _) rfl (st7_own2 pV) vd_desc rfl (vd_info _ _ _ _ _)) rfl ⟨_, rfl, (st7_far hoG (by omega) (by omega)), (st7_below hbw (by omega))⟩
  · have d0 : decide (N < 19) = false := by simp; omega
    have d1 : decide (65535 < N) = false := by simp at hr ⊢; omega
    go_wp2_with fail
    refine (name_any y2 _ HT.out).mono ?_
    rintro e u1 ⟨rfl, hbn⟩
    have hbU : b < U.heap.size := by have := HZ.out; omega
    have q18 := (hbn.cell (p := ⟨b, o + 18, none⟩) hbU).trans c18
    have hbn1 := bl_trans hb1 hbn
    have hZ2 := hbn.size
    have HZ2 := Lib.hid (show w.heap.size + 1 + 1 + 1 ≤ u1.heap.size by have := HZ.out; omega)
    have oD := Own.new u1 5 #[.int .u8 y2]
    have hBD := Bytes.of_owned (xs := [y2]) oD (by intro x hx; simp at hx; omega) oD.lt
    have hbA := bl_alloc hbn1 (.cells #[.int .u8 y2] 5)
    have pH1 := (HH.out.step hbn).alloc (.cells #[.int .u8 y2] 5)
    have pV1 := (HVV.out.step hbn).alloc (.cells #[.int .u8 y2] 5)
    clear HT hbn hbn1 HH HVV HO hb1 c16 c17 c18 HS0 hZ2
    go_wp2_with fail
    refine (failure_any 3 18 _ 1 1 [y2] _ hBD (by omega)).mono ?_
    rintro e w1 ⟨G, rfl, hG, hoG, hbf⟩
    have hbw := bl_trans hbA hbf
    have pH := pH1.step hbf
    have pV := pV1.step hbf
    have hGs : w.heap.size + 1 + 1 + 1 ≤ G := by have := HZ2.out; simp at hG; omega
    have h0 := pH.cell (i := 0) (v := .int .i64 0) rfl
    have h1 := pH.cell (i := 1) (v := .int .i64 0) rfl
    have v0 := pV.cell (i := 0) (v := .int .i64 0) rfl
    have v1 := pV.cell (i := 1) (v := .int .i64 0) rfl
    have v2 := pV.cell (i := 2) (v := .int .i64 0) rfl
    have v3 := pV.cell (i := 3) (v := .slice none 0 0) rfl
    have v4 := pV.cell (i := 4) (v := .int .i64 0) rfl
    have g0 := pH.frozen 0
    have g1 := pH.frozen 1
    have f0 := pV.frozen 0
    have f1 := pV.frozen 1
    have f2 := pV.frozen 2
    have f3 := pV.frozen 3
    have f4 := pV.frozen 4
    have hlt1 := pH.lt
    have hlt2 := pV.lt
    clear hbA hbf pH1 pV1 oD hBD
    go_wp2
    refine bodyPost_ret (results_two (p := 4) (q := 5) (fn := Tryd.f43) rfl _ _ (w.heap.size + 1) 94 #[.int .i64 0, .int .i64 0] _ (w.heap.size + 1 + 1) 49 #[.int .i64 4, .int .i64 1, .int .i64 3, .slice (some ⟨G, 0, none⟩) 1 1, .int .i64 18] _ rfl (st7_own1 pH) hd_desc rfl (hd_info _ _) rfl (st7_own2 pV) vd_desc rfl (vd_info _ _ _ _ _)) rfl ⟨_, rfl, (st7_far hoG (by omega) (by omega)), (st7_below hbw (by omega))⟩
set_option maxRecDepth 100000 in
set_option maxHeartbeats 3200000 in
theorem hparse_allow (a0 a1 a2 a3 a4 a5 : Bool) (A : Option Addr) (n c : Nat) (xs : List Int) (w : World) (ht : HRows w) (hx : Bytes w w.heap.size A n xs) (hc : n ≤ c) (hn : n ≤ 1000000000) (hall : ∀ j, j < 16 → nth xs j = 255) (hs : 19 ≤ n) (hr : 19 ≤ nth xs 16 * 256 + nth xs 17 ∧ nth xs 16 * 256 + nth xs 17 ≤ (if a1 then 65535 else 4096)) (hkn : nth xs 18 = 1 ∨ nth xs 18 = 2 ∨ nth xs 18 = 3 ∨ nth xs 18 = 4 ∨ nth xs 18 = 5) (hA : hAllow a1 (nth xs 18) (nth xs 16 * 256 + nth xs 17) = false) :
    Calls Tryd.prog 43 #[.agg #[.bool a0, .bool a1, .bool a2, .bool a3, .bool a4, .bool a5], .slice A n c] w fun e w' => ∃ G, e = .returned (.tuple #[.agg #[.int .i64 0, .int .i64 0], .agg #[.int .i64 4, .int .i64 1, .int .i64 2, .slice (some ⟨G, 0, none⟩) 2 2, .int .i64 16]]) ∧ Own w' G 5 #[.int .u8 (nth xs 16), .int .u8 (nth xs 17)] ∧ Below w.heap.size w w' := by
  obtain ⟨V, hV, oO, oH, oV, hb0, hsz⟩ := hp_worlds a0 a1 a2 a3 a4 a5 w
  have hx1 := (hx.below hb0).more hb0.size
  have HA := Lib.hid hall
  clear hall
  obtain ⟨b, o, rfl, hb, c16, c17, c18, l0, u0, l1, u1, l2, u2⟩ := hx1.three hs
  have hbw0 := hx.three hs
  have hbw : b < w.heap.size := by obtain ⟨b', o', eb, h, _⟩ := hbw0; obtain ⟨rfl, rfl⟩ : b = b' ∧ o = o' := by simpa using eb
                                   exact h
  clear hbw0
  have i16 : (16 : Int) < (n : Int) := by omega
  have i17 : (17 : Int) < (n : Int) := by omega
  have i18 : (18 : Int) < (n : Int) := by omega
  have n1 : b ≠ w.heap.size + 1 := by omega
  have n2 : b ≠ w.heap.size + 1 + 1 := by omega
  have hor := or_byte_h _ _ l0 u0 l1 u1
  have e16 : IntKind.i64.wrap (nth xs 16) = nth xs 16 := by rw [IntKind.wrap_i64]; omega
  have e17 : IntKind.i64.wrap (nth xs 17) = nth xs 17 := by rw [IntKind.wrap_i64]; omega
  have e18 : IntKind.i64.wrap (nth xs 18) = nth xs 18 := by rw [IntKind.wrap_i64]; omega
  have em : IntKind.i64.wrap (nth xs 16 * 256) = nth xs 16 * 256 := by rw [IntKind.wrap_i64]; omega
  have hN : ∃ N, N = nth xs 16 * 256 + nth xs 17 := ⟨_, rfl⟩
  obtain ⟨N, hN⟩ := hN
  rw [← hN] at hor hr hA
  clear hN
  generalize nth xs 16 = y0 at *
  generalize nth xs 17 = y1 at *
  generalize nth xs 18 = y2 at *
  go_enter Tryd.func43, Tryd.ntmps43
  go_wp2_with fail
  rw [← hV]
  refine (idx_none hx1 hn 16 (by omega) (fun j hj => HA.out j hj)).mono ?_
  rintro e w' ⟨rfl, rfl⟩
  clear hV
  go_wp2_with fail
  have HS0 : V.drew.cell? ⟨b, o + 16, none⟩ = some (.int .u8 y0) ∧ V.drew.cell? ⟨b, o + 17, none⟩ = some (.int .u8 y1) ∧ V.drew.cell? ⟨b, o + 18, none⟩ = some (.int .u8 y2) := ⟨c16, c17, c18⟩
  go_region_held3 (fun W => W.cell? ⟨b, o + 16, none⟩ = some (.int .u8 y0) ∧ W.cell? ⟨b, o + 17, none⟩ = some (.int .u8 y1) ∧ W.cell? ⟨b, o + 18, none⟩ = some (.int .u8 y2)) (with_reducible exact HS0) (fail)
  have HAL := Lib.hid hA
  clear hA
  have HT := Lib.hid (show HRows V.drew from (ht.below hb0).drew)
  have c1 : V.drew.cell? ⟨w.heap.size, 1, none⟩ = some (.bool a1) := oO.cell rfl
  have hb1 := hb0.drew
  have HH := Lib.hid oH.drew
  have HVV := Lib.hid oV.drew
  have HO := Lib.hid oO.drew
  have HZ := Lib.hid (show w.heap.size + 1 + 1 + 1 ≤ V.drew.heap.size from Nat.le_of_eq hsz.symm)
  clear oO oH oV hb0 hx hx1 hsz
  generalize V.drew = U at *
  have c16 := HS0.1
  have c17 := HS0.2.1
  have c18 := HS0.2.2
  cases a1
  · have d0 : decide (N < 19) = false := by simp; omega
    have d1 : decide (4096 < N) = false := by simp at hr ⊢; omega
    have hne := hName_ne hkn
    have hne2 : (hName y2).toList.isEmpty = false := by simpa using hne
    go_wp2_with fail
    refine (name_any y2 _ HT.out).mono ?_
    rintro e u1 ⟨rfl, hbn⟩
    have HT1 := Lib.hid (HT.out.below hbn)
    have pO := HO.out.step hbn
    have hbn1 := bl_trans hb1 hbn
    have p0 := pO.cell (i := 0) (v := .bool a0) rfl
    have p1 := pO.cell (i := 1) (v := .bool false) rfl
    have p2 := pO.cell (i := 2) (v := .bool a2) rfl
    have p3 := pO.cell (i := 3) (v := .bool a3) rfl
    have p4 := pO.cell (i := 4) (v := .bool a4) rfl
    have p5 := pO.cell (i := 5) (v := .bool a5) rfl
    clear HT
    go_wp2_with fail
    refine (allows_any a0 false a2 a3 a4 a5 y2 N _ HT1.out).mono ?_
    rw [HAL.out]
    rintro e u2 ⟨rfl, hbm⟩
    clear p0 p1 p2 p3 p4 p5 HT1
    have hbU0 : b < U.heap.size := by have := HZ.out; omega
    have hz1 := hbn.size
    have hz2 := hbm.size
    replace c16 := (hbm.cell (p := ⟨b, o + 16, none⟩) (Nat.lt_of_lt_of_le hbU0 hz1)).trans ((hbn.cell (p := ⟨b, o + 16, none⟩) hbU0).trans c16)
    replace c17 := (hbm.cell (p := ⟨b, o + 17, none⟩) (Nat.lt_of_lt_of_le hbU0 hz1)).trans ((hbn.cell (p := ⟨b, o + 17, none⟩) hbU0).trans c17)
    replace c18 := (hbm.cell (p := ⟨b, o + 18, none⟩) (Nat.lt_of_lt_of_le hbU0 hz1)).trans ((hbn.cell (p := ⟨b, o + 18, none⟩) hbU0).trans c18)
    replace hb1 := bl_trans hbn1 hbm
    have HH2 := Lib.hid ((HH.out.step hbn).step hbm)
    have HVV2 := Lib.hid ((HVV.out.step hbn).step hbm)
    replace HZ := Lib.hid (show w.heap.size + 1 + 1 + 1 ≤ u2.heap.size by have := HZ.out; omega)
    clear HH HVV HO pO hbn hbm hbn1 hz1 hz2 hbU0 HS0
    go_wp2_with fail
    have HS1 : u2.drew.cell? ⟨b, o + 16, none⟩ = some (.int .u8 y0) ∧ u2.drew.cell? ⟨b, o + 17, none⟩ = some (.int .u8 y1) ∧ u2.drew.cell? ⟨b, o + 18, none⟩ = some (.int .u8 y2) := ⟨c16, c17, c18⟩
    have hbU : b < u2.heap.size := by have := HZ.out; omega
    have HSA : (u2.alloc (.cells #[.int .u8 y0, .int .u8 y1] 5)).drew.cell? ⟨b, o + 16, none⟩ = some (.int .u8 y0) ∧ (u2.alloc (.cells #[.int .u8 y0, .int .u8 y1] 5)).drew.cell? ⟨b, o + 17, none⟩ = some (.int .u8 y1) ∧ (u2.alloc (.cells #[.int .u8 y0, .int .u8 y1] 5)).drew.cell? ⟨b, o + 18, none⟩ = some (.int .u8 y2) := ⟨((bl_alloc (bl_refl u2) _).cell (p := ⟨b, o + 16, none⟩) hbU).trans c16, ((bl_alloc (bl_refl u2) _).cell (p := ⟨b, o + 17, none⟩) hbU).trans c17, ((bl_alloc (bl_refl u2) _).cell (p := ⟨b, o + 18, none⟩) hbU).trans c18⟩
    have oD := (Own.new u2 5 #[.int .u8 y0, .int .u8 y1]).drew
    have hBD := Bytes.of_owned (xs := [y0, y1]) oD (by intro x hx; simp at hx; omega) oD.lt
    have hbA := (bl_alloc (bl_refl u2) (.cells #[.int .u8 y0, .int .u8 y1] 5)).drew
    go_region_held3 (fun W => W.cell? ⟨b, o + 16, none⟩ = some (.int .u8 y0) ∧ W.cell? ⟨b, o + 17, none⟩ = some (.int .u8 y1) ∧ W.cell? ⟨b, o + 18, none⟩ = some (.int .u8 y2)) (with_reducible first | exact HS1 | exact HSA | exact HS2 | exact HS3 _ _ | exact HS4 _ _ _ _ _ _ _) ((first
      | (go_at_call 56; (with_reducible refine (failure_any 2 16 _ 2 2 [y0, y1] _ hBD (by omega)).mono ?_); rintro e w1 ⟨G, rfl, hG, hoG, hbf⟩; have hbw := bl_trans hb1 (hbA.trans (hbf.mono (by simp [World.drew]))); have q16 := (hbf.cell (p := ⟨b, o + 16, none⟩) (by simp [World.drew]; omega)).trans HSA.1; have q17 := (hbf.cell (p := ⟨b, o + 17, none⟩) (by simp [World.drew]; omega)).trans HSA.2.1; have q18 := (hbf.cell (p := ⟨b, o + 18, none⟩) (by simp [World.drew]; omega)).trans HSA.2.2; have HS2 : w1.cell? ⟨b, o + 16, none⟩ = some (.int .u8 y0) ∧ w1.cell? ⟨b, o + 17, none⟩ = some (.int .u8 y1) ∧ w1.cell? ⟨b, o + 18, none⟩ = some (.int .u8 y2) := ⟨q16, q17, q18⟩; have HS3 := fun x y => st2_three (w := w1) n1 q16 q17 q18 x y; have HS4 := fun x y z t u v s => st7_three (w := w1) n1 n2 q16 q17 q18 x y z t u v s; have pH := (HH2.out.alloc (.cells #[.int .u8 y0, .int .u8 y1] 5)).drew.step hbf; have pV := (HVV2.out.alloc (.cells #[.int .u8 y0, .int .u8 y1] 5)).drew.step hbf; have hGs : w.heap.size + 1 + 1 + 1 ≤ G := (by have := HZ.out; simp [World.drew] at hG; omega); have h0 := pH.cell (i := 0) (v := .int .i64 0) rfl; have h1 := pH.cell (i := 1) (v := .int .i64 0) rfl; have v0 := pV.cell (i := 0) (v := .int .i64 0) rfl; have v1 := pV.cell (i := 1) (v := .int .i64 0) rfl; have v2 := pV.cell (i := 2) (v := .int .i64 0) rfl; have v3 := pV.cell (i := 3) (v := .slice none 0 0) rfl; have v4 := pV.cell (i := 4) (v := .int .i64 0) rfl; have g0 := pH.frozen 0; have g1 := pH.frozen 1; have f0 := pV.frozen 0; have f1 := pV.frozen 1; have f2 := pV.frozen 2; have f3 := pV.frozen 3; have f4 := pV.frozen 4; have hlt1 := pH.lt; have hlt2 := pV.lt)))
    go_wp2
    refine bodyPost_ret (results_two (p := 4) (q := 5) (fn := Tryd.f43) rfl _ _ (w.heap.size + 1) 94 #[.int .i64 0, .int .i64 0] _ (w.heap.size + 1 + 1) 49 #[.int .i64 4, .int .i64 1, .int .i64 2, .slice (some ⟨G, 0, none⟩) 2 2, .int .i64 16] _ rfl (st7_own1 pH) hd_desc rfl (hd_info _ _) rfl (st7_own2 pV) vd_desc rfl (vd_info _ _ _ _ _)) rfl ⟨_, rfl, (st7_far hoG (by omega) (by omega)), (st7_below hbw (by omega))⟩
  · have d0 : decide (N < 19) = false := by simp; omega
    have d1 : decide (65535 < N) = false := by simp at hr ⊢; omega
    have hne := hName_ne hkn
    have hne2 : (hName y2).toList.isEmpty = false := by simpa using hne
    go_wp2_with fail
    refine (name_any y2 _ HT.out).mono ?_
    rintro e u1 ⟨rfl, hbn⟩
    have HT1 := Lib.hid (HT.out.below hbn)
    have pO := HO.out.step hbn
    have hbn1 := bl_trans hb1 hbn
    have p0 := pO.cell (i := 0) (v := .bool a0) rfl
    have p1 := pO.cell (i := 1) (v := .bool true) rfl
    have p2 := pO.cell (i := 2) (v := .bool a2) rfl
    have p3 := pO.cell (i := 3) (v := .bool a3) rfl
    have p4 := pO.cell (i := 4) (v := .bool a4) rfl
    have p5 := pO.cell (i := 5) (v := .bool a5) rfl
    clear HT
    go_wp2_with fail
    refine (allows_any a0 true a2 a3 a4 a5 y2 N _ HT1.out).mono ?_
    rw [HAL.out]
    rintro e u2 ⟨rfl, hbm⟩
    clear p0 p1 p2 p3 p4 p5 HT1
    have hbU0 : b < U.heap.size := by have := HZ.out; omega
    have hz1 := hbn.size
    have hz2 := hbm.size
    replace c16 := (hbm.cell (p := ⟨b, o + 16, none⟩) (Nat.lt_of_lt_of_le hbU0 hz1)).trans ((hbn.cell (p := ⟨b, o + 16, none⟩) hbU0).trans c16)
    replace c17 := (hbm.cell (p := ⟨b, o + 17, none⟩) (Nat.lt_of_lt_of_le hbU0 hz1)).trans ((hbn.cell (p := ⟨b, o + 17, none⟩) hbU0).trans c17)
    replace c18 := (hbm.cell (p := ⟨b, o + 18, none⟩) (Nat.lt_of_lt_of_le hbU0 hz1)).trans ((hbn.cell (p := ⟨b, o + 18, none⟩) hbU0).trans c18)
    replace hb1 := bl_trans hbn1 hbm
    have HH2 := Lib.hid ((HH.out.step hbn).step hbm)
    have HVV2 := Lib.hid ((HVV.out.step hbn).step hbm)
    replace HZ := Lib.hid (show w.heap.size + 1 + 1 + 1 ≤ u2.heap.size by have := HZ.out; omega)
    clear HH HVV HO pO hbn hbm hbn1 hz1 hz2 hbU0 HS0
    go_wp2_with fail
    have HS1 : u2.drew.cell? ⟨b, o + 16, none⟩ = some (.int .u8 y0) ∧ u2.drew.cell? ⟨b, o + 17, none⟩ = some (.int .u8 y1) ∧ u2.drew.cell? ⟨b, o + 18, none⟩ = some (.int .u8 y2) := ⟨c16, c17, c18⟩
    have hbU : b < u2.heap.size := by have := HZ.out; omega
    have HSA : (u2.alloc (.cells #[.int .u8 y0, .int .u8 y1] 5)).drew.cell? ⟨b, o + 16, none⟩ = some (.int .u8 y0) ∧ (u2.alloc (.cells #[.int .u8 y0, .int .u8 y1] 5)).drew.cell? ⟨b, o + 17, none⟩ = some (.int .u8 y1) ∧ (u2.alloc (.cells #[.int .u8 y0, .int .u8 y1] 5)).drew.cell? ⟨b, o + 18, none⟩ = some (.int .u8 y2) := ⟨((bl_alloc (bl_refl u2) _).cell (p := ⟨b, o + 16, none⟩) hbU).trans c16, ((bl_alloc (bl_refl u2) _).cell (p := ⟨b, o + 17, none⟩) hbU).trans c17, ((bl_alloc (bl_refl u2) _).cell (p := ⟨b, o + 18, none⟩) hbU).trans c18⟩
    have oD := (Own.new u2 5 #[.int .u8 y0, .int .u8 y1]).drew
    have hBD := Bytes.of_owned (xs := [y0, y1]) oD (by intro x hx; simp at hx; omega) oD.lt
    have hbA := (bl_alloc (bl_refl u2) (.cells #[.int .u8 y0, .int .u8 y1] 5)).drew
    go_region_held3 (fun W => W.cell? ⟨b, o + 16, none⟩ = some (.int .u8 y0) ∧ W.cell? ⟨b, o + 17, none⟩ = some (.int .u8 y1) ∧ W.cell? ⟨b, o + 18, none⟩ = some (.int .u8 y2)) (with_reducible first | exact HS1 | exact HSA | exact HS2 | exact HS3 _ _ | exact HS4 _ _ _ _ _ _ _) ((first
      | (go_at_call 56; (with_reducible refine (failure_any 2 16 _ 2 2 [y0, y1] _ hBD (by omega)).mono ?_); rintro e w1 ⟨G, rfl, hG, hoG, hbf⟩; have hbw := bl_trans hb1 (hbA.trans (hbf.mono (by simp [World.drew]))); have q16 := (hbf.cell (p := ⟨b, o + 16, none⟩) (by simp [World.drew]; omega)).trans HSA.1; have q17 := (hbf.cell (p := ⟨b, o + 17, none⟩) (by simp [World.drew]; omega)).trans HSA.2.1; have q18 := (hbf.cell (p := ⟨b, o + 18, none⟩) (by simp [World.drew]; omega)).trans HSA.2.2; have HS2 : w1.cell? ⟨b, o + 16, none⟩ = some (.int .u8 y0) ∧ w1.cell? ⟨b, o + 17, none⟩ = some (.int .u8 y1) ∧ w1.cell? ⟨b, o + 18, none⟩ = some (.int .u8 y2) := ⟨q16, q17, q18⟩; have HS3 := fun x y => st2_three (w := w1) n1 q16 q17 q18 x y; have HS4 := fun x y z t u v s => st7_three (w := w1) n1 n2 q16 q17 q18 x y z t u v s; have pH := (HH2.out.alloc (.cells #[.int .u8 y0, .int .u8 y1] 5)).drew.step hbf; have pV := (HVV2.out.alloc (.cells #[.int .u8 y0, .int .u8 y1] 5)).drew.step hbf; have hGs : w.heap.size + 1 + 1 + 1 ≤ G := (by have := HZ.out; simp [World.drew] at hG; omega); have h0 := pH.cell (i := 0) (v := .int .i64 0) rfl; have h1 := pH.cell (i := 1) (v := .int .i64 0) rfl; have v0 := pV.cell (i := 0) (v := .int .i64 0) rfl; have v1 := pV.cell (i := 1) (v := .int .i64 0) rfl; have v2 := pV.cell (i := 2) (v := .int .i64 0) rfl; have v3 := pV.cell (i := 3) (v := .slice none 0 0) rfl; have v4 := pV.cell (i := 4) (v := .int .i64 0) rfl; have g0 := pH.frozen 0; have g1 := pH.frozen 1; have f0 := pV.frozen 0; have f1 := pV.frozen 1; have f2 := pV.frozen 2; have f3 := pV.frozen 3; have f4 := pV.frozen 4; have hlt1 := pH.lt; have hlt2 := pV.lt)))
    go_wp2
    refine bodyPost_ret (results_two (p := 4) (q := 5) (fn := Tryd.f43) rfl _ _ (w.heap.size + 1) 94 #[.int .i64 0, .int .i64 0] _ (w.heap.size + 1 + 1) 49 #[.int .i64 4, .int .i64 1, .int .i64 2, .slice (some ⟨G, 0, none⟩) 2 2, .int .i64 16] _ rfl (st7_own1 pH) hd_desc rfl (hd_info _ _) rfl (st7_own2 pV) vd_desc rfl (vd_info _ _ _ _ _)) rfl ⟨_, rfl, (st7_far hoG (by omega) (by omega)), (st7_below hbw (by omega))⟩
end Go.Proofs.YtgahjchngmojlabDoor

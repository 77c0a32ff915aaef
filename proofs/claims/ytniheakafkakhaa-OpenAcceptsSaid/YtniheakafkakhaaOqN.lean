/- OpenAccepts: the walk -/
import Derived.Test.YtniheakafkakhaaOqM2
namespace Go.Proofs.Ytniheakafkakhaa
open Go.RowKit Go.Sort
set_option maxRecDepth 100000 in
set_option maxHeartbeats 12800000 in
theorem opacc_all (A : Option Addr) (n c : Nat) (bs : List Int) (w : World) (hx : Bytes w w.heap.size A n bs) (hc : n ≤ c ∧ c ≤ 9223372036854775807) :
    Calls Try.prog 4 #[.slice A n c] w fun e w' => e = .returned (.bool true) ∧ Below w.heap.size w w' := by
  have hnl := hx.1
  by_cases h6 : n ≤ 600
  rotate_left
  · have g6 : (600 : Int) < (n : Int) := by omega
    clear hnl h6 hc hx
    go_enter Try.func4, Try.ntmps4
    go_wp2_with fail
    refine (alive17_any _).mono ?_
    rintro e w3 ⟨rfl, hb4⟩
    go_wp2
    go_ret
    exact ⟨rfl, hb4⟩
  · have g6 : ¬ ((600 : Int) < (n : Int)) := by omega
    have hby : byteC bs := hx.2.1
    cases hpo : oParse bs with
    | inl ee =>
      obtain ⟨s, t, ds⟩ := ee
      have hQ : oAns (oParse bs) = ((0, 0, 0, []), (4, 2, s, t, ds)) := by rw [hpo]; rfl
      clear hpo
      have hP1 := Lib.hid ((ropen_any A n c bs w hx hc (by omega)).mono (fun e w' h => h.res hQ hby))
      have hP2 := Lib.hid (fun (W : World) (k2 : Below w.heap.size w W) => (oparse_any A n c bs W ((hx.below k2).more k2.size) (by omega)).mono (fun e w' h => h.res hQ hby))
      clear hc hx hby hQ hnl h6
      go_enter Try.func4, Try.ntmps4
      go_upto_region 3 with fail
      go_cut [3, 4] (fun v3 v4 wx => PBx 34 0 0 0 [] 4 2 s t ds w v3 v4 wx)
      case first =>
        go_wp2_with fail
        refine (hP1.out).mono ?_
        rintro e w1 ⟨A1, c1, L1, D1, dn1, dc1, rfl, hC1, hk1, hl1, hB1, hb1⟩
        have HC1 := Lib.hid hC1
        have HK1 := Lib.hid hk1
        have HL1 := Lib.hid hl1
        have HB1 := Lib.hid hB1
        have Hb1 := Lib.hid hb1
        clear hC1 hk1 hl1 hB1 hb1
        obtain ⟨X1, hX1, oR, oV, hbX, hXs⟩ := two_boxesN w1 #[.int .u32 0, .int .i64 0, .int .u32 0, .slice A1 L1.length c1] #[.int .i64 4, .int .i64 2, .int .i64 s, .slice D1 dn1 dc1, .int .i64 t] 34 29
        clear hXs
        dsimp only
        repeat (first | go_values | go_skip | go_guarded | go_step | go_upon)
        go_meet
        rw [← hX1]
        exact ⟨w1.heap.size, w1.heap.size + 1, A1, c1, L1, D1, dn1, dc1, rfl, rfl, oR, oV, HC1.out.step hbX, HK1.out, HL1.out, HB1.out.stp hbX, bl_trans Hb1.out hbX⟩
      case rest =>
      obtain ⟨wa, hwa⟩ : ∃ z, z = wc := ⟨_, rfl⟩
      subst hwa
      obtain ⟨g1, g2, A1, c1, L1, D1, dn1, dc1, rfl, rfl, o1, o2, hC1, hk1, hl1, hB1, hb1⟩ := hcut
      have hP3 := Lib.hid (hP2.out wa hb1)
      clear hP1 hP2 hC1 hk1 hl1 hB1 o1
      go_upto_region 4 with fail
      go_cut [5, 6] (fun v5 v6 wx => PBx 27 0 0 0 [] 4 2 s t ds wa v5 v6 wx)
      case first =>
        clear o2 hb1
        go_wp2_with fail
        refine (hP3.out).mono ?_
        rintro e w1 ⟨A1, c1, L1, D1, dn1, dc1, rfl, hC1, hk1, hl1, hB1, hb1⟩
        have HC1 := Lib.hid hC1
        have HK1 := Lib.hid hk1
        have HL1 := Lib.hid hl1
        have HB1 := Lib.hid hB1
        have Hb1 := Lib.hid hb1
        clear hC1 hk1 hl1 hB1 hb1
        obtain ⟨X1, hX1, oR, oV, hbX, hXs⟩ := two_boxesN w1 #[.int .u32 0, .int .i64 0, .int .u32 0, .slice A1 L1.length c1] #[.int .i64 4, .int .i64 2, .int .i64 s, .slice D1 dn1 dc1, .int .i64 t] 27 29
        clear hXs
        dsimp only
        repeat (first | go_values | go_skip | go_guarded | go_step | go_upon)
        go_meet
        rw [← hX1]
        exact ⟨w1.heap.size, w1.heap.size + 1, A1, c1, L1, D1, dn1, dc1, rfl, rfl, oR, oV, HC1.out.step hbX, HK1.out, HL1.out, HB1.out.stp hbX, bl_trans Hb1.out hbX⟩
      case rest =>
      obtain ⟨wb, hwb⟩ : ∃ z, z = wc := ⟨_, rfl⟩
      subst hwb
      obtain ⟨g3, g4, A2, c2, L2, D2, dn2, dc2, rfl, rfl, o3, o4, hC2, hk2, hl2, hB2, hb2⟩ := hcut
      have hb3 := bl_trans hb1 hb2
      have o22 := o2.step hb2
      clear o2 hb1 hb2 hB2 hP3
      clear hC2 hk2 hl2 o3
      obtain ⟨d0, d1, d2, d3, d4⟩ := own_5 o22
      go_wp2_with fail
      refine (alive17_any _).mono ?_
      rintro e w3 ⟨rfl, hb4⟩
      have hb5 := bl_trans hb3 hb4
      have o42 := o4.step hb4
      clear d0 d1 d2 d3 d4 o22 o4 hb3 hb4
      obtain ⟨d0, d1, d2, d3, d4⟩ := own_5 o42
      go_wp2
      go_ret
      exact ⟨rfl, hb5⟩
    | inr x =>
      obtain ⟨a, hd, id, N⟩ := x
      have hQ : oAns (oParse bs) = ((a, hd, id, N), (0, 0, 0, 0, [])) := by rw [hpo]; rfl
      obtain ⟨hG, hlen, h10⟩ := oParse_good hby hpo
      have HG := Lib.hid hG
      have HLN : Hid (N = [] ∨ (N.flatMap kFormC).length + 12 ≤ n) := Lib.hid (by rw [hnl]; exact hlen)
      have H6 := Lib.hid (And.intro h6 (show 10 ≤ n by omega))
      clear hpo hG hlen h10
      have hP1 := Lib.hid ((ropen_any A n c bs w hx hc (by omega)).mono (fun e w' h => h.res hQ hby))
      have hP2 := Lib.hid (fun (W : World) (k2 : Below w.heap.size w W) => (oparse_any A n c bs W ((hx.below k2).more k2.size) (by omega)).mono (fun e w' h => h.res hQ hby))
      clear hc hx hby hQ hnl h6
      go_enter Try.func4, Try.ntmps4
      go_upto_region 3 with fail
      go_cut [3, 4] (fun v3 v4 wx => PBx 34 a hd id N 0 0 0 0 [] w v3 v4 wx)
      case first =>
        go_wp2_with fail
        refine (hP1.out).mono ?_
        rintro e w1 ⟨A1, c1, L1, D1, dn1, dc1, rfl, hC1, hk1, hl1, hB1, hb1⟩
        have HC1 := Lib.hid hC1
        have HK1 := Lib.hid hk1
        have HL1 := Lib.hid hl1
        have HB1 := Lib.hid hB1
        have Hb1 := Lib.hid hb1
        clear hC1 hk1 hl1 hB1 hb1
        obtain ⟨X1, hX1, oR, oV, hbX, hXs⟩ := two_boxesN w1 #[.int .u32 a, .int .i64 hd, .int .u32 id, .slice A1 L1.length c1] #[.int .i64 0, .int .i64 0, .int .i64 0, .slice D1 dn1 dc1, .int .i64 0] 34 29
        clear hXs
        dsimp only
        repeat (first | go_values | go_skip | go_guarded | go_step | go_upon)
        go_meet
        rw [← hX1]
        exact ⟨w1.heap.size, w1.heap.size + 1, A1, c1, L1, D1, dn1, dc1, rfl, rfl, oR, oV, HC1.out.step hbX, HK1.out, HL1.out, HB1.out.stp hbX, bl_trans Hb1.out hbX⟩
      case rest =>
      obtain ⟨wa, hwa⟩ : ∃ z, z = wc := ⟨_, rfl⟩
      subst hwa
      obtain ⟨g1, g2, A1, c1, L1, D1, dn1, dc1, rfl, rfl, o1, o2, hC1, hk1, hl1, hB1, hb1⟩ := hcut
      have hP3 := Lib.hid (hP2.out wa hb1)
      clear hP1 hP2 hC1 hk1 hl1 hB1 o1
      go_upto_region 4 with fail
      go_cut [5, 6] (fun v5 v6 wx => PBx 27 a hd id N 0 0 0 0 [] wa v5 v6 wx)
      case first =>
        clear o2 hb1
        go_wp2_with fail
        refine (hP3.out).mono ?_
        rintro e w1 ⟨A1, c1, L1, D1, dn1, dc1, rfl, hC1, hk1, hl1, hB1, hb1⟩
        have HC1 := Lib.hid hC1
        have HK1 := Lib.hid hk1
        have HL1 := Lib.hid hl1
        have HB1 := Lib.hid hB1
        have Hb1 := Lib.hid hb1
        clear hC1 hk1 hl1 hB1 hb1
        obtain ⟨X1, hX1, oR, oV, hbX, hXs⟩ := two_boxesN w1 #[.int .u32 a, .int .i64 hd, .int .u32 id, .slice A1 L1.length c1] #[.int .i64 0, .int .i64 0, .int .i64 0, .slice D1 dn1 dc1, .int .i64 0] 27 29
        clear hXs
        dsimp only
        repeat (first | go_values | go_skip | go_guarded | go_step | go_upon)
        go_meet
        rw [← hX1]
        exact ⟨w1.heap.size, w1.heap.size + 1, A1, c1, L1, D1, dn1, dc1, rfl, rfl, oR, oV, HC1.out.step hbX, HK1.out, HL1.out, HB1.out.stp hbX, bl_trans Hb1.out hbX⟩
      case rest =>
      obtain ⟨wb, hwb⟩ : ∃ z, z = wc := ⟨_, rfl⟩
      subst hwb
      obtain ⟨g3, g4, A2, c2, L2, D2, dn2, dc2, rfl, rfl, o3, o4, hC2, hk2, hl2, hB2, hb2⟩ := hcut
      have hb3 := bl_trans hb1 hb2
      have o22 := o2.step hb2
      clear o2 hb1 hb2 hB2 hP3
      obtain ⟨d0, d1, d2, d3, d4⟩ := own_5 o22
      have hnn : ∀ s ∈ L2, s.n = s.xs.length := fun s hs => (hC2.2.1 s hs).1.1
      have hGL := HG.out
      rw [← hk2] at hGL
      have hok := oOk_good hnn hGL
      have hsn : ∀ s ∈ L2, s.n ≤ 1000 := fun s hs => by
        have h1 := (hGL.2.2.2.1 _ (List.mem_map_of_mem hs)).1.2.2
        have h2 := hnn s hs
        have h3 : s.xs.length ≤ 255 := h1
        omega
      have hBy := Lib.hid (obytes_any a hd id A2 L2.length c2 L2 wb hC2 (by omega) hsn (by have := hGL.1; omega) (by have := hGL.2.1; omega))
      have hFl : (oFormK (oNum a) hd id (oPar L2)).length ≤ n := by
        rw [oForm_len]
        have h1 := oPar_len L2 hnn
        rw [hk2] at h1
        have h2 := HLN.out
        have h3 := H6.out
        rcases h1 with ⟨_, h1⟩ | h1
        · omega
        · rcases h2 with h2 | h2
          · rw [h2] at h1; exact absurd h1 (by
              have e : L2 = [] := List.map_eq_nil_iff.1 (hk2.trans h2)
              rw [e]; intro h; cases h)
          · omega
      have hpf : oParse (oFormK (oNum a) hd id (oPar L2)) = .inr (a, hd, id, N) := by rw [← hk2]; exact oParse_form hnn hGL
      unfold OBytesR at hBy
      rw [hok] at hBy
      simp only [if_true] at hBy
      generalize oFormK (oNum a) hd id (oPar L2) = F at *
      have HFL := Lib.hid hFl
      have hPF : Hid (∀ (W : World) (A' : Option Addr) (n' c' : Nat), Bytes W W.heap.size A' n' F → Calls Try.prog 7 #[.slice A' n' c'] W fun e w' => PRes a hd id N 0 0 0 0 [] W e w') := Lib.hid (fun W A' n' c' hb => (oparse_any A' n' c' F W hb (by have := HFL.out; have := H6.out.1; omega)).mono (fun e w' h => h.res (by rw [hpf]; rfl) hb.2.1))
      have HC2 := Lib.hid hC2
      have HK2 := Lib.hid hk2
      have HL2 := Lib.hid hl2
      have H3 := Lib.hid o3
      have H4 := Lib.hid o4
      clear hC2 hk2 hl2 hnn hGL hok hsn hFl hpf o4
      go_upto_region 7 with fail
      clear d0 d1 d2 d3 d4 o22
      obtain ⟨e0, e1, e2, e3⟩ := own_end o3
      go_wp2_with fail
      refine hBy.out.mono ?_
      rintro e w3 ⟨A3, n3, c3, rfl, hB3, hb4⟩
      have hl3 : (n3 : Int) ≤ (n : Int) := by rw [hB3.1]; have := HFL.out; omega
      have HL3 := Lib.hid hl3
      have o32 := H3.out.step hb4
      have o42 := H4.out.step hb4
      have hb5 := bl_trans hb3 hb4
      have HC3 := Lib.hid (HC2.out.step hb4)
      have hP5 := Lib.hid (hPF.out w3 A3 n3 c3 hB3)
      clear e0 e1 e2 e3 o3 H3 H4 hb3 hb4 hB3 HC2 hPF hBy hl3 HFL
      go_upto_region 8 with fail
      go_cut [9, 10] (fun v9 v10 wx => PBx 27 a hd id N 0 0 0 0 [] w3 v9 v10 wx)
      case first =>
        clear o32 o42 hb5 HC3
        go_wp2_with fail
        refine (hP5.out).mono ?_
        rintro e w1 ⟨A1, c1, L1, D1, dn1, dc1, rfl, hC1, hk1, hl1, hB1, hb1⟩
        have HC1 := Lib.hid hC1
        have HK1 := Lib.hid hk1
        have HL1 := Lib.hid hl1
        have HB1 := Lib.hid hB1
        have Hb1 := Lib.hid hb1
        clear hC1 hk1 hl1 hB1 hb1
        obtain ⟨X1, hX1, oR, oV, hbX, hXs⟩ := two_boxesN w1 #[.int .u32 a, .int .i64 hd, .int .u32 id, .slice A1 L1.length c1] #[.int .i64 0, .int .i64 0, .int .i64 0, .slice D1 dn1 dc1, .int .i64 0] 27 29
        clear hXs
        dsimp only
        repeat (first | go_values | go_skip | go_guarded | go_step | go_upon)
        go_meet
        rw [← hX1]
        exact ⟨w1.heap.size, w1.heap.size + 1, A1, c1, L1, D1, dn1, dc1, rfl, rfl, oR, oV, HC1.out.step hbX, HK1.out, HL1.out, HB1.out.stp hbX, bl_trans Hb1.out hbX⟩
      case rest =>
      obtain ⟨wd, hwd⟩ : ∃ z, z = wc := ⟨_, rfl⟩
      subst hwd
      obtain ⟨g5, g6', A5, c5, L5, D5, dn5, dc5, rfl, rfl, o5, o6, hC5, hk5, hl5, hB5, hb6⟩ := hcut
      have hb7 := bl_trans hb5 hb6
      have o33 := o32.step hb6
      have o43 := o42.step hb6
      have HC4 := Lib.hid (HC3.out.step hb6)
      have HC5 := Lib.hid hC5
      have HKK := Lib.hid (HK2.out.trans hk5.symm)
      have HL5 := Lib.hid hl5
      clear o32 o42 hb5 hb6 hC5 hk5 hl5 hB5 HC3 hP5
      go_wp2_with fail
      refine (alive17_any _).mono ?_
      rintro e w4 ⟨rfl, hb8⟩
      have hb9 := bl_trans hb7 hb8
      have o34 := o33.step hb8
      have o44 := o43.step hb8
      have o54 := o5.step hb8
      have o64 := o6.step hb8
      have hsm := Lib.hid (osame17_any a hd id A2 L2.length c2 a hd id A5 L5.length c5 L2 L5 w4 (HC4.out.step hb8) (HC5.out.step hb8) (by have := HL2.out; omega) (by have := HL5.out; omega))
      rw [HKK.out] at hsm
      simp only [beq_self_eq_true, decide_true, Bool.and_self] at hsm
      clear o33 o43 o5 o6 hb7 hb8 HC4 HC5
      obtain ⟨e0, e1, e2, e3⟩ := own_end o34
      obtain ⟨y0, y1, y2, y3⟩ := own_end o54
      obtain ⟨d0, d1, d2, d3, d4⟩ := own_5 o44
      obtain ⟨z0, z1, z2, z3, z4⟩ := own_5 o64
      have hl3 := HL3.out
      go_wp2_with fail
      refine hsm.out.mono ?_
      rintro e w5 ⟨rfl, hb10⟩
      have hb11 := bl_trans hb9 hb10
      go_wp2
      go_ret
      exact ⟨rfl, hb11⟩
end Go.Proofs.Ytniheakafkakhaa

/- MergeNarrows: the walk -/
import Derived.Test.YtniheakafkakhabDoorMgG
namespace Go.Proofs.YtniheakafkakhabDoor
open Go.RowKit Go.Sort

theorem ok_wide {L : List Sg} (h : L.all (sgOk 2) = true) : L.all (sgOk 4) = true := by
  rw [List.all_eq_true] at h ⊢
  intro s hs
  have := h s hs
  unfold sgOk at this ⊢
  rw [Bool.and_eq_true] at this
  rw [this.1]
  rfl
theorem seglen_nar (s : Sg) : segLen (narK s) = segLen (sgK s) := by
  unfold segLen narK sgK
  dsimp only
  rw [List.length_map]
theorem len_nar (ss : List Sg) : lenL (ss.map narK) = lenL (ss.map sgK) := by
  unfold lenL
  rw [List.map_map, List.map_map]
  congr 1
  exact List.map_congr_left fun s _ => seglen_nar s
theorem nar2_pos {ss : List Sg} (h : nar2 ss = false) : 1 ≤ ss.length := by
  cases ss with
  | nil => exact absurd h (by decide)
  | cons s ss => simp
set_option maxRecDepth 100000 in
set_option maxHeartbeats 3200000 in
theorem mgnar_yes (A : Option Addr) (n c : Nat) (ss : List Sg) (w : World) (ht : Tens w) (hbk : Brk w) (h : Segs w w.heap.size A n ss) (hm : n ≤ maxLen) (hf : fewB ss = true) (hv : ss.all (sgOk 4) = true) :
    Calls Tryd.prog 5 #[.slice A n c] w fun e w' => e = .returned (.bool true) ∧ Below w.heap.size w w' := by
  have HV := Lib.hid h
  obtain ⟨f1, f2⟩ := few_lenV hf
  have HN := Lib.hid h.1
  have hn : n ≤ 50 := by rw [h.1]; exact f1
  have HS : Hid (∀ s ∈ ss, s.n ≤ 1000) := Lib.hid fun s hs => Nat.le_trans (f2 s hs) (by omega)
  have hR1 := Lib.hid (right21_any A n c ss w h hm)
  rw [hf, hv, Bool.true_and] at hR1
  have hA : Hid (∀ W, Below w.heap.size w W → Calls Tryd.prog 7 #[] W fun e w' => e = .returned (.bool true) ∧ Below W.heap.size W w') := Lib.hid fun W hb => alive21_any W (ht.below hb) (hbk.below hb)
  have hN1 : Hid (∀ W, Below w.heap.size w W → Calls Tryd.prog 15 #[.slice A n c] W fun e w' => NarR W ss e w') := Lib.hid fun W hb => mnarrow_any A n c ss W (segsE_below h hb) (by omega) HS.out
  have hN2 : Hid (∀ W, Below w.heap.size w W → Calls Tryd.prog 16 #[.slice A n c] W fun e w' => RNarR W A n c ss e w') := Lib.hid fun W hb => rmnarrow_any A n c ss W (segsE_below h hb) (by omega) HS.out hv
  have hsn := Lib.hid (sgn_of h)
  have hok : Hid (∀ L : List Sg, L.map sgK = ss.map narK → (∀ s ∈ L, s.n = s.xs.length) → L.all (sgOk 2) = true) := Lib.hid fun L h1 h2 => (ok_eq h1 h2 hsn.out).trans hv
  clear h hm hf hv f1 f2 ht hbk
  go_enter Tryd.func5, Tryd.ntmps5
  go_wp2_with fail
  refine hR1.out.mono ?_
  rintro e w1 ⟨rfl, hb1⟩
  go_wp2_with fail
  refine (hN1.out _ hb1).mono ?_
  rintro e w2 ⟨v1, L1, v2, L2, rfl, hr1, hr2, hL, hb2⟩
  obtain ⟨A1, c1, rfl, hS1⟩ := hr1.segs
  obtain ⟨A2, c2, rfl, hS2⟩ := hr2.segs
  have hb3 := bl_trans hb1 hb2
  go_wp2_with fail
  refine (hN2.out _ hb3).mono ?_
  rintro e w3 ⟨A3, c3, L3, v4, rfl, hS3, hv4, hL3, hb4⟩
  have hb5 := bl_trans hb3 hb4
  have HS1 := Lib.hid (segsE_below hS1 hb4)
  have HS2 := Lib.hid (segsE_below hS2 hb4)
  have hV4 : Hid (∃ A4 n4 c4 L4, v4 = .slice A4 n4 c4 ∧ Segs w3 w3.heap.size A4 n4 L4 ∧ n4 ≤ 50 ∧ L4.map sgK = L2.map sgK ∧ ∀ s ∈ L4, s.n ≤ 1000) := Lib.hid (by
    obtain ⟨_, _, _, e4, _, _⟩ := hL.out
    by_cases hd : nar2 ss = true
    · rw [if_pos hd] at hv4 e4
      exact ⟨none, 0, 0, [], hv4, ⟨rfl, (fun s hs => by cases hs), .inl rfl⟩, by omega, e4.symm, fun s hs => by cases hs⟩
    · rw [if_neg hd] at hv4 e4
      exact ⟨A, n, c, ss, hv4, segsE_below HV.out hb5, hn, e4.symm, HS.out⟩)
  obtain ⟨A4, n4, c4, L4, rfl, hS4, hn4, e4, hs4⟩ := hV4.out
  have l1 := hL.out.2.1
  have l2 := hL.out.2.2.2.2.1
  have l3 := hL3.out.2.1
  have hl1 : L1.length ≤ 50 := by have := HN.out; omega
  have hl2 : L2.length ≤ 50 := by have := HN.out; omega
  have hl3 : L3.length ≤ 50 := by have := HN.out; omega
  have hSm := Lib.hid (rsameS_any A1 A3 L1.length L3.length c1 c3 L1 L3 w3 _ _ HS1.out hS3 (by omega) (by omega) hL.out.2.2.1 hL3.out.2.2)
  rw [hL.out.1, hL3.out.1, decide_eq_true rfl] at hSm
  have hSw : Hid (∀ m, Calls Tryd.prog 9 #[.slice A2 L2.length c2, .slice A4 n4 c4] (w3.drewN m) fun e w' => e = .returned (.bool true) ∧ ∃ m2, (w3.drewN m).drewN m2 = w') := Lib.hid fun m => by
    have hm := bl_drewN (bl_refl w3) m
    have := rsameS_any A2 A4 L2.length n4 c2 c4 L2 L4 (w3.drewN m) _ _ (segsE_below HS2.out hm) (segsE_below hS4 hm) (by omega) (by omega) hL.out.2.2.2.2.2 hs4
    rwa [e4, decide_eq_true rfl] at this
  have hok2 := hok.out L1 hL.out.1 (sgn_of HS1.out)
  have hVl : Hid (∀ W, Below w3.heap.size w3 W → Calls Tryd.prog 17 #[.int .i64 2, .slice A1 L1.length c1] W fun e w' => e = .returned (.bool true) ∧ Below W.heap.size W w') := Lib.hid fun W hb => by
    have := svalid_any 2 A1 L1.length c1 L1 W (segsE_below HS1.out hb) (by omega)
    rwa [hok2, decide_eq_true (.inl rfl), Bool.true_and] at this
  have hone := Lib.hid (one_all (ok_wide hok2) (sgn_of HS1.out))
  have hPt : Hid (nar2 ss = false → ∀ W, Below w3.heap.size w3 W → Calls Tryd.prog 13 #[.slice A1 L1.length c1, .slice A2 L2.length c2] W fun e w' => HeadR W (ss.map sgK) 1001 e w') := Lib.hid fun hd W hb => by
    have := mpaths_any A1 L1.length c1 A2 L2.length c2 L1 L2 W (segsE_below HS1.out hb) (segsE_below HS2.out hb) (by omega) (by omega) hL.out.2.2.1 hL.out.2.2.2.2.2 (ok_wide hok2)
    have e2 := hL.out.2.2.2.1
    rw [if_neg (by rw [hd]; exact Bool.false_ne_true)] at e2
    rwa [paths_self hone.out (by rw [hL.out.1, e2, len_nar]), e2] at this
  have hl2e : Hid (L2.length = if nar2 ss = true then 0 else n) := Lib.hid (by
    have e2 := congrArg List.length hL.out.2.2.2.1
    have := HN.out
    split at e2
    · rename_i hd
      rw [if_pos hd]
      simpa using e2
    · rename_i hd
      rw [if_neg hd]
      simp only [List.length_map] at e2
      omega)
  have hpos : Hid (nar2 ss = false → 1 ≤ n) := Lib.hid fun hd => by
    have := nar2_pos hd
    have := HN.out
    omega
  clear hS1 hS2 hr1 hr2 hS3 hS4 hb1 hb2 hb3 hb4 hv4 hV4 hok hok2 hN1 hN2 hone e4 hs4 l1 l2 l3
  go_wp2_with fail
  refine hSm.out.mono ?_
  rintro e w4 ⟨rfl, m, rfl⟩
  go_wp2_with fail
  refine (hSw.out m).mono ?_
  rintro e w5 ⟨rfl, m2, rfl⟩
  have hb6 := bl_drewN (bl_refl w3) (m + m2)
  have hb7 := bl_drewN hb5 (m + m2)
  clear hSm hSw hb5
  go_wp2_with fail
  refine (hVl.out _ hb6).mono ?_
  rintro e w6 ⟨rfl, hb8⟩
  have hb9 := bl_trans hb6 hb8
  have hb10 := bl_trans hb7 hb8
  clear hb6 hb7 hb8 hVl
  go_wp2_with fail
  refine (hA.out _ hb10).mono ?_
  rintro e w7 ⟨rfl, hb11⟩
  have hb12 := bl_trans hb9 hb11
  have hb13 := bl_trans hb10 hb11
  clear hb9 hb10 hb11 hA
  by_cases hd : nar2 ss = true
  · have e2 : L2.length = 0 := by have := hl2e.out; rwa [if_pos hd] at this
    have hSe := Lib.hid (rsameS_any A1 A L1.length n c1 c L1 ss w7 _ _ (segsE_below HS1.out hb12) (segsE_below HV.out hb13) (by omega) (by omega) hL.out.2.2.1 HS.out)
    rw [hL.out.1, nar2_iff.2 hd, decide_eq_true rfl] at hSe
    rw [e2]
    clear hPt hpos hl2e hl2 hd e2
    go_wp2_with fail
    refine hSe.out.mono ?_
    rintro e w8 ⟨rfl, m3, rfl⟩
    have hb14 := bl_drewN hb13 m3
    go_wp2
    go_ret
    exact ⟨rfl, hb14⟩
  · have hd' : nar2 ss = false := by simpa using hd
    have e2 : L2.length = n := by have := hl2e.out; rwa [if_neg hd] at this
    have hp := hpos.out hd'
    have hP := Lib.hid (hPt.out hd' w7 hb12)
    rw [e2] at hP ⊢
    have e3 : decide ((0 : Int) < n) = true := decide_eq_true (by omega)
    clear hPt hpos hl2e hl2 hd hd' e2
    go_wp2_with fail
    refine hP.out.mono ?_
    rintro e w8 ⟨v8, L8, rfl, hr8, hL8, hb14⟩
    obtain ⟨A8, c8, rfl, hS8⟩ := hr8.segs
    have hb15 := bl_trans hb13 hb14
    have hl8 : L8.length ≤ 50 := by have := congrArg List.length hL8.out.1; rw [List.length_map, List.length_map] at this; have := HN.out; omega
    have hSe := Lib.hid (rsameS_any A8 A L8.length n c8 c L8 ss w8 _ _ hS8 (segsE_below HV.out hb15) (by omega) (by omega) hL8.out.2.2 HS.out)
    rw [hL8.out.1, decide_eq_true rfl] at hSe
    clear hS8 hr8 hl8
    go_wp2_with fail
    refine hSe.out.mono ?_
    rintro e w9 ⟨rfl, m3, rfl⟩
    have hb16 := bl_drewN hb15 m3
    go_wp2
    go_ret
    exact ⟨rfl, hb16⟩
set_option maxRecDepth 100000 in
theorem mgnar_all (A : Option Addr) (n c : Nat) (ss : List Sg) (w : World) (ht : Tens w) (hbk : Brk w) (h : Segs w w.heap.size A n ss) (hm : n ≤ maxLen) :
    Calls Tryd.prog 5 #[.slice A n c] w fun e w' => e = .returned (.bool true) ∧ Below w.heap.size w w' := by
  by_cases hR : (fewB ss && ss.all (sgOk 4)) = true
  · rw [Bool.and_eq_true] at hR
    exact mgnar_yes A n c ss w ht hbk h hm hR.1 hR.2
  · have hRi := Lib.hid (right21_any A n c ss w h hm)
    rw [show (fewB ss && ss.all (sgOk 4)) = false by simpa using hR] at hRi
    have hA : Hid (∀ W, Below w.heap.size w W → Calls Tryd.prog 7 #[] W fun e w' => e = .returned (.bool true) ∧ Below W.heap.size W w') := Lib.hid fun W hb => alive21_any W (ht.below hb) (hbk.below hb)
    clear h hm hR ht hbk
    go_enter Tryd.func5, Tryd.ntmps5
    go_wp2_with fail
    refine hRi.out.mono ?_
    rintro e w1 ⟨rfl, hb1⟩
    go_wp2_with fail
    refine (hA.out _ hb1).mono ?_
    rintro e w2 ⟨rfl, hb2⟩
    have hb3 := bl_trans hb1 hb2
    go_wp2
    go_ret
    exact ⟨rfl, hb3⟩
end Go.Proofs.YtniheakafkakhabDoor

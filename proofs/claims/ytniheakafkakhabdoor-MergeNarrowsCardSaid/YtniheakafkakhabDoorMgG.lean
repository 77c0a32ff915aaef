/- MergeHeads: the walk -/
import Derived.Test.YtniheakafkakhabDoorMgF
namespace Go.Proofs.YtniheakafkakhabDoor
open Go.RowKit Go.Sort

theorem head_top {k : Int} {K : List (Int × List Int)} (h1 : ∀ p ∈ K, 1 ≤ segLen p) : (lenL (headK k K) : Int) ≤ max k 0 := by
  by_cases h : 0 ≤ k
  · have := headK_len (L := K) h
    omega
  · rw [headK_zero (by omega) h1]
    show (0 : Int) ≤ _
    omega
theorem head_all {k : Int} {K : List (Int × List Int)} (h1 : ∀ p ∈ K, 1 ≤ segLen p) (h2 : ∀ p ∈ K, p.1 = 2) : (lenL (headK k K) : Int) = max (min k (lenL K)) 0 := by
  by_cases h : 0 ≤ k
  · have := headK_seq h2 h
    omega
  · rw [headK_zero (by omega) h1]
    show (0 : Int) = _
    omega
theorem segsE_below {w w' : World} {A : Option Addr} {n : Nat} {L : List Sg} (h : Segs w w.heap.size A n L) (hb : Below w.heap.size w w') : Segs w' w'.heap.size A n L := (h.below hb).more hb.size
set_option maxRecDepth 100000 in
set_option maxHeartbeats 3200000 in
theorem mgheads_yes (k : Int) (hk : k ≤ 9223372036854775807) (A : Option Addr) (n c : Nat) (ss : List Sg) (w : World) (ht : Tens w) (hbk : Brk w) (h : Segs w w.heap.size A n ss) (hnc : n ≤ c) (hcm : c ≤ maxLen) (hf : fewB ss = true) (hv : ss.all (sgOk 4) = true) :
    Calls Tryd.prog 3 #[.int .i64 k, .slice A n c] w fun e w' => e = .returned (.bool true) ∧ Below w.heap.size w w' := by
  have HV := Lib.hid h
  have HN := Lib.hid h.1
  obtain ⟨f1, f2⟩ := few_lenV hf
  have hn : n ≤ 50 := by rw [h.1]; exact f1
  have HS : Hid (∀ s ∈ ss, s.n ≤ 1000) := Lib.hid fun s hs => Nat.le_trans (f2 s hs) (by omega)
  have hRi := Lib.hid (right21_any A n c ss w h (Nat.le_trans hnc hcm))
  rw [hf, hv, Bool.true_and] at hRi
  have hA : Hid (∀ W, Below w.heap.size w W → Calls Tryd.prog 7 #[] W fun e w' => e = .returned (.bool true) ∧ Below W.heap.size W w') := Lib.hid fun W hb => alive21_any W (ht.below hb) (hbk.below hb)
  have hLr : Hid (∀ W, Below w.heap.size w W → Calls Tryd.prog 12 #[.slice A n c] W fun e w' => e = .returned (.int .i64 (lenS ss n : Nat)) ∧ Below W.heap.size W w') := Lib.hid fun W hb => rlength_any A n c ss W (segsE_below h hb) (by omega) HS.out
  have hH1 : Hid (∀ W, Below w.heap.size w W → Calls Tryd.prog 8 #[.int .i64 k, .slice A n c] W fun e w' => HeadR W (headK k (ss.map sgK)) 501 e w') := Lib.hid fun W hb => mhead_any k hk A n c ss W (segsE_below h hb) (by omega) HS.out hv
  have hH2 : Hid (∀ W, Below w.heap.size w W → Calls Tryd.prog 10 #[.int .i64 k, .slice A n c] W fun e w' => HeadR W (headK k (ss.map sgK)) 501 e w') := Lib.hid fun W hb => rmhead_any k hk A n c hnc hcm ss W (segsE_below h hb) (by omega) HS.out
  have l1 := lenS_all h.1 (sgn_of h)
  have F1 := Lib.hid (head_top (k := k) (one_all hv (sgn_of h)))
  have F2 : Hid ((∀ s ∈ ss, s.k = 2) → (lenL (headK k (ss.map sgK)) : Int) = max (min k (lenS ss n : Nat)) 0) := Lib.hid fun h2 => by
    rw [l1]
    exact head_all (one_all hv (sgn_of h)) (fun p hp => by
      obtain ⟨s, hs, rfl⟩ := List.mem_map.1 hp
      exact h2 s hs)
  clear l1
  generalize headK k (ss.map sgK) = H at *
  have hy : lenS ss n ≤ 500000 := lenS_bound (by omega) HS.out
  generalize lenS ss n = y at *
  clear h hnc hcm hf hv f1 f2 ht hbk
  go_enter Tryd.func3, Tryd.ntmps3
  go_wp2_with fail
  refine hRi.out.mono ?_
  rintro e w1 ⟨rfl, hb1⟩
  go_wp2_with fail
  refine (hH1.out _ hb1).mono ?_
  rintro e w2 ⟨v1, L1, rfl, hr1, hL1, hb2⟩
  obtain ⟨A1, c1, rfl, hS1⟩ := hr1.segs
  have hb3 := bl_trans hb1 hb2
  go_wp2_with fail
  refine (hH2.out _ hb3).mono ?_
  rintro e w3 ⟨v2, L2, rfl, hr2, hL2, hb4⟩
  obtain ⟨A2, c2, rfl, hS2⟩ := hr2.segs
  have hb5 := bl_trans hb3 hb4
  have HS1 := Lib.hid (segsE_below hS1 hb4)
  have HS2 := Lib.hid hS2
  have hl1 := hL1.out.2.1
  have hl2 := hL2.out.2.1
  clear hS1 hS2 hr1 hr2 hb1 hb2 hb4
  have hSm := Lib.hid (rsameS_any A1 A2 L1.length L2.length c1 c2 L1 L2 w3 _ _ HS1.out HS2.out (by omega) (by omega) hL1.out.2.2 hL2.out.2.2)
  rw [hL1.out.1, hL2.out.1, decide_eq_true rfl] at hSm
  go_wp2_with fail
  refine hSm.out.mono ?_
  rintro e w4 ⟨rfl, m, rfl⟩
  have hb6 := bl_drewN hb5 m
  have hbm := bl_drewN (bl_refl w3) m
  have HS3 := Lib.hid (segsE_below HS1.out hbm)
  have hLx := Lib.hid (lenS_all HS1.out.1 (sgn_of HS1.out))
  rw [hL1.out.1] at hLx
  have hLn : Hid (∀ W, Below (w3.drewN m).heap.size (w3.drewN m) W → Calls Tryd.prog 11 #[.slice A1 L1.length c1] W fun e w' => e = .returned (.int .i64 (lenS L1 L1.length : Nat)) ∧ Below W.heap.size W w') := Lib.hid fun W hb => slength_any A1 L1.length c1 L1 W (segsE_below HS3.out hb) (by omega) hL1.out.2.2
  rw [hLx.out] at hLn
  generalize lenL H = x at *
  have hf1 := F1.out
  clear hbm hb5 hSm hb3
  go_wp2_with fail
  refine (hLn.out _ (bl_refl _)).mono ?_
  rintro e w5 ⟨rfl, hb7⟩
  have hb8 := bl_trans hb6 hb7
  have hLn5 : Hid (∀ W, Below w5.heap.size w5 W → Calls Tryd.prog 11 #[.slice A1 L1.length c1] W fun e w' => e = .returned (.int .i64 x) ∧ Below W.heap.size W w') := Lib.hid fun W hb => hLn.out W (bl_trans hb7 hb)
  clear hLn F1 HS3 HS1 HS2 hb6 hb7 hl1 hl2 hL2 hH1 hH2 hRi
  go_wp2_with fail
  go_loopw [7, 30] (fun _ i wr => (∃ j : Nat, j ≤ n ∧ i = .int .i64 j ∧ Hid (∀ s ∈ ss.take j, s.k = 2)) ∧ Below w5.heap.size w5 wr) (fun _ i _ => n - (intOf i).toNat)
  case atStart => exact ⟨⟨0, Nat.zero_le _, rfl, Lib.hid (by simp)⟩, bl_refl _⟩
  case round =>
    obtain ⟨⟨j, hj, rfl, hall⟩, hbw⟩ := hrel
    have hb9 := bl_trans hb8 hbw
    by_cases hlt : j < n
    · obtain ⟨b, o, rfl, hbB, hc0, hc1⟩ := (HV.out.below hb9).at_ hlt
      have hkl := Lib.hid (show j < ss.length by have := HN.out; omega)
      have hst : Hid ((sgth ss j).k = 2 → ∀ s ∈ ss.take (j + 1), s.k = 2) := Lib.hid fun h2 s hs => by
        rw [take_sgth hkl.out] at hs
        rcases List.mem_append.1 hs with hs | hs
        · exact hall.out s hs
        · rw [List.mem_singleton] at hs
          subst hs
          exact h2
      generalize sgth ss j = s at *
      obtain ⟨sk, sA, sn, sc, sx⟩ := s
      dsimp only at hst hc0 hc1
      have hbs := hb9.size
      by_cases h2 : sk = 2
      · subst h2
        have hb10 := bl_alloc hbw (.cells #[.int .i64 2, .slice sA sn sc] 31)
        go_wp2
        go_roundw
        case rel => exact ⟨⟨j + 1, by omega, by go_num, Lib.hid (hst.out rfl)⟩, hb10⟩
        case measure => simp [intOf]; omega
      · have e2 : (sk == 2) = false := by simpa using h2
        have hb10 := bl_alloc hb9 (.cells #[.int .i64 sk, .slice sA sn sc] 31)
        clear h2
        go_wp2_with fail
        refine (hA.out _ hb10).mono ?_
        rintro e w7 ⟨rfl, hb11⟩
        have hb12 := bl_trans hb10 hb11
        go_wp2
        go_ret
        exact ⟨rfl, hb12⟩
    · have hF : Hid ((x : Int) = max (min k y) 0) := Lib.hid (F2.out (by have := hall.out; rwa [List.take_of_length_le (by have := HN.out; omega)] at this))
      obtain rfl : n = j := by omega
      clear F2 hall
      go_wp2_with fail
      refine (hA.out _ hb9).mono ?_
      rintro e w7 ⟨rfl, hb10⟩
      have hbx := bl_trans hbw hb10
      go_wp2_with fail
      refine (hLn5.out _ hbx).mono ?_
      rintro e w8 ⟨rfl, hb11⟩
      have hb12 := bl_trans (bl_trans hb9 hb10) hb11
      go_wp2_with fail
      refine (hLr.out _ hb12).mono ?_
      rintro e w9 ⟨rfl, hb13⟩
      have hb14 := bl_trans hb12 hb13
      go_wp2
      go_ret
      refine ⟨?_, hb14⟩
      rw [hF.out]
      simp
set_option maxRecDepth 100000 in
theorem mgheads_all (k : Int) (hk : k ≤ 9223372036854775807) (A : Option Addr) (n c : Nat) (ss : List Sg) (w : World) (ht : Tens w) (hbk : Brk w) (h : Segs w w.heap.size A n ss) (hnc : n ≤ c) (hcm : c ≤ maxLen) :
    Calls Tryd.prog 3 #[.int .i64 k, .slice A n c] w fun e w' => e = .returned (.bool true) ∧ Below w.heap.size w w' := by
  by_cases hR : (fewB ss && ss.all (sgOk 4)) = true
  · rw [Bool.and_eq_true] at hR
    exact mgheads_yes k hk A n c ss w ht hbk h hnc hcm hR.1 hR.2
  · have hRi := Lib.hid (right21_any A n c ss w h (Nat.le_trans hnc hcm))
    rw [show (fewB ss && ss.all (sgOk 4)) = false by simpa using hR] at hRi
    have hA : Hid (∀ W, Below w.heap.size w W → Calls Tryd.prog 7 #[] W fun e w' => e = .returned (.bool true) ∧ Below W.heap.size W w') := Lib.hid fun W hb => alive21_any W (ht.below hb) (hbk.below hb)
    clear h hnc hcm hR ht hbk
    go_enter Tryd.func3, Tryd.ntmps3
    go_wp2_with fail
    refine hRi.out.mono ?_
    rintro e w1 ⟨rfl, hb1⟩
    go_wp2_with fail
    refine (hA.out _ hb1).mono ?_
    rintro e w2 ⟨rfl, hb2⟩
    have hb3 := bl_trans hb1 hb2
    go_wp2
    go_ret
    exact ⟨rfl, hb3⟩
end Go.Proofs.YtniheakafkakhabDoor

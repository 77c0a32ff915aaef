/- MergePaths: the walk -/
import Derived.Test.YtniheakafkakhabDoorMgG
namespace Go.Proofs.YtniheakafkakhabDoor
open Go.RowKit Go.Sort

theorem headK_count : ∀ {L : List (Int × List Int)} {n : Int}, (headK n L).length ≤ L.length
  | [], n => by rw [headK]; exact Nat.le_refl _
  | p :: L, n => by
    rw [headK]
    split
    · rw [List.length_cons, List.length_cons]
      exact Nat.succ_le_succ headK_count
    · split
      · rw [List.length_cons, List.length_cons, List.length_nil]
        omega
      · exact Nat.zero_le _
theorem pathsK_count {p q : List (Int × List Int)} : (pathsK p q).length ≤ p.length + q.length := by
  unfold pathsK
  split
  · omega
  · rw [List.length_append]
    have := headK_count (L := p) (n := (lenL p : Int) - lenL q)
    omega
set_option maxRecDepth 100000 in
/-- alive and the rest of the two laws where a path is not right. -/
theorem mgpaths_no (A : Option Addr) (n c : Nat) (A2 : Option Addr) (n2 c2 : Nat) (ss ts : List Sg) (w : World) (ht : Tens w) (hbk : Brk w) (h : Segs w w.heap.size A n ss) (h2 : Segs w w.heap.size A2 n2 ts) (hm : n ≤ maxLen) (hm2 : n2 ≤ maxLen) (hR : ((fewB ss && ss.all (sgOk 4)) && (fewB ts && ts.all (sgOk 4))) = false) :
    Calls Tryd.prog 4 #[.slice A n c, .slice A2 n2 c2] w fun e w' => e = .returned (.bool true) ∧ Below w.heap.size w w' := by
  have hA : Hid (∀ W, Below w.heap.size w W → Calls Tryd.prog 7 #[] W fun e w' => e = .returned (.bool true) ∧ Below W.heap.size W w') := Lib.hid fun W hb => alive21_any W (ht.below hb) (hbk.below hb)
  have hR1 := Lib.hid (right21_any A n c ss w h hm)
  have hR2 : Hid (∀ W, Below w.heap.size w W → Calls Tryd.prog 6 #[.slice A2 n2 c2] W fun e w' => e = .returned (.bool (fewB ts && ts.all (sgOk 4))) ∧ Below W.heap.size W w') := Lib.hid fun W hb => right21_any A2 n2 c2 ts W (segsE_below h2 hb) hm2
  generalize (fewB ss && ss.all (sgOk 4)) = P at *
  generalize (fewB ts && ts.all (sgOk 4)) = Q at *
  clear h h2 hm hm2 ht hbk
  cases P
  · clear hR hR2
    go_enter Tryd.func4, Tryd.ntmps4
    go_wp2_with fail
    refine hR1.out.mono ?_
    rintro e w1 ⟨rfl, hb1⟩
    go_wp2_with fail
    refine (hA.out _ hb1).mono ?_
    rintro e w2 ⟨rfl, hb2⟩
    have hb3 := bl_trans hb1 hb2
    go_wp2
    go_ret
    exact ⟨rfl, hb3⟩
  · rw [Bool.true_and] at hR
    subst hR
    go_enter Tryd.func4, Tryd.ntmps4
    go_wp2_with fail
    refine hR1.out.mono ?_
    rintro e w1 ⟨rfl, hb1⟩
    go_wp2_with fail
    refine (hR2.out _ hb1).mono ?_
    rintro e w2 ⟨rfl, hb2⟩
    have hb3 := bl_trans hb1 hb2
    go_wp2_with fail
    refine (hA.out _ hb3).mono ?_
    rintro e w3 ⟨rfl, hb4⟩
    have hb5 := bl_trans hb3 hb4
    go_wp2
    go_ret
    exact ⟨rfl, hb5⟩
set_option maxRecDepth 100000 in
set_option maxHeartbeats 3200000 in
theorem mgpaths_yes (A : Option Addr) (n c : Nat) (A2 : Option Addr) (n2 c2 : Nat) (ss ts : List Sg) (w : World) (ht : Tens w) (hbk : Brk w) (h : Segs w w.heap.size A n ss) (h2 : Segs w w.heap.size A2 n2 ts) (hnc : n ≤ c) (hcm : c ≤ maxLen) (hm2 : n2 ≤ maxLen) (hf : fewB ss = true) (hv : ss.all (sgOk 4) = true) (hf2 : fewB ts = true) (hv2 : ts.all (sgOk 4) = true) :
    Calls Tryd.prog 4 #[.slice A n c, .slice A2 n2 c2] w fun e w' => e = .returned (.bool true) ∧ Below w.heap.size w w' := by
  have HV := Lib.hid h
  obtain ⟨f1, f2⟩ := few_lenV hf
  obtain ⟨g1, g2⟩ := few_lenV hf2
  have hn : n ≤ 50 := by rw [h.1]; exact f1
  have hn2 : n2 ≤ 50 := by rw [h2.1]; exact g1
  have HS : Hid (∀ s ∈ ss, s.n ≤ 1000) := Lib.hid fun s hs => Nat.le_trans (f2 s hs) (by omega)
  have HS2 : Hid (∀ s ∈ ts, s.n ≤ 1000) := Lib.hid fun s hs => Nat.le_trans (g2 s hs) (by omega)
  have hR1 := Lib.hid (right21_any A n c ss w h (Nat.le_trans hnc hcm))
  rw [hf, hv, Bool.true_and] at hR1
  have hR2 : Hid (∀ W, Below w.heap.size w W → Calls Tryd.prog 6 #[.slice A2 n2 c2] W fun e w' => e = .returned (.bool true) ∧ Below W.heap.size W w') := Lib.hid fun W hb => by
    have := right21_any A2 n2 c2 ts W (segsE_below h2 hb) hm2
    rwa [hf2, hv2, Bool.true_and] at this
  have hA : Hid (∀ W, Below w.heap.size w W → Calls Tryd.prog 7 #[] W fun e w' => e = .returned (.bool true) ∧ Below W.heap.size W w') := Lib.hid fun W hb => alive21_any W (ht.below hb) (hbk.below hb)
  have hLr : Hid (∀ W, Below w.heap.size w W → Calls Tryd.prog 12 #[.slice A n c] W fun e w' => e = .returned (.int .i64 (lenS ss n : Nat)) ∧ Below W.heap.size W w') := Lib.hid fun W hb => rlength_any A n c ss W (segsE_below h hb) (by omega) HS.out
  have hP1 : Hid (∀ W, Below w.heap.size w W → Calls Tryd.prog 13 #[.slice A n c, .slice A2 n2 c2] W fun e w' => HeadR W (pathsK (ss.map sgK) (ts.map sgK)) 1001 e w') := Lib.hid fun W hb => mpaths_any A n c A2 n2 c2 ss ts W (segsE_below h hb) (segsE_below h2 hb) (by omega) (by omega) HS.out HS2.out hv
  have hP2 : Hid (∀ W, Below w.heap.size w W → Calls Tryd.prog 14 #[.slice A n c, .slice A2 n2 c2] W fun e w' => PathR W (pathsK (ss.map sgK) (ts.map sgK)) 1001 e w') := Lib.hid fun W hb => rmpaths_any A n c hnc hcm A2 n2 c2 ss ts W (segsE_below h hb) (segsE_below h2 hb) (by omega) (by omega) HS.out HS2.out
  have hP3 : Hid (∀ W, Below w.heap.size w W → Calls Tryd.prog 13 #[.slice A n c, .slice A n c] W fun e w' => HeadR W (ss.map sgK) 1001 e w') := Lib.hid fun W hb => by
    have := mpaths_any A n c A n c ss ss W (segsE_below h hb) (segsE_below h hb) (by omega) (by omega) HS.out HS.out hv
    rwa [paths_self (one_all hv (sgn_of h)) rfl] at this
  have l1 := lenS_all h.1 (sgn_of h)
  have F1 : Hid (lenL (pathsK (ss.map sgK) (ts.map sgK)) ≤ lenS ss n) := Lib.hid (by rw [l1]; exact paths_len _ _)
  have F2 : Hid ((pathsK (ss.map sgK) (ts.map sgK)).length ≤ 100) := Lib.hid (by
    have := pathsK_count (p := ss.map sgK) (q := ts.map sgK)
    rw [List.length_map, List.length_map] at this
    omega)
  have hy : lenS ss n ≤ 500000 := lenS_bound (by omega) HS.out
  clear l1
  generalize pathsK (ss.map sgK) (ts.map sgK) = H at *
  generalize lenS ss n = y at *
  clear h h2 hnc hcm hf hv hf2 hv2 f1 f2 g1 g2 ht hbk hm2
  go_enter Tryd.func4, Tryd.ntmps4
  go_wp2_with fail
  refine hR1.out.mono ?_
  rintro e w1 ⟨rfl, hb1⟩
  go_wp2_with fail
  refine (hR2.out _ hb1).mono ?_
  rintro e w2 ⟨rfl, hb2⟩
  have hb3 := bl_trans hb1 hb2
  go_wp2_with fail
  refine (hP1.out _ hb3).mono ?_
  rintro e w3 ⟨v1, L1, rfl, hr1, hL1, hb4⟩
  obtain ⟨A1, c1, rfl, hS1⟩ := hr1.segs
  have hb5 := bl_trans hb3 hb4
  have hl1 : L1.length ≤ 100 := by have := congrArg List.length hL1.out.1; rw [List.length_map] at this; have := F2.out; omega
  have HS1 := Lib.hid hS1
  clear hR1 hR2 hb1 hb2 hb3 hb4 hr1 hS1 hP1
  go_wp2_with fail
  refine (hA.out _ hb5).mono ?_
  rintro e w4 ⟨rfl, hb6⟩
  have hb7 := bl_trans hb5 hb6
  go_wp2_with fail
  refine (hP2.out _ hb7).mono ?_
  rintro e w5 ⟨A5, n5, c5, L5, rfl, hS5, hL5, hb8⟩
  have hb9 := bl_trans hb6 hb8
  have hb10 := bl_trans hb7 hb8
  have hl5 : n5 ≤ 100 := by have := congrArg List.length hL5.out.1; rw [List.length_map] at this; have := F2.out; have := hS5.1; omega
  have hS6 := segsE_below HS1.out hb9
  have hSm := Lib.hid (rsameS_any A1 A5 L1.length n5 c1 c5 L1 L5 w5 _ _ hS6 hS5 (by omega) (by omega) hL1.out.2.2 hL5.out.2.2)
  rw [hL1.out.1, hL5.out.1, decide_eq_true rfl] at hSm
  clear hS5 hS6 hl5 hb5 hb6 hb7 hb8 hP2
  go_wp2_with fail
  refine hSm.out.mono ?_
  rintro e w6 ⟨rfl, m, rfl⟩
  have hb11 := bl_drewN hb9 m
  have hb12 := bl_drewN hb10 m
  clear hSm hb9 hb10
  go_wp2_with fail
  refine (hP3.out _ hb12).mono ?_
  rintro e w7 ⟨v7, L7, rfl, hr7, hL7, hb13⟩
  obtain ⟨A7, c7, rfl, hS7⟩ := hr7.segs
  have hb14 := bl_trans hb12 hb13
  have hb15 := bl_trans hb11 hb13
  have hl7 : L7.length ≤ 50 := by have := congrArg List.length hL7.out.1; rw [List.length_map, List.length_map] at this; have := HV.out.1; omega
  have hSn := Lib.hid (rsameS_any A7 A L7.length n c7 c L7 ss w7 _ _ hS7 (HV.out.below hb14) (by omega) (by omega) hL7.out.2.2 HS.out)
  rw [hL7.out.1, decide_eq_true rfl] at hSn
  clear hP3 hS7 hl7 hr7 hb11 hb12 hb13
  go_wp2_with fail
  refine hSn.out.mono ?_
  rintro e w8 ⟨rfl, m2, rfl⟩
  have hb16 := bl_drewN hb14 m2
  have hb17 := bl_drewN hb15 m2
  have hLx := lenS_all HS1.out.1 (sgn_of HS1.out)
  have hLn := Lib.hid (slength_any A1 L1.length c1 L1 _ (segsE_below HS1.out hb17) (by omega) hL1.out.2.2)
  rw [hLx, hL1.out.1] at hLn
  have f1 := F1.out
  generalize lenL H = x at *
  clear F1 hLx hSn hb14 hb15 hb17
  go_wp2_with fail
  refine hLn.out.mono ?_
  rintro e w9 ⟨rfl, hb18⟩
  have hb19 := bl_trans hb16 hb18
  go_wp2_with fail
  refine (hLr.out _ hb19).mono ?_
  rintro e w10 ⟨rfl, hb20⟩
  have hb21 := bl_trans hb19 hb20
  go_wp2
  go_ret
  refine ⟨?_, hb21⟩
  simp
set_option maxRecDepth 100000 in
theorem mgpaths_all (A : Option Addr) (n c : Nat) (A2 : Option Addr) (n2 c2 : Nat) (ss ts : List Sg) (w : World) (ht : Tens w) (hbk : Brk w) (h : Segs w w.heap.size A n ss) (h2 : Segs w w.heap.size A2 n2 ts) (hnc : n ≤ c) (hcm : c ≤ maxLen) (hm2 : n2 ≤ maxLen) :
    Calls Tryd.prog 4 #[.slice A n c, .slice A2 n2 c2] w fun e w' => e = .returned (.bool true) ∧ Below w.heap.size w w' := by
  by_cases hR : ((fewB ss && ss.all (sgOk 4)) && (fewB ts && ts.all (sgOk 4))) = true
  · rw [Bool.and_eq_true, Bool.and_eq_true, Bool.and_eq_true] at hR
    exact mgpaths_yes A n c A2 n2 c2 ss ts w ht hbk h h2 hnc hcm hm2 hR.1.1 hR.1.2 hR.2.1 hR.2.2
  · exact mgpaths_no A n c A2 n2 c2 ss ts w ht hbk h h2 (Nat.le_trans hnc hcm) hm2 (by simpa using hR)
end Go.Proofs.YtniheakafkakhabDoor

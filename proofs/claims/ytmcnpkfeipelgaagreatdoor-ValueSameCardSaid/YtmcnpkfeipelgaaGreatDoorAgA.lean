/- aggregate.numberSize, handles, Read; their references -/
import Derived.Test.YtmcnpkfeipelgaaGreatDoorAt
import Derived.StillTailTactics
namespace Go.Proofs.YtmcnpkfeipelgaaGreatDoor
open Go.RowKit

def agSize (wd k : Int) : Int := if k = 18 then 4 else wd
def agHas (k : Int) : Bool := decide (k = 7 ∨ k = 18)
def agHnd (wd k : Int) : Bool := agHas k && decide (wd = 2 ∨ wd = 4)
/-- An attribute of two numbers. -/
def agV (k N M : Int) : Array Value := #[.int .i64 k, .bool false, .int .u32 N, .int .u32 M, .slice none 0 0, .slice none 0 0, .slice none 0 0, .int .i64 0, .slice none 0 0]
theorem ag_one (k N M : Int) : (#[Value.int .i64 k, .bool false, .int .u32 N, .int .u32 M, .slice none 0 0, .slice none 0 0, .slice none 0 0, .int .i64 0, .slice none 0 0] : Array Value).all (·.oneCell') = true := by simp [Value.oneCell']
set_option maxRecDepth 100000 in
theorem agsize_any (wd k : Int) (w : World) : Calls Tryz.prog 242 #[.int .i64 wd, .int .i64 k] w fun e w' => e = .returned (.int .i64 (agSize wd k)) ∧ w = w' := by
  unfold agSize
  by_cases h : k = 18
  · subst h
    go_enter Tryz.func242, Tryz.ntmps242
    go_wp2
    go_ret
    exact ⟨rfl, rfl⟩
  · have q : (k == 18) = false := by simpa using h
    rw [if_neg h]
    go_enter Tryz.func242, Tryz.ntmps242
    go_wp2
    go_ret
    exact ⟨rfl, rfl⟩
set_option maxRecDepth 100000 in
theorem ragsize_any (wd k : Int) (w : World) : Calls Tryz.prog 110 #[.int .i64 wd, .int .i64 k] w fun e w' => e = .returned (.int .i64 (agSize wd k)) ∧ w = w' := by
  unfold agSize
  by_cases h : k = 18
  · subst h
    go_enter Tryz.func110, Tryz.ntmps110
    go_wp2
    go_ret
    exact ⟨rfl, rfl⟩
  · have q : (k == 18) = false := by simpa using h
    rw [if_neg h]
    go_enter Tryz.func110, Tryz.ntmps110
    go_wp2
    go_ret
    exact ⟨rfl, rfl⟩
set_option maxRecDepth 100000 in
theorem aghas_any (k : Int) (w : World) : Calls Tryz.prog 78 #[.int .i64 k] w fun e w' => e = .returned (.bool (agHas k)) ∧ w = w' := by
  by_cases h : k = 7
  · subst h
    go_enter Tryz.func78, Tryz.ntmps78
    go_wp2
    go_ret
    exact ⟨rfl, rfl⟩
  · have hq : (k == 7) = false := by simpa using h
    have hh : Hid (agHas k = (k == 18)) := Lib.hid (by unfold agHas; rw [Bool.eq_iff_iff]; simp [h])
    clear h
    go_enter Tryz.func78, Tryz.ntmps78
    go_wp2
    go_ret
    exact ⟨by rw [hh.out]; rfl, rfl⟩
set_option maxRecDepth 100000 in
theorem raghas_any (k : Int) (w : World) : Calls Tryz.prog 109 #[.int .i64 k] w fun e w' => e = .returned (.bool (agHas k)) ∧ w = w' := by
  by_cases h : k = 7
  · subst h
    go_enter Tryz.func109, Tryz.ntmps109
    go_wp2
    go_ret
    exact ⟨rfl, rfl⟩
  · have hq : (k == 7) = false := by simpa using h
    have hh : Hid (agHas k = (k == 18)) := Lib.hid (by unfold agHas; rw [Bool.eq_iff_iff]; simp [h])
    clear h
    go_enter Tryz.func109, Tryz.ntmps109
    go_wp2
    go_ret
    exact ⟨by rw [hh.out]; rfl, rfl⟩
set_option maxRecDepth 100000 in
theorem aghnd_any (wd k : Int) (w : World) : Calls Tryz.prog 243 #[.int .i64 wd, .int .i64 k] w fun e w' => e = .returned (.bool (agHnd wd k)) ∧ w = w' := by
  have hO : Hid (agHnd wd k = (agHas k && decide (wd = 2 ∨ wd = 4))) := Lib.hid rfl
  generalize agHnd wd k = V at *
  have hH := Lib.hid (aghas_any k)
  generalize agHas k = Q at *
  cases Q
  · go_enter Tryz.func243, Tryz.ntmps243
    go_wp2_with fail
    refine (hH.out _).mono ?_
    rintro e w' ⟨rfl, rfl⟩
    go_wp2
    go_ret
    exact ⟨ret_boolA (by rw [hO.out]; rfl), rfl⟩
  · by_cases h : wd = 2
    · subst h
      go_enter Tryz.func243, Tryz.ntmps243
      go_wp2_with fail
      refine (hH.out _).mono ?_
      rintro e w' ⟨rfl, rfl⟩
      go_wp2
      go_ret
      exact ⟨ret_boolA (by rw [hO.out]; rfl), rfl⟩
    · have hq : (wd == 2) = false := by simpa using h
      have hO2 : Hid (V = (wd == 4)) := Lib.hid (by rw [hO.out, Bool.eq_iff_iff]; simp [h])
      clear h
      go_enter Tryz.func243, Tryz.ntmps243
      go_wp2_with fail
      refine (hH.out _).mono ?_
      rintro e w' ⟨rfl, rfl⟩
      go_wp2
      go_ret
      exact ⟨by rw [hO2.out]; rfl, rfl⟩
theorem agHnd_size {wd k : Int} (h : agHnd wd k = true) : ∃ s : Nat, agSize wd k = (s : Int) ∧ (s = 2 ∨ s = 4) := by
  unfold agHnd agHas at h
  simp only [Bool.and_eq_true, decide_eq_true_eq] at h
  unfold agSize
  by_cases hk : k = 18
  · exact ⟨4, by rw [if_pos hk]; rfl, .inr rfl⟩
  · rw [if_neg hk]
    rcases h.2 with h2 | h2
    · exact ⟨2, h2, .inl rfl⟩
    · exact ⟨4, h2, .inr rfl⟩
set_option maxRecDepth 100000 in
set_option maxHeartbeats 1600000 in
theorem agread_no (wd k : Int) (A : Option Addr) (n c : Nat) (w : World) (h : agHnd wd k = false ∨ ∃ s : Nat, agSize wd k = (s : Int) ∧ s ≤ 4 ∧ n ≠ s + 4) :
    Calls Tryz.prog 239 #[.int .i64 wd, .int .i64 k, .slice A n c] w fun e w' => e = .returned (.tuple #[.agg (agV 0 0 0), .int .i64 1]) ∧ Below w.heap.size w w' := by
  have hb0 := bl_alloc (bl_refl w) (.cells (agV 0 0 0) 37)
  have o0 := Own.new w 37 (agV 0 0 0)
  have hS := Lib.hid (agsize_any wd k)
  have hH := Lib.hid (aghnd_any wd k)
  unfold agV at *
  by_cases hq : agHnd wd k = false
  · rw [hq] at hH
    clear h hq
    generalize agSize wd k = z at *
    go_enter Tryz.func239, Tryz.ntmps239
    go_wp2_with (first | (go_at_call 242; refine (hS.out _).mono ?_; rintro e w' ⟨rfl, rfl⟩) | (go_at_call 243; refine (hH.out _).mono ?_; rintro e w' ⟨rfl, rfl⟩) | (refine wpList_store_row rfl 37 _ _ rfl w.heap.size #[.int .i64 0, .bool false, .int .u32 0, .int .u32 0, .slice none 0 0, .slice none 0 0, .slice none 0 0, .int .i64 0, .slice none 0 0] rfl rfl 37 #[.int .i64 0, .bool false, .int .u32 0, .int .u32 0, .slice none 0 0, .slice none 0 0, .slice none 0 0, .int .i64 0, .slice none 0 0] o0 (at_info9 _ _ _ _ _ _ _ _ _) rfl (ag_one _ _ _) ?_))
    exact bodyPost_ret (results_cell_tmp (p := 6) (t := 7) (fn := Tryz.f239) rfl _ _ w.heap.size 37 #[.int .i64 0, .bool false, .int .u32 0, .int .u32 0, .slice none 0 0, .slice none 0 0, .slice none 0 0, .int .i64 0, .slice none 0 0] _ rfl o0.setRow at_desc rfl (at_info9 _ _ _ _ _ _ _ _ _)) rfl ⟨rfl, bl_setRow hb0 (Nat.le_refl _)⟩
  · have hq' : agHnd wd k = true := by simpa using hq
    obtain ⟨s, h1, h2, h3⟩ := h.resolve_left hq
    rw [hq'] at hH
    rw [h1] at hS
    have e1 : ((n : Int) != (s : Int) + 4) = true := by simp; omega
    clear h hq hq' h1 h3
    go_enter Tryz.func239, Tryz.ntmps239
    go_wp2_with (first | (go_at_call 242; refine (hS.out _).mono ?_; rintro e w' ⟨rfl, rfl⟩) | (go_at_call 243; refine (hH.out _).mono ?_; rintro e w' ⟨rfl, rfl⟩) | (refine wpList_store_row rfl 37 _ _ rfl w.heap.size #[.int .i64 0, .bool false, .int .u32 0, .int .u32 0, .slice none 0 0, .slice none 0 0, .slice none 0 0, .int .i64 0, .slice none 0 0] rfl rfl 37 #[.int .i64 0, .bool false, .int .u32 0, .int .u32 0, .slice none 0 0, .slice none 0 0, .slice none 0 0, .int .i64 0, .slice none 0 0] o0 (at_info9 _ _ _ _ _ _ _ _ _) rfl (ag_one _ _ _) ?_))
    exact bodyPost_ret (results_cell_tmp (p := 6) (t := 7) (fn := Tryz.f239) rfl _ _ w.heap.size 37 #[.int .i64 0, .bool false, .int .u32 0, .int .u32 0, .slice none 0 0, .slice none 0 0, .slice none 0 0, .int .i64 0, .slice none 0 0] _ rfl o0.setRow at_desc rfl (at_info9 _ _ _ _ _ _ _ _ _)) rfl ⟨rfl, bl_setRow hb0 (Nat.le_refl _)⟩
set_option maxRecDepth 100000 in
set_option maxHeartbeats 1600000 in
theorem agread_yes (wd k : Int) (A : Option Addr) (n c : Nat) (xs : List Int) (w : World) (hx : Bytes w w.heap.size A n xs) (hh : agHnd wd k = true) (s : Nat) (hs : agSize wd k = (s : Int)) (hs2 : s = 2 ∨ s = 4) (hn : n = s + 4) :
    Calls Tryz.prog 239 #[.int .i64 wd, .int .i64 k, .slice A n c] w fun e w' => e = .returned (.tuple #[.agg (agV k (big (xs.take s)) (big (xs.drop s))), .int .i64 0]) ∧ Below w.heap.size w w' := by
  have hb0 := bl_alloc (bl_refl w) (.cells (agV 0 0 0) 37)
  have o0 := Own.new w 37 (agV 0 0 0)
  have hS := Lib.hid (agsize_any wd k)
  have hH := Lib.hid (aghnd_any wd k)
  rw [hh] at hH
  rw [hs] at hS
  have hX := Lib.hid ((hx.below hb0).more hb0.size)
  have hL := Lib.hid (show xs.length = s + 4 by rw [← hx.1]; exact hn)
  have e1 : ((n : Int) != (s : Int) + 4) = false := by simp; omega
  have i1 : 1 ≤ (s : Int) := by omega
  have i4 : (s : Int) ≤ 4 := by omega
  have hN := Lib.hid hn
  have hT := Lib.hid (show (xs.take (s : Int).toNat) = xs.take s ∧ (xs.drop (s : Int).toNat) = xs.drop s ∧ (xs.drop s).take (4 : Int).toNat = xs.drop s by
    refine ⟨by rw [Int.toNat_natCast], by rw [Int.toNat_natCast], List.take_of_length_le (by rw [List.length_drop, hL.out]; show s + 4 - s ≤ 4; omega)⟩)
  unfold agV at *
  clear hx hh hs hs2 hn
  generalize hNN : big (xs.take s) = N at *
  generalize hMM : big (xs.drop s) = M at *
  have HNN := Lib.hid hNN
  have HMM := Lib.hid hMM
  clear hNN hMM
  go_enter Tryz.func239, Tryz.ntmps239
  go_wp2_with (first | (go_at_call 242; refine (hS.out _).mono ?_; rintro e w' ⟨rfl, rfl⟩) | (go_at_call 243; refine (hH.out _).mono ?_; rintro e w' ⟨rfl, rfl⟩))
  refine (new_any A n c xs _ hX.out (by have := hN.out; omega)).mono ?_
  rintro e w1 ⟨g, rfl, hg, hr, hb1⟩
  have o1 := o0.step hb1
  have hb2 := bl_trans hb0 hb1
  have hg1 : w.heap.size < g := by simp at hg; omega
  clear hb0 hb1 o0 hX hg
  go_wp2_with fail
  refine (number_yes g xs 0 s _ hr (by rw [hL.out]; omega) (by omega) i1 i4 (by rw [hL.out]; omega)).mono ?_
  rw [hT.out.1, hT.out.2.1, HNN.out]
  rintro e w2 ⟨rfl, hr2, hg2⟩
  have o2 := o1.grown hg2 (by intro e; have := Option.some.inj e; omega)
  have hb3 := bl_only hb2 hg2 (by omega)
  clear hb2 hg2 o1 hr
  go_wp2_with fail
  refine (number_yes g (xs.drop s) (0 + (s : Int).toNat) 4 _ hr2 (by rw [List.length_drop, hL.out]; omega) (by omega) (by omega) (by omega) (by rw [List.length_drop, hL.out]; omega)).mono ?_
  rw [hT.out.2.2, HMM.out]
  rintro e w3 ⟨rfl, hr3, hg3⟩
  have o3 := o2.grown hg3 (by intro e; have := Option.some.inj e; omega)
  have hb4 := bl_only hb3 hg3 (by omega)
  clear hb3 hg3 o2 hr2 hr3
  go_wp2_with (refine wpList_store_row rfl 37 _ _ rfl w.heap.size #[.int .i64 k, .bool false, .int .u32 N, .int .u32 M, .slice none 0 0, .slice none 0 0, .slice none 0 0, .int .i64 0, .slice none 0 0] rfl rfl 37 #[.int .i64 0, .bool false, .int .u32 0, .int .u32 0, .slice none 0 0, .slice none 0 0, .slice none 0 0, .int .i64 0, .slice none 0 0] o3 (at_info9 _ _ _ _ _ _ _ _ _) rfl (ag_one _ _ _) ?_)
  exact bodyPost_ret (results_cell_tmp (p := 6) (t := 7) (fn := Tryz.f239) rfl _ _ w.heap.size 37 #[.int .i64 k, .bool false, .int .u32 N, .int .u32 M, .slice none 0 0, .slice none 0 0, .slice none 0 0, .int .i64 0, .slice none 0 0] _ rfl o3.setRow at_desc rfl (at_info9 _ _ _ _ _ _ _ _ _)) rfl ⟨rfl, bl_setRow hb4 (Nat.le_refl _)⟩
set_option maxRecDepth 100000 in
set_option maxHeartbeats 1600000 in
theorem ragread_yes (wd k : Int) (A : Option Addr) (n c : Nat) (xs : List Int) (w : World) (hx : Bytes w w.heap.size A n xs) (hnc : n ≤ c) (hh : agHnd wd k = true) (s : Nat) (hs : agSize wd k = (s : Int)) (hs2 : s = 2 ∨ s = 4) (hn : n = s + 4) :
    Calls Tryz.prog 74 #[.int .i64 wd, .int .i64 k, .slice A n c] w fun e w' => e = .returned (.tuple #[.agg (agV k (big (xs.take s)) (big (xs.drop s))), .int .i64 0]) ∧ Below w.heap.size w w' := by
  have hb0 := bl_alloc (bl_refl w) (.cells (agV 0 0 0) 37)
  have o0 := Own.new w 37 (agV 0 0 0)
  have hS := Lib.hid (ragsize_any wd k)
  have hH := Lib.hid (raghas_any k)
  have hd : agHas k = true ∧ (wd = 2 ∨ wd = 4) := by unfold agHnd at hh; simpa using hh
  rw [hd.1] at hH
  rw [hs] at hS
  have hxB := hx.below hb0
  obtain ⟨b, o, rfl, _, _, _, _⟩ := hxB.at_ (k := 0) (by omega)
  have hf := Lib.hid (hxB.front (k := s) (by omega))
  have hcut := hxB.cut (k := s) (cap := c) (by omega) hnc
  rw [if_neg (by omega)] at hcut
  have hA2 : (some (⟨b, o, none⟩ : Addr)).map (·.add s) = some ⟨b, o + s, none⟩ := by simp [Addr.add_lit]
  rw [hA2] at hcut
  have hC := Lib.hid hcut
  have e1 : ((n : Int) != (s : Int) + 4) = false := by simp; omega
  have i1 : (0 : Int) ≤ (s : Int) := by omega
  have i2 : (s : Int) ≤ (c : Int) := by omega
  have i3 : (s : Int) ≤ (n : Int) := by omega
  have i4 : (n : Int) ≤ (c : Int) := by omega
  have i5 : ¬ c = s := by omega
  have i6 : (s : Int) ≤ 4 := by omega
  have hs4 : Hid (s ≤ 4 ∧ n - s ≤ 4) := Lib.hid (by omega)
  unfold agV at *
  clear hx hh hs hcut hxB hA2
  generalize hNN : big (xs.take s) = N at *
  generalize hMM : big (xs.drop s) = M at *
  have HNN := Lib.hid hNN
  have HMM := Lib.hid hMM
  have hwd := hd.2
  clear hNN hMM hn hs2 hd
  rcases hwd with rfl | rfl
  all_goals
    go_enter Tryz.func74, Tryz.ntmps74
    go_wp2_with (first | (go_at_call 110; refine (hS.out _).mono ?_; rintro e w' ⟨rfl, rfl⟩) | (go_at_call 109; refine (hH.out _).mono ?_; rintro e w' ⟨rfl, rfl⟩))
    generalize w.alloc (.cells #[.int .i64 0, .bool false, .int .u32 0, .int .u32 0, .slice none 0 0, .slice none 0 0, .slice none 0 0, .int .i64 0, .slice none 0 0] 37) = W at *
    have b1 := Lib.hid (show Calls Tryz.prog 123 #[.slice (some ⟨b, o, none⟩) s c] W.drew (fun e w' => e = .returned (.int .u32 N) ∧ w' = W.drew) from (rbig_any (some ⟨b, o, none⟩) s c (xs.take s) W.drew w.heap.size (hf.out.keep (fun _ _ _ => rfl)) hs4.out.1).mono (fun e w' h => ⟨by rw [h.1, HNN.out], h.2.symm⟩))
    have b2 := Lib.hid (show Calls Tryz.prog 123 #[.slice (some ⟨b, o + s, none⟩) (n - s) (c - s)] W.drew (fun e w' => e = .returned (.int .u32 M) ∧ w' = W.drew) from (rbig_any (some ⟨b, o + s, none⟩) (n - s) (c - s) (xs.drop s) W.drew w.heap.size (hC.out.keep (fun _ _ _ => rfl)) hs4.out.2).mono (fun e w' h => ⟨by rw [h.1, HMM.out], h.2.symm⟩))
    refine wp_region_still_tail 10 (by kernel_rfl) (by kernel_rfl) ?_
    simp only [List.take_succ_cons, List.take_zero, List.drop_succ_cons, List.drop_zero]
    repeat still_step
    still_call b1.out
    repeat still_step
    still_call b2.out
    repeat still_step
    refine wpStill_nil ?_
    change wpList _ _ _ _ _ W.drew
    have oD := o0.drew
    have hbD := hb0.drew
    generalize W.drew = X at *
    go_wp2_with (refine wpList_store_row rfl 37 _ _ rfl w.heap.size #[.int .i64 k, .bool false, .int .u32 N, .int .u32 M, .slice none 0 0, .slice none 0 0, .slice none 0 0, .int .i64 0, .slice none 0 0] rfl rfl 37 #[.int .i64 0, .bool false, .int .u32 0, .int .u32 0, .slice none 0 0, .slice none 0 0, .slice none 0 0, .int .i64 0, .slice none 0 0] oD (at_info9 _ _ _ _ _ _ _ _ _) rfl (ag_one _ _ _) ?_)
    exact bodyPost_ret (results_cell_tmp (p := 6) (t := 7) (fn := Tryz.f74) rfl _ _ w.heap.size 37 #[.int .i64 k, .bool false, .int .u32 N, .int .u32 M, .slice none 0 0, .slice none 0 0, .slice none 0 0, .int .i64 0, .slice none 0 0] _ rfl oD.setRow at_desc rfl (at_info9 _ _ _ _ _ _ _ _ _)) rfl ⟨rfl, bl_setRow hbD (Nat.le_refl _)⟩
set_option maxRecDepth 100000 in
set_option maxHeartbeats 1600000 in
theorem ragread_no (wd k : Int) (A : Option Addr) (n c : Nat) (w : World) (h : agHnd wd k = false ∨ ∃ s : Nat, agSize wd k = (s : Int) ∧ s ≤ 4 ∧ n ≠ s + 4) :
    Calls Tryz.prog 74 #[.int .i64 wd, .int .i64 k, .slice A n c] w fun e w' => e = .returned (.tuple #[.agg (agV 0 0 0), .int .i64 1]) ∧ Below w.heap.size w w' := by
  have hb0 := bl_alloc (bl_refl w) (.cells (agV 0 0 0) 37)
  have o0 := Own.new w 37 (agV 0 0 0)
  have hS := Lib.hid (ragsize_any wd k)
  have hH := Lib.hid (raghas_any k)
  unfold agV at *
  by_cases hw : wd = 2 ∨ wd = 4
  · by_cases hk : agHas k = true
    · have hq : agHnd wd k = true := by unfold agHnd; rw [hk]; simpa using hw
      obtain ⟨s, h1, h2, h3⟩ := h.resolve_left (by rw [hq]; simp)
      rw [hk] at hH
      rw [h1] at hS
      have e1 : ((n : Int) != (s : Int) + 4) = true := by simp; omega
      clear h hk hq h1 h3
      rcases hw with rfl | rfl
      all_goals
        go_enter Tryz.func74, Tryz.ntmps74
        go_wp2_with (first | (go_at_call 110; refine (hS.out _).mono ?_; rintro e w' ⟨rfl, rfl⟩) | (go_at_call 109; refine (hH.out _).mono ?_; rintro e w' ⟨rfl, rfl⟩) | (refine wpList_store_row rfl 37 _ _ rfl w.heap.size #[.int .i64 0, .bool false, .int .u32 0, .int .u32 0, .slice none 0 0, .slice none 0 0, .slice none 0 0, .int .i64 0, .slice none 0 0] rfl rfl 37 #[.int .i64 0, .bool false, .int .u32 0, .int .u32 0, .slice none 0 0, .slice none 0 0, .slice none 0 0, .int .i64 0, .slice none 0 0] o0 (at_info9 _ _ _ _ _ _ _ _ _) rfl (ag_one _ _ _) ?_))
        exact bodyPost_ret (results_cell_tmp (p := 6) (t := 7) (fn := Tryz.f74) rfl _ _ w.heap.size 37 #[.int .i64 0, .bool false, .int .u32 0, .int .u32 0, .slice none 0 0, .slice none 0 0, .slice none 0 0, .int .i64 0, .slice none 0 0] _ rfl o0.setRow at_desc rfl (at_info9 _ _ _ _ _ _ _ _ _)) rfl ⟨rfl, bl_setRow hb0 (Nat.le_refl _)⟩
    · have hk' : agHas k = false := by simpa using hk
      rw [hk'] at hH
      clear h hk hk'
      generalize agSize wd k = z at *
      rcases hw with rfl | rfl
      all_goals
        go_enter Tryz.func74, Tryz.ntmps74
        go_wp2_with (first | (go_at_call 110; refine (hS.out _).mono ?_; rintro e w' ⟨rfl, rfl⟩) | (go_at_call 109; refine (hH.out _).mono ?_; rintro e w' ⟨rfl, rfl⟩) | (refine wpList_store_row rfl 37 _ _ rfl w.heap.size #[.int .i64 0, .bool false, .int .u32 0, .int .u32 0, .slice none 0 0, .slice none 0 0, .slice none 0 0, .int .i64 0, .slice none 0 0] rfl rfl 37 #[.int .i64 0, .bool false, .int .u32 0, .int .u32 0, .slice none 0 0, .slice none 0 0, .slice none 0 0, .int .i64 0, .slice none 0 0] o0 (at_info9 _ _ _ _ _ _ _ _ _) rfl (ag_one _ _ _) ?_))
        exact bodyPost_ret (results_cell_tmp (p := 6) (t := 7) (fn := Tryz.f74) rfl _ _ w.heap.size 37 #[.int .i64 0, .bool false, .int .u32 0, .int .u32 0, .slice none 0 0, .slice none 0 0, .slice none 0 0, .int .i64 0, .slice none 0 0] _ rfl o0.setRow at_desc rfl (at_info9 _ _ _ _ _ _ _ _ _)) rfl ⟨rfl, bl_setRow hb0 (Nat.le_refl _)⟩
  · have q2 : (wd != 2) = true := by simp; omega
    have q4 : (wd != 4) = true := by simp; omega
    clear h hw hH
    generalize agSize wd k = z at *
    go_enter Tryz.func74, Tryz.ntmps74
    go_wp2_with (first | (go_at_call 110; refine (hS.out _).mono ?_; rintro e w' ⟨rfl, rfl⟩) | (go_at_call 109; refine (hH.out _).mono ?_; rintro e w' ⟨rfl, rfl⟩) | (refine wpList_store_row rfl 37 _ _ rfl w.heap.size #[.int .i64 0, .bool false, .int .u32 0, .int .u32 0, .slice none 0 0, .slice none 0 0, .slice none 0 0, .int .i64 0, .slice none 0 0] rfl rfl 37 #[.int .i64 0, .bool false, .int .u32 0, .int .u32 0, .slice none 0 0, .slice none 0 0, .slice none 0 0, .int .i64 0, .slice none 0 0] o0 (at_info9 _ _ _ _ _ _ _ _ _) rfl (ag_one _ _ _) ?_))
    exact bodyPost_ret (results_cell_tmp (p := 6) (t := 7) (fn := Tryz.f74) rfl _ _ w.heap.size 37 #[.int .i64 0, .bool false, .int .u32 0, .int .u32 0, .slice none 0 0, .slice none 0 0, .slice none 0 0, .int .i64 0, .slice none 0 0] _ rfl o0.setRow at_desc rfl (at_info9 _ _ _ _ _ _ _ _ _)) rfl ⟨rfl, bl_setRow hb0 (Nat.le_refl _)⟩
/-- Whether some bytes of this length are a value. -/
def agOk (wd k : Int) (n : Nat) : Bool := agHnd wd k && decide ((n : Int) = agSize wd k + 4)
theorem agOk_cases (wd k : Int) (n : Nat) : (agOk wd k n = true ∧ agHnd wd k = true ∧ ∃ s : Nat, agSize wd k = (s : Int) ∧ (s = 2 ∨ s = 4) ∧ n = s + 4) ∨ (agOk wd k n = false ∧ (agHnd wd k = false ∨ ∃ s : Nat, agSize wd k = (s : Int) ∧ s ≤ 4 ∧ n ≠ s + 4)) := by
  unfold agOk
  cases hq : agHnd wd k with
  | false => exact .inr ⟨rfl, .inl rfl⟩
  | true =>
    obtain ⟨s, h1, h2⟩ := agHnd_size hq
    rw [h1]
    by_cases hn : n = s + 4
    · exact .inl ⟨by rw [Bool.true_and, decide_eq_true_eq]; omega, rfl, s, rfl, h2, hn⟩
    · exact .inr ⟨by rw [Bool.true_and]; exact decide_eq_false (by omega), .inr ⟨s, rfl, by omega, hn⟩⟩
end Go.Proofs.YtmcnpkfeipelgaaGreatDoor

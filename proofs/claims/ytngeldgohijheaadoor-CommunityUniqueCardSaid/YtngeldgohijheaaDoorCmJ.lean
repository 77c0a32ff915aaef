/- Layer 9: what Has and Unique answer, at all attributes; CommunityHas -/
import Derived.Test.YtngeldgohijheaaDoorCmE
namespace Go.Proofs.YtngeldgohijheaaDoor
open Go.RowKit Go.Sort

def cmM (a : At) : Nat := a.n2 / cmG a.k
def hasV (a : At) (ls gs : List Int) : Bool := cmOk a && hasC (cmG a.k) ls (cmM a) gs
def ukk (a : At) : Int := if cmOk a = true then a.k else 0
def ukp (a : At) : Bool := if cmOk a = true then a.p else false
def ukV (a : At) (ls : List Int) : List Int := if cmOk a = true then (uqC (chunks (cmG a.k) ls (cmM a))).flatten else []
theorem ukV_u32 {a : At} {ls : List Int} (hR : U32L ls) : U32L (ukV a ls) := by
  unfold ukV
  split
  · exact uqC_u32 hR _
  · intro x hx
    cases hx
/-- What makes an attribute valid. -/
theorem cm_ok {a : At} {ls : List Int} (h : cmOk a = true) (hl : a.n2 = ls.length) : (cmG a.k = 1 ∨ cmG a.k = 2 ∨ cmG a.k = 3) ∧ ls.length = cmM a * cmG a.k ∧ 0 < cmM a := by
  unfold cmOk at h
  simp only [Bool.and_eq_true, decide_eq_true_eq] at h
  have hg := cmG_le a.k
  have h1 := Nat.div_add_mod a.n2 (cmG a.k)
  rw [h.1.2.2, Nat.add_zero, Nat.mul_comm] at h1
  have h2 : a.n2 = cmM a * cmG a.k := h1.symm
  refine ⟨by omega, by rw [← hl, h2], Nat.pos_of_ne_zero fun e => h.1.2.1 ?_⟩
  rw [h2, e, Nat.zero_mul]
theorem uk_ok {a : At} {ls : List Int} (h : cmOk a = true) (hl : a.n2 = ls.length) (A : Option Addr) (c : Nat) (p : Bool) :
    cmOk (atL a.k p A (uqC (chunks (cmG a.k) ls (cmM a))).flatten.length c) = true ∧ cmM (atL a.k p A (uqC (chunks (cmG a.k) ls (cmM a))).flatten.length c) = (uqC (chunks (cmG a.k) ls (cmM a))).length ∧
    chunks (cmG a.k) (uqC (chunks (cmG a.k) ls (cmM a))).flatten (uqC (chunks (cmG a.k) ls (cmM a))).length = uqC (chunks (cmG a.k) ls (cmM a)) := by
  obtain ⟨hg, hls, hm⟩ := cm_ok h hl
  have hlen := uqC_lens (g := cmG a.k) (m := cmM a) hls (Nat.le_refl _)
  have hfl := flat_len hlen
  have hne : 0 < (uqC (chunks (cmG a.k) ls (cmM a))).length := by
    have hx : chunk (cmG a.k) ls 0 ∈ uqC (chunks (cmG a.k) ls (cmM a)) := (uqC_mem _ _).2 (List.mem_map.2 ⟨0, List.mem_range.2 hm, rfl⟩)
    exact List.length_pos_of_mem hx
  have hp := Nat.mul_pos hne (show 0 < cmG a.k by omega)
  refine ⟨?_, ?_, chunks_flat hlen⟩
  · rw [cmOk_atL, decide_eq_true_iff]
    exact ⟨by omega, by omega, by rw [hfl, Nat.mul_mod_left]⟩
  · show (uqC (chunks (cmG a.k) ls (cmM a))).flatten.length / cmG a.k = _
    rw [hfl, Nat.mul_div_cancel _ (by omega)]
theorem hasV_uk {a : At} {ls : List Int} (hl : a.n2 = ls.length) (A : Option Addr) (c : Nat) (gs : List Int) : hasV (atL (ukk a) (ukp a) A (ukV a ls).length c) (ukV a ls) gs = hasV a ls gs := by
  unfold hasV ukk ukp ukV
  by_cases h : cmOk a = true
  · obtain ⟨h1, h2, h3⟩ := uk_ok h hl A c a.p
    simp only [h, if_true]
    rw [h1, h2]
    show (true && hasC (cmG a.k) _ _ gs) = _
    unfold hasC
    rw [h3, Bool.true_and, Bool.true_and, Bool.eq_iff_iff, decide_eq_true_iff, decide_eq_true_iff, uqC_mem]
  · simp only [h, Bool.false_eq_true, if_false]
    rw [cmOk_atL]
    simp [cmG]
theorem uk_uk {a : At} {ls : List Int} (hl : a.n2 = ls.length) (A : Option Addr) (c : Nat) :
    ukk (atL (ukk a) (ukp a) A (ukV a ls).length c) = ukk a ∧ ukp (atL (ukk a) (ukp a) A (ukV a ls).length c) = ukp a ∧ ukV (atL (ukk a) (ukp a) A (ukV a ls).length c) (ukV a ls) = ukV a ls := by
  by_cases h : cmOk a = true
  · obtain ⟨h1, h2, h3⟩ := uk_ok h hl A c a.p
    have e1 : ukk a = a.k := by unfold ukk; rw [if_pos h]
    have e2 : ukp a = a.p := by unfold ukp; rw [if_pos h]
    have e3 : ukV a ls = (uqC (chunks (cmG a.k) ls (cmM a))).flatten := by unfold ukV; rw [if_pos h]
    rw [e1, e2, e3]
    refine ⟨by unfold ukk; rw [if_pos h1]; rfl, by unfold ukp; rw [if_pos h1]; rfl, ?_⟩
    unfold ukV
    rw [if_pos h1, h2]
    show (uqC (chunks (cmG a.k) _ _)).flatten = _
    rw [h3, uqC_uqC]
  · have e1 : ukk a = 0 := by unfold ukk; rw [if_neg h]
    have e2 : ukp a = false := by unfold ukp; rw [if_neg h]
    have e3 : ukV a ls = [] := by unfold ukV; rw [if_neg h]
    have h1 : ¬ cmOk (atL 0 false A ([] : List Int).length c) = true := by rw [cmOk_atL]; simp [cmG]
    rw [e1, e2, e3]
    refine ⟨by unfold ukk; rw [if_neg h1], by unfold ukp; rw [if_neg h1], by unfold ukV; rw [if_neg h1]⟩
section
variable (a : At) (ls gs : List Int) (w : World) (A6 : Option Addr) (n6 c6 : Nat)
theorem hasC_len {g m : Nat} {ls gs : List Int} (h : ls.length = m * g) (hx : gs.length ≠ g) : hasC g ls m gs = false := by
  unfold hasC
  exact decide_eq_false (fun hm => hx (chunks_lens h (Nat.le_refl _) _ hm))
set_option maxRecDepth 100000 in
theorem cmhas_all (hR : U32L ls) (hG : U32L gs) (hU : U32s w w.heap.size a.A2 a.n2 ls) (hU6 : U32s w w.heap.size A6 n6 gs) (hnc : a.n2 ≤ a.c2) (hcm : a.c2 ≤ maxLen) :
    Calls Tryd.prog 25 #[.agg (atc a), .slice A6 n6 c6] w fun e w' => e = .returned (.bool (hasV a ls gs)) ∧ Below w.heap.size w w' := by
  by_cases h : cmOk a = true
  · obtain ⟨hg, hls, _⟩ := cm_ok h hU.1
    by_cases h6 : n6 = cmG a.k
    · refine (cmhas_yes a (cmG a.k) (cmM a) ls gs (cmOk_in h hR hnc hcm hU.1) hG (by rw [← hU6.1, h6]) h w A6 n6 c6 hU hU6).mono ?_
      rintro e w' ⟨rfl, hb⟩
      exact ⟨ret_boolA (by unfold hasV; rw [h, Bool.true_and]), hb⟩
    · refine (cmhas_no a A6 n6 c6 w (Nat.le_trans hnc hcm) (.inr h6)).mono ?_
      rintro e w' ⟨rfl, hb⟩
      exact ⟨ret_boolA (by unfold hasV; rw [hasC_len hls (by rw [← hU6.1]; exact h6), Bool.and_false]), hb⟩
  · refine (cmhas_no a A6 n6 c6 w (Nat.le_trans hnc hcm) (.inl (by simpa using h))).mono ?_
    rintro e w' ⟨rfl, hb⟩
    exact ⟨ret_boolA (by unfold hasV; simp [h]), hb⟩
set_option maxRecDepth 100000 in
theorem rcmhas_all (hR : U32L ls) (hU : U32s w w.heap.size a.A2 a.n2 ls) (hU6 : U32s w w.heap.size A6 n6 gs) (hnc : a.n2 ≤ a.c2) (hcm : a.c2 ≤ maxLen) (hn : a.n2 ≤ 1000000000) (hn6 : n6 ≤ 1000000000) :
    Calls Tryd.prog 24 #[.agg (atc a), .slice A6 n6 c6] w fun e w' => e = .returned (.bool (hasV a ls gs)) ∧ Below w.heap.size w w' := by
  by_cases h : cmOk a = true
  · refine (rcmhas_yes a (cmG a.k) (cmM a) ls gs (cmOk_in h hR hnc hcm hU.1) h w A6 n6 c6 hU hU6 hn6 hn).mono ?_
    rintro e w' ⟨rfl, hb⟩
    exact ⟨ret_boolA (by unfold hasV; rw [h, Bool.true_and]), hb⟩
  · refine (rcmhas_no a A6 n6 c6 w (Nat.le_trans hnc hcm) (by simpa using h)).mono ?_
    rintro e w' ⟨rfl, hb⟩
    exact ⟨ret_boolA (by unfold hasV; simp [h]), hb⟩
theorem uqZ_atc : uqZ = atc (atL 0 false none 0 0) := rfl
set_option maxRecDepth 100000 in
theorem cmuniq_all (hR : U32L ls) (hU : U32s w w.heap.size a.A2 a.n2 ls) (hnc : a.n2 ≤ a.c2) (hcm : a.c2 ≤ maxLen) (hn : a.n2 ≤ 1000) :
    Calls Tryd.prog 26 #[.agg (atc a)] w fun e w' => UqP w (ukk a) (ukp a) (ukV a ls) e w' := by
  unfold ukk ukp ukV
  by_cases h : cmOk a = true
  · simp only [h, if_true]
    exact cmuniq_yes a (cmG a.k) (cmM a) ls (cmOk_in h hR hnc hcm hU.1) h w hU (Nat.le_trans (Nat.div_le_self _ _) hn)
  · simp only [h, Bool.false_eq_true, if_false]
    refine (cmuniq_no a w (Nat.le_trans hnc hcm) (by simpa using h)).mono ?_
    rintro e w' ⟨rfl, hb⟩
    exact ⟨none, 0, 0, rfl, by rw [uqZ_atc], World.ownsRow_nil _ _ _ _, hb⟩
set_option maxRecDepth 100000 in
theorem rcmuniq_all (hR : U32L ls) (hU : U32s w w.heap.size a.A2 a.n2 ls) (hnc : a.n2 ≤ a.c2) (hcm : a.c2 ≤ maxLen) (hn : a.n2 ≤ 1000) :
    Calls Tryd.prog 28 #[.agg (atc a)] w fun e w' => UqP w (ukk a) (ukp a) (ukV a ls) e w' := by
  unfold ukk ukp ukV
  by_cases h : cmOk a = true
  · simp only [h, if_true]
    exact rcmuniq_yes a (cmG a.k) (cmM a) ls (cmOk_in h hR hnc hcm hU.1) h w hU (Nat.le_trans (Nat.div_le_self _ _) hn)
  · simp only [h, Bool.false_eq_true, if_false]
    refine (rcmuniq_no a w (Nat.le_trans hnc hcm) (by simpa using h)).mono ?_
    rintro e w' ⟨rfl, hb⟩
    exact ⟨none, 0, 0, rfl, by rw [uqZ_atc], World.ownsRow_nil _ _ _ _, hb⟩
end
theorem ukV_le {a : At} {ls : List Int} (hl : a.n2 = ls.length) : (ukV a ls).length ≤ a.n2 := by
  unfold ukV
  split
  · rename_i h
    obtain ⟨_, hls, _⟩ := cm_ok h hl
    rw [hl, hls]
    exact uqC_fl hls (Nat.le_refl _)
  · simp
set_option maxRecDepth 100000 in
set_option maxHeartbeats 1600000 in
theorem chas_walk (a : At) (ss : List Sg) (ls gs : List Int) (w : World) (A6 : Option Addr) (n6 c6 : Nat) (ht : Tens w) (hs : Segs w w.heap.size a.A1 a.n1 ss) (hm : a.n1 ≤ maxLen) (hR : U32L ls) (hG : U32L gs) (hU : U32s w w.heap.size a.A2 a.n2 ls) (hU6 : U32s w w.heap.size A6 n6 gs) (hnc : a.n2 ≤ a.c2) (hcm : a.c2 ≤ maxLen) :
    Calls Tryd.prog 6 #[.agg (atc a), .slice A6 n6 c6] w fun e w' => e = .returned (.bool true) ∧ Below w.heap.size w w' := by
  have hSm := Lib.hid (fun (W : World) (hb : Below w.heap.size w W) => small09_any a ss W ((hs.below hb).more hb.size) hm)
  have hSn : small9 a ss = true → a.n2 ≤ 200 := fun h => by
    unfold small9 at h
    simp only [Bool.and_eq_true, decide_eq_true_eq] at h
    exact h.2.1
  have HSn := Lib.hid hSn
  have hH := Lib.hid (fun (W : World) (hb : Below w.heap.size w W) => cmhas_all a ls gs W A6 n6 c6 hR hG ((hU.below hb).more hb.size) ((hU6.below hb).more hb.size) hnc hcm)
  have hRH := Lib.hid (fun (W : World) (hb : Below w.heap.size w W) (h1 : a.n2 ≤ 200) (h2 : n6 ≤ 20) => rcmhas_all a ls gs W A6 n6 c6 hR ((hU.below hb).more hb.size) ((hU6.below hb).more hb.size) hnc hcm (by omega) (by omega))
  have hUq := Lib.hid (fun (W : World) (hb : Below w.heap.size w W) (h1 : a.n2 ≤ 200) => cmuniq_all a ls W hR ((hU.below hb).more hb.size) hnc hcm (by omega))
  have hH2 := Lib.hid (fun (A : Option Addr) (c n : Nat) (W : World) (hb : Below w.heap.size w W) (hn : n = (ukV a ls).length) (hx : U32s W W.heap.size A n (ukV a ls)) (h1 : n ≤ c) (h2 : c ≤ maxLen) =>
    (show Calls Tryd.prog 25 #[.agg (atc (atL (ukk a) (ukp a) A n c)), .slice A6 n6 c6] W fun e w' => e = .returned (.bool (hasV a ls gs)) ∧ Below W.heap.size W w' from by
      have h := cmhas_all (atL (ukk a) (ukp a) A n c) (ukV a ls) gs W A6 n6 c6 (ukV_u32 hR) hG hx ((hU6.below hb).more hb.size) h1 h2
      subst hn
      rw [hasV_uk hU.1] at h
      exact h))
  generalize hasV a ls gs = V at *
  generalize small9 a ss = S at *
  generalize ukV a ls = L at *
  generalize ukk a = uk at *
  generalize ukp a = up at *
  clear hs hU hU6 hSn hR hG
  have HT := Lib.hid ht
  obtain ⟨k, p, N, M, A1, n1, c1, A2, n2, c2, A3, n3, c3, f, A4, n4, c4⟩ := a
  unfold atc at hSm hH hRH hUq ⊢
  dsimp only at *
  have hb0 := bl_alloc (bl_refl w) (.cells #[.int .i64 k, .bool p, .int .u32 N, .int .u32 M, .slice A1 n1 c1, .slice A2 n2 c2, .slice A3 n3 c3, .int .i64 f, .slice A4 n4 c4] 29)
  have o0 := Own.new w 29 #[.int .i64 k, .bool p, .int .u32 N, .int .u32 M, .slice A1 n1 c1, .slice A2 n2 c2, .slice A3 n3 c3, .int .i64 f, .slice A4 n4 c4]
  by_cases h : S = true ∧ n6 ≤ 20
  · obtain ⟨rfl, h6⟩ := h
    have hn2 := HSn.out rfl
    have hq : ¬ ((20 : Int) < (n6 : Int)) := by omega
    have hq2 : ¬ (20 < n6) := by omega
    go_enter Tryd.func6, Tryd.ntmps6
    go_wp2_with fail
    refine (hSm.out _ hb0).mono ?_
    rintro e w1 ⟨rfl, hb1⟩
    have o1 := o0.step hb1
    have hb2 := bl_trans hb0 hb1
    clear hb0 hb1 o0
    obtain ⟨e0, e1, e2, e3, e4, e5, e6, e7, e8⟩ := at_cells o1
    go_wp2_with fail
    refine (hRH.out _ hb2 hn2 h6).mono ?_
    rintro e w2 ⟨rfl, hb3⟩
    have o2 := o1.step hb3
    have hb4 := bl_trans hb2 hb3
    clear hb2 hb3 o1 e0 e1 e2 e3 e4 e5 e6 e7 e8
    go_wp2_with fail
    refine (alive09_any _ (HT.out.below hb4)).mono ?_
    rintro e w3 ⟨rfl, hb5⟩
    have o3 := o2.step hb5
    have hb6 := bl_trans hb4 hb5
    clear hb4 hb5 o2
    obtain ⟨e0, e1, e2, e3, e4, e5, e6, e7, e8⟩ := at_cells o3
    go_wp2_with fail
    refine (hH.out _ hb6).mono ?_
    rintro e w4 ⟨rfl, hb7⟩
    have o4 := o3.step hb7
    have hb8 := bl_trans hb6 hb7
    clear hb6 hb7 o3 e0 e1 e2 e3 e4 e5 e6 e7 e8
    obtain ⟨e0, e1, e2, e3, e4, e5, e6, e7, e8⟩ := at_cells o4
    go_wp2_with fail
    refine (hUq.out _ hb8 hn2).mono ?_
    rintro e w5 ⟨A, c, n, hn, rfl, row, hb9⟩
    have hb10 := bl_trans hb8 hb9
    have hcap := row_caps row
    have HX := Lib.hid (show U32s w5 w5.heap.size A n L from ⟨hn, Shows.of_own row⟩)
    have HN := Lib.hid hn
    clear hb8 hb9 o4 e0 e1 e2 e3 e4 e5 e6 e7 e8 hn row
    go_wp2_with fail
    refine (hH2.out A c n _ hb10 HN.out HX.out hcap.1 hcap.2).mono ?_
    rintro e w6 ⟨rfl, hb11⟩
    go_wp2
    go_ret
    exact ⟨rfl, bl_trans hb10 hb11⟩
  · have hq : S = true → (20 : Int) < (n6 : Int) := fun e => by
      have : ¬ n6 ≤ 20 := fun h6 => h ⟨e, h6⟩
      omega
    go_enter Tryd.func6, Tryd.ntmps6
    go_wp2_with fail
    refine (hSm.out _ hb0).mono ?_
    rintro e w1 ⟨rfl, hb1⟩
    have hb2 := bl_trans hb0 hb1
    have HQ := Lib.hid hq
    clear hb0 hb1 hq h
    cases S
    · go_wp2_with fail
      refine (alive09_any _ (HT.out.below hb2)).mono ?_
      rintro e w3 ⟨rfl, hb3⟩
      go_wp2
      go_ret
      exact ⟨rfl, bl_trans hb2 hb3⟩
    · have hq := HQ.out rfl
      have hq2 : 20 < n6 := by omega
      go_wp2_with fail
      refine (alive09_any _ (HT.out.below hb2)).mono ?_
      rintro e w3 ⟨rfl, hb3⟩
      go_wp2
      go_ret
      exact ⟨rfl, bl_trans hb2 hb3⟩
set_option maxRecDepth 100000 in
theorem chas_all (a : At) (w : World) (ht : Tens w) (hin : AtIn w a) (A6 : Option Addr) (n6 c6 : Nat) (gs : List Int) (hG : U32L gs) (hU6 : U32s w w.heap.size A6 n6 gs) :
    Calls Tryd.prog 6 #[.agg (atc a), .slice A6 n6 c6] w fun e w' => e = .returned (.bool true) ∧ Below w.heap.size w w' := by
  obtain ⟨_, _, _, _, ⟨i1, i2, ss, i3⟩, ⟨i4, i5, ls, i6, i7⟩, _, _⟩ := hin
  exact chas_walk a ss ls gs w A6 n6 c6 ht i3 (by omega) i6 hG i7 hU6 i4 i5
end Go.Proofs.YtngeldgohijheaaDoor

/- Communities: Group, Valid on both sides, name on both sides -/
import Derived.Test.YtngeldgohijheaaDoorFew
namespace Go.Proofs.YtngeldgohijheaaDoor
open Go.RowKit

/-- How many numbers belong together. -/
def cmG (k : Int) : Nat := if k = 8 then 1 else if k = 10 then 1 else if k = 16 then 2 else if k = 32 then 3 else 0
theorem cmG_le (k : Int) : cmG k ≤ 3 := by unfold cmG; split <;> (try omega); split <;> (try omega); split <;> (try omega); split <;> omega
set_option maxRecDepth 100000 in
theorem cmgroup_any (k : Int) (w : World) : Calls Tryd.prog 23 #[.int .i64 k] w fun e w' => e = .returned (.int .i64 (cmG k : Nat)) ∧ w = w' := by
  by_cases h1 : k = 8
  · subst h1
    go_enter Tryd.func23, Tryd.ntmps23
    go_wp2
    go_ret
    exact ⟨rfl, rfl⟩
  by_cases h2 : k = 10
  · subst h2
    go_enter Tryd.func23, Tryd.ntmps23
    go_wp2
    go_ret
    exact ⟨rfl, rfl⟩
  by_cases h3 : k = 16
  · subst h3
    go_enter Tryd.func23, Tryd.ntmps23
    go_wp2
    go_ret
    exact ⟨rfl, rfl⟩
  by_cases h4 : k = 32
  · subst h4
    go_enter Tryd.func23, Tryd.ntmps23
    go_wp2
    go_ret
    exact ⟨rfl, rfl⟩
  have q1 : (k == 8) = false := by simpa using h1
  have q2 : (k == 10) = false := by simpa using h2
  have q3 : (k == 16) = false := by simpa using h3
  have q4 : (k == 32) = false := by simpa using h4
  have hg := Lib.hid (show cmG k = 0 by unfold cmG; rw [if_neg h1, if_neg h2, if_neg h3, if_neg h4])
  clear h1 h2 h3 h4
  generalize cmG k = g at *
  go_enter Tryd.func23, Tryd.ntmps23
  go_wp2
  go_ret
  exact ⟨by rw [hg.out]; rfl, rfl⟩
set_option maxRecDepth 100000 in
theorem rcmgroup_any (k : Int) (w : World) : Calls Tryd.prog 17 #[.int .i64 k] w fun e w' => e = .returned (.int .i64 (cmG k : Nat)) ∧ w = w' := by
  by_cases h1 : k = 8
  · subst h1
    go_enter Tryd.func17, Tryd.ntmps17
    go_wp2
    go_ret
    exact ⟨rfl, rfl⟩
  by_cases h2 : k = 10
  · subst h2
    go_enter Tryd.func17, Tryd.ntmps17
    go_wp2
    go_ret
    exact ⟨rfl, rfl⟩
  by_cases h3 : k = 16
  · subst h3
    go_enter Tryd.func17, Tryd.ntmps17
    go_wp2
    go_ret
    exact ⟨rfl, rfl⟩
  by_cases h4 : k = 32
  · subst h4
    go_enter Tryd.func17, Tryd.ntmps17
    go_wp2
    go_ret
    exact ⟨rfl, rfl⟩
  have q1 : (k == 8) = false := by simpa using h1
  have q2 : (k == 10) = false := by simpa using h2
  have q3 : (k == 16) = false := by simpa using h3
  have q4 : (k == 32) = false := by simpa using h4
  have hg := Lib.hid (show cmG k = 0 by unfold cmG; rw [if_neg h1, if_neg h2, if_neg h3, if_neg h4])
  clear h1 h2 h3 h4
  generalize cmG k = g at *
  go_enter Tryd.func17, Tryd.ntmps17
  go_wp2
  go_ret
  exact ⟨by rw [hg.out]; rfl, rfl⟩
def cmNm (k : Int) : ByteArray := if k = 8 then ⟨#[99, 111, 109, 109, 117, 110, 105, 116, 105, 101, 115]⟩ else if k = 10 then ⟨#[99, 108, 117, 115, 116, 101, 114, 115]⟩ else if k = 16 then ⟨#[101, 120, 116, 101, 110, 100, 101, 100]⟩ else ⟨#[108, 97, 114, 103, 101]⟩
theorem cmNm_size (k : Int) : (cmNm k).size ≤ 11 := by unfold cmNm; split <;> (try decide); split <;> (try decide); split <;> decide
set_option maxRecDepth 100000 in
theorem cmname_any (k : Int) (w : World) : Calls Tryd.prog 47 #[.int .i64 k] w fun e w' => e = .returned (.string (cmNm k)) ∧ w = w' := by
  by_cases h1 : k = 8
  · subst h1
    go_enter Tryd.func47, Tryd.ntmps47
    go_wp2
    go_ret
    exact ⟨rfl, rfl⟩
  by_cases h2 : k = 10
  · subst h2
    go_enter Tryd.func47, Tryd.ntmps47
    go_wp2
    go_ret
    exact ⟨rfl, rfl⟩
  by_cases h3 : k = 16
  · subst h3
    go_enter Tryd.func47, Tryd.ntmps47
    go_wp2
    go_ret
    exact ⟨rfl, rfl⟩
  have q1 : (k == 8) = false := by simpa using h1
  have q2 : (k == 10) = false := by simpa using h2
  have q3 : (k == 16) = false := by simpa using h3
  have hg := Lib.hid (show cmNm k = ⟨#[108, 97, 114, 103, 101]⟩ by unfold cmNm; rw [if_neg h1, if_neg h2, if_neg h3])
  clear h1 h2 h3
  generalize cmNm k = g at *
  go_enter Tryd.func47, Tryd.ntmps47
  go_wp2
  go_ret
  exact ⟨by rw [hg.out]; rfl, rfl⟩
set_option maxRecDepth 100000 in
theorem rcmname_any (k : Int) (w : World) : Calls Tryd.prog 51 #[.int .i64 k] w fun e w' => e = .returned (.string (cmNm k)) ∧ w = w' := by
  by_cases h1 : k = 8
  · subst h1
    go_enter Tryd.func51, Tryd.ntmps51
    go_wp2
    go_ret
    exact ⟨rfl, rfl⟩
  by_cases h2 : k = 10
  · subst h2
    go_enter Tryd.func51, Tryd.ntmps51
    go_wp2
    go_ret
    exact ⟨rfl, rfl⟩
  by_cases h3 : k = 16
  · subst h3
    go_enter Tryd.func51, Tryd.ntmps51
    go_wp2
    go_ret
    exact ⟨rfl, rfl⟩
  have q1 : (k == 8) = false := by simpa using h1
  have q2 : (k == 10) = false := by simpa using h2
  have q3 : (k == 16) = false := by simpa using h3
  have hg := Lib.hid (show cmNm k = ⟨#[108, 97, 114, 103, 101]⟩ by unfold cmNm; rw [if_neg h1, if_neg h2, if_neg h3])
  clear h1 h2 h3
  generalize cmNm k = g at *
  go_enter Tryd.func51, Tryd.ntmps51
  go_wp2
  go_ret
  exact ⟨by rw [hg.out]; rfl, rfl⟩
/-- Whether an attribute has no other fields than type, Partial and numbers. -/
def cmB (a : At) : Bool := decide (a.N = 0 ∧ a.M = 0 ∧ a.n1 = 0 ∧ a.n3 = 0 ∧ a.f = 0 ∧ a.n4 = 0)
def cmOk (a : At) : Bool := decide (cmG a.k ≠ 0 ∧ a.n2 ≠ 0 ∧ a.n2 % cmG a.k = 0) && cmB a
/-- An attribute without its numbers. -/
def cmNo (a : At) : At := ⟨a.k, a.p, a.N, a.M, a.A1, a.n1, a.c1, none, 0, 0, a.A3, a.n3, a.c3, a.f, a.A4, a.n4, a.c4⟩
theorem cmNo_pl (a : At) : plB (cmNo a) [] = cmB a := by
  unfold plB bareB cmB cmNo
  rw [Bool.eq_iff_iff]
  simp only [Bool.and_eq_true, decide_eq_true_eq]
  constructor
  · rintro ⟨⟨_, h1, h2⟩, h3, _, h4, h5, h6⟩
    exact ⟨h1, h2, h3, h4, h5, h6⟩
  · rintro ⟨h1, h2, h3, h4, h5, h6⟩
    exact ⟨⟨Nat.zero_le _, h1, h2⟩, h3, by simp, h4, h5, h6⟩
set_option maxRecDepth 100000 in
set_option maxHeartbeats 1600000 in
theorem cmvalid_any (a : At) (w : World) (hm : a.n2 ≤ maxLen) : Calls Tryd.prog 20 #[.agg (atc a)] w fun e w' => e = .returned (.bool (cmOk a)) ∧ Below w.heap.size w w' := by
  unfold maxLen at hm
  have hO : Hid (cmOk a = (decide (cmG a.k ≠ 0 ∧ a.n2 ≠ 0 ∧ a.n2 % cmG a.k = 0) && cmB a)) := Lib.hid rfl
  have hP := Lib.hid (fun W => plain_any (cmNo a) none 0 0 [] W ⟨rfl, .inl rfl⟩ (by unfold maxLen; omega))
  rw [cmNo_pl] at hP
  have hG := Lib.hid (cmgroup_any a.k)
  have hg3 := cmG_le a.k
  unfold cmNo atc at hP
  generalize cmOk a = V at *
  generalize cmB a = B at *
  generalize cmG a.k = g at *
  obtain ⟨k, p, N, M, A1, n1, c1, A2, n2, c2, A3, n3, c3, f, A4, n4, c4⟩ := a
  unfold atc at *
  dsimp only at *
  have hb0 := bl_alloc (bl_refl w) (.cells #[.int .i64 k, .bool p, .int .u32 N, .int .u32 M, .slice A1 n1 c1, .slice A2 n2 c2, .slice A3 n3 c3, .int .i64 f, .slice A4 n4 c4] 29)
  have o0 := Own.new w 29 #[.int .i64 k, .bool p, .int .u32 N, .int .u32 M, .slice A1 n1 c1, .slice A2 n2 c2, .slice A3 n3 c3, .int .i64 f, .slice A4 n4 c4]
  by_cases hg : g = 0
  · have q1 : ((g : Int) == 0) = true := by simp; omega
    have hV : Hid (V = false) := Lib.hid (by rw [hO.out, decide_eq_false (fun h => h.1 hg)]; rfl)
    clear hg
    go_enter Tryd.func20, Tryd.ntmps20
    go_wp2_with fail
    refine (hG.out _).mono ?_
    rintro e w' ⟨rfl, rfl⟩
    go_wp2
    go_ret
    exact ⟨ret_boolA (by rw [hV.out]), hb0⟩
  have q1 : ((g : Int) == 0) = false := by simp; omega
  by_cases hn : n2 = 0
  · have q2 : ((n2 : Int) == 0) = true := by simp; omega
    have hV : Hid (V = false) := Lib.hid (by rw [hO.out, decide_eq_false (fun h => h.2.1 hn)]; rfl)
    clear hg hn
    go_enter Tryd.func20, Tryd.ntmps20
    go_wp2_with fail
    refine (hG.out _).mono ?_
    rintro e w' ⟨rfl, rfl⟩
    go_wp2
    go_ret
    exact ⟨ret_boolA (by rw [hV.out]), hb0⟩
  have q2 : ((n2 : Int) == 0) = false := by simp; omega
  have hr : ((n2 : Int).tmod (g : Int)) = ((n2 % g : Nat) : Int) := by rw [Int.ofNat_tmod]
  have hgz : ¬ (g : Int) = 0 := by omega
  have hgp : 0 < g := by omega
  have hml : n2 % g < g := Nat.mod_lt _ hgp
  have hOm : Hid (V = (decide (n2 % g = 0) && B)) := Lib.hid (by
    rw [hO.out]
    by_cases hz : n2 % g = 0
    · rw [decide_eq_true ⟨hg, hn, hz⟩, decide_eq_true hz]
    · rw [decide_eq_false (fun h => hz h.2.2), decide_eq_false hz])
  clear hO hg hn
  generalize n2 % g = m at *
  by_cases hz : m = 0
  · have q3 : ((m : Int) != 0) = false := by simp; omega
    have hV : Hid (V = B) := Lib.hid (by rw [hOm.out, decide_eq_true hz]; rfl)
    clear hz
    go_enter Tryd.func20, Tryd.ntmps20
    go_wp2_with fail
    refine (hG.out _).mono ?_
    rintro e w' ⟨rfl, rfl⟩
    have hb1 := bl_alloc (bl_refl w) (.cells #[.int .i64 k, .bool p, .int .u32 N, .int .u32 M, .slice A1 n1 c1, .slice none 0 0, .slice A3 n3 c3, .int .i64 f, .slice A4 n4 c4] 29)
    go_wp2_with fail
    refine (hP.out _).mono ?_
    rintro e w1 ⟨rfl, hb2⟩
    go_wp2
    go_ret
    exact ⟨ret_boolA (by rw [hV.out]), bl_trans hb1 hb2⟩
  · have q3 : ((m : Int) != 0) = true := by simp; omega
    have hV : Hid (V = false) := Lib.hid (by rw [hOm.out, decide_eq_false hz]; rfl)
    clear hz
    go_enter Tryd.func20, Tryd.ntmps20
    go_wp2_with fail
    refine (hG.out _).mono ?_
    rintro e w' ⟨rfl, rfl⟩
    go_wp2
    go_ret
    exact ⟨ret_boolA (by rw [hV.out]), hb0⟩
set_option maxRecDepth 100000 in
set_option maxHeartbeats 1600000 in
theorem rcmvalid_any (a : At) (w : World) (hm : a.n2 ≤ maxLen) : Calls Tryd.prog 16 #[.agg (atc a)] w fun e w' => e = .returned (.bool (cmOk a)) ∧ Below w.heap.size w w' := by
  unfold maxLen at hm
  have hO : Hid (cmOk a = (decide (cmG a.k ≠ 0 ∧ a.n2 ≠ 0 ∧ a.n2 % cmG a.k = 0) && cmB a)) := Lib.hid rfl
  have hP := Lib.hid (fun W => rbare_any (cmNo a) W)
  have hBB : Hid (cmB a = (bareB (cmNo a) && decide (a.N = 0) && decide (a.M = 0))) := Lib.hid (by
    unfold bareB cmB cmNo
    rw [Bool.eq_iff_iff]
    simp only [Bool.and_eq_true, decide_eq_true_eq]
    constructor
    · rintro ⟨h1, h2, h3, h4, h5, h6⟩
      exact ⟨⟨⟨h3, by simp, h4, h5, h6⟩, h1⟩, h2⟩
    · rintro ⟨⟨⟨h3, _, h4, h5, h6⟩, h1⟩, h2⟩
      exact ⟨h1, h2, h3, h4, h5, h6⟩)
  have hG := Lib.hid (rcmgroup_any a.k)
  have hg3 := cmG_le a.k
  generalize bareB (cmNo a) = R at *
  unfold cmNo atc at hP
  generalize cmOk a = V at *
  generalize cmB a = B at *
  generalize cmG a.k = g at *
  obtain ⟨k, p, N, M, A1, n1, c1, A2, n2, c2, A3, n3, c3, f, A4, n4, c4⟩ := a
  unfold atc at *
  dsimp only at *
  have hb0 := bl_alloc (bl_alloc (bl_refl w) (.cells #[.int .i64 k, .bool p, .int .u32 N, .int .u32 M, .slice A1 n1 c1, .slice A2 n2 c2, .slice A3 n3 c3, .int .i64 f, .slice A4 n4 c4] 29)) (.cells #[.int .i64 k, .bool p, .int .u32 N, .int .u32 M, .slice A1 n1 c1, .slice A2 n2 c2, .slice A3 n3 c3, .int .i64 f, .slice A4 n4 c4] 29)
  have hb1 := bl_alloc (bl_alloc (bl_refl w) (.cells #[.int .i64 k, .bool p, .int .u32 N, .int .u32 M, .slice A1 n1 c1, .slice A2 n2 c2, .slice A3 n3 c3, .int .i64 f, .slice A4 n4 c4] 29)) (.cells #[.int .i64 k, .bool p, .int .u32 N, .int .u32 M, .slice A1 n1 c1, .slice none 0 0, .slice A3 n3 c3, .int .i64 f, .slice A4 n4 c4] 29)
  have o0 := (Own.new w 29 #[.int .i64 k, .bool p, .int .u32 N, .int .u32 M, .slice A1 n1 c1, .slice A2 n2 c2, .slice A3 n3 c3, .int .i64 f, .slice A4 n4 c4]).alloc (.cells #[.int .i64 k, .bool p, .int .u32 N, .int .u32 M, .slice A1 n1 c1, .slice none 0 0, .slice A3 n3 c3, .int .i64 f, .slice A4 n4 c4] 29)
  obtain ⟨e0, e1, e2, e3, e4, e5, e6, e7, e8⟩ := at_cells o0
  clear hb0
  by_cases hg : g = 0
  · have q1 : decide ((0 : Int) < (g : Int)) = false := by simp; omega
    have q1' : ¬ 0 < g := by omega
    have hV : Hid (V = false) := Lib.hid (by rw [hO.out, decide_eq_false (fun h => h.1 hg)]; rfl)
    clear hg
    go_enter Tryd.func16, Tryd.ntmps16
    go_wp2_with fail
    refine (hG.out _).mono ?_
    rintro e w' ⟨rfl, rfl⟩
    go_wp2
    go_ret
    exact ⟨ret_boolA (by rw [hV.out]), hb1⟩
  have q1 : decide ((0 : Int) < (g : Int)) = true := by simp; omega
  have q1' : 0 < g := by omega
  by_cases hn : n2 = 0
  · have q2' : ¬ 0 < n2 := by omega
    have hV : Hid (V = false) := Lib.hid (by rw [hO.out, decide_eq_false (fun h => h.2.1 hn)]; rfl)
    clear hg hn
    go_enter Tryd.func16, Tryd.ntmps16
    go_wp2_with fail
    refine (hG.out _).mono ?_
    rintro e w' ⟨rfl, rfl⟩
    go_wp2
    go_ret
    exact ⟨ret_boolA (by rw [hV.out]), hb1⟩
  have q2 : decide ((0 : Int) < (n2 : Int)) = true := by simp; omega
  have q2' : 0 < n2 := by omega
  have hr : ((n2 : Int).tmod (g : Int)) = ((n2 % g : Nat) : Int) := by rw [Int.ofNat_tmod]
  have hgz : ¬ (g : Int) = 0 := by omega
  have hgp : 0 < g := by omega
  have hml : n2 % g < g := Nat.mod_lt _ hgp
  have hOm : Hid (V = (decide (n2 % g = 0) && B)) := Lib.hid (by
    rw [hO.out]
    by_cases hz : n2 % g = 0
    · rw [decide_eq_true ⟨hg, hn, hz⟩, decide_eq_true hz]
    · rw [decide_eq_false (fun h => hz h.2.2), decide_eq_false hz])
  clear hO hg hn
  generalize n2 % g = m at *
  by_cases hz : m = 0
  · have q3 : ((m : Int) == 0) = true := by simp; omega
    have hV : Hid (V = (R && decide (N = 0) && decide (M = 0))) := Lib.hid (by rw [hOm.out, decide_eq_true hz, hBB.out]; rfl)
    clear hz hOm hBB
    cases R
    · go_enter Tryd.func16, Tryd.ntmps16
      go_wp2_with fail
      refine (hG.out _).mono ?_
      rintro e w' ⟨rfl, rfl⟩
      go_wp2_with fail
      refine (hP.out _).mono ?_
      rintro e w1 ⟨rfl, hb2⟩
      go_wp2
      go_ret
      exact ⟨ret_boolA (by rw [hV.out]; rfl), bl_trans hb1 hb2⟩
    · go_enter Tryd.func16, Tryd.ntmps16
      go_wp2_with fail
      refine (hG.out _).mono ?_
      rintro e w' ⟨rfl, rfl⟩
      go_wp2_with fail
      refine (hP.out _).mono ?_
      rintro e w1 ⟨rfl, hb2⟩
      obtain ⟨g0, g1, g2, g3, g4, g5, g6, g7, g8⟩ := at_cells (o0.step hb2)
      clear e0 e1 e2 e3 e4 e5 e6 e7 e8
      go_wp2
      all_goals go_ret
      all_goals refine ⟨ret_boolA ?_, bl_trans hb1 hb2⟩
      all_goals (rw [hV.out]; clear hV; rw [Bool.eq_iff_iff]; simp only [Bool.and_eq_true, decide_eq_true_eq, beq_iff_eq, Bool.false_eq_true, false_iff, Bool.true_and] at *; omega)
  · have q3 : ((m : Int) == 0) = false := by simp; omega
    have hV : Hid (V = false) := Lib.hid (by rw [hOm.out, decide_eq_false hz]; rfl)
    clear hz
    go_enter Tryd.func16, Tryd.ntmps16
    go_wp2_with fail
    refine (hG.out _).mono ?_
    rintro e w' ⟨rfl, rfl⟩
    go_wp2
    go_ret
    exact ⟨ret_boolA (by rw [hV.out]), hb1⟩
end Go.Proofs.YtngeldgohijheaaDoor

/- peerageref07.Plain -/
import Derived.Test.YtkcejeogacobiaaDoorAt
namespace Go.Proofs.YtkcejeogacobiaaDoor
open Go.RowKit Go.Maps

theorem U32s.cell {w : World} {B n : Nat} {A : Option Addr} {ls : List Int} (h : U32s w B A n ls) {k : Nat} (hk : k < n) : ∃ b o, A = some ⟨b, o, none⟩ ∧ b < B ∧ w.cell? ⟨b, o + k, none⟩ = some (.int .u32 (nth ls k)) := by
  obtain ⟨hn, hs⟩ := h
  obtain ⟨b, o, hA, hb, hc⟩ := hs.at_ (k := k) (v := .int .u32 (nth ls k)) (by rw [List.getElem?_map, nth_some (by omega)]; rfl)
  exact ⟨b, o, hA, hb, hc⟩
theorem nth_over {ls : List Int} {k : Nat} (h : ls.length ≤ k) : nth ls k = 0 := by unfold nth; rw [List.getD_eq_getElem?_getD, List.getElem?_eq_none h]; rfl
set_option maxRecDepth 100000 in
set_option maxHeartbeats 3200000 in
theorem rplain_any (a : At) (A : Option Addr) (n c : Nat) (ls : List Int) (w : World) (hl : U32s w w.heap.size A n ls) (hm : n ≤ maxLen) :
    Calls Tryd.prog 19 #[.agg (atc a), .slice A n c] w fun e w' => e = .returned (.bool (plB a ls)) ∧ Below w.heap.size w w' := by
  unfold maxLen at hm
  have hO : Hid (plB a ls = (decide (ls.length ≤ 2 ∧ a.N = nth ls 0 ∧ a.M = nth ls 1) && bareB a)) := Lib.hid rfl
  generalize plB a ls = V at *
  have hB := Lib.hid (fun W => rbare_any a W)
  generalize bareB a = Q at *
  obtain ⟨k, p, N, M, A1, n1, c1, A2, n2, c2, A3, n3, c3, f, A4, n4, c4⟩ := a
  unfold atc at *
  dsimp only at *
  have hb := bl_alloc (bl_refl w) (.cells #[.int .i64 k, .bool p, .int .u32 N, .int .u32 M, .slice A1 n1 c1, .slice A2 n2 c2, .slice A3 n3 c3, .int .i64 f, .slice A4 n4 c4] 29)
  have o := Own.new w 29 #[.int .i64 k, .bool p, .int .u32 N, .int .u32 M, .slice A1 n1 c1, .slice A2 n2 c2, .slice A3 n3 c3, .int .i64 f, .slice A4 n4 c4]
  have HL := Lib.hid hl.1
  have HU := Lib.hid (hl.below hb)
  obtain ⟨e0, e1, e2, e3, e4, e5, e6, e7, e8⟩ := at_cells o
  clear hl
  by_cases hn0 : n = 0
  · have hx0 := Lib.hid (nth_over (ls := ls) (k := 0) (by rw [← HL.out]; omega))
    have hx1 := Lib.hid (nth_over (ls := ls) (k := 1) (by rw [← HL.out]; omega))
    subst hn0
    go_enter Tryd.func19, Tryd.ntmps19
    go_wp2_with fail
    refine (hB.out _).mono ?_
    rintro e w1 ⟨rfl, hb1⟩
    obtain ⟨e0, e1, e2, e3, e4, e5, e6, e7, e8⟩ := at_cells (o.step hb1)
    cases Q
    · go_wp2
      go_ret
      exact ⟨ret_boolA (by rw [hO.out, Bool.and_false]), bl_trans hb hb1⟩
    · go_wp2
      all_goals go_ret
      all_goals refine ⟨ret_boolA ?_, bl_trans hb hb1⟩
      all_goals rw [hO.out, hx0.out, hx1.out, ← HL.out]
      all_goals (clear hO hx0 hx1 HL; rw [Bool.eq_iff_iff]; simp only [Bool.and_true, decide_eq_true_eq, beq_iff_eq, Bool.false_eq_true, false_iff] at *; omega)
  · by_cases hn1 : n = 1
    · have hx1 := Lib.hid (nth_over (ls := ls) (k := 1) (by rw [← HL.out]; omega))
      subst hn1
      obtain ⟨b, o2, rfl, hbb, q0⟩ := HU.out.cell (k := 0) (by omega)
      rw [Nat.add_zero] at q0
      generalize nth ls 0 = x at *
      go_enter Tryd.func19, Tryd.ntmps19
      go_wp2_with fail
      refine (hB.out _).mono ?_
      rintro e w1 ⟨rfl, hb1⟩
      obtain ⟨e0, e1, e2, e3, e4, e5, e6, e7, e8⟩ := at_cells (o.step hb1)
      cases Q
      · go_wp2
        go_ret
        exact ⟨ret_boolA (by rw [hO.out, Bool.and_false]), bl_trans hb hb1⟩
      · go_wp2
        all_goals go_ret
        all_goals refine ⟨ret_boolA ?_, bl_trans hb hb1⟩
        all_goals rw [hO.out, hx1.out, ← HL.out]
        all_goals (clear hO hx1 HL; rw [Bool.eq_iff_iff]; simp only [Bool.and_true, decide_eq_true_eq, beq_iff_eq, Bool.false_eq_true, false_iff] at *; omega)
    · obtain ⟨b, o2, rfl, hbb, q0⟩ := HU.out.cell (k := 0) (by omega)
      obtain ⟨b', o3, hA, _, q1⟩ := HU.out.cell (k := 1) (by omega)
      obtain ⟨rfl, rfl⟩ : b = b' ∧ o2 = o3 := by simpa using hA
      rw [Nat.add_zero] at q0
      generalize nth ls 0 = x at *
      generalize nth ls 1 = y at *
      clear hA
      have d0 : decide ((0 : Int) < (n : Int)) = true := by simp; omega
      have d1 : decide ((1 : Int) < (n : Int)) = true := by simp; omega
      have d2 : 0 < n := by omega
      have d3 : 1 < n := by omega
      go_enter Tryd.func19, Tryd.ntmps19
      go_wp2_with fail
      refine (hB.out _).mono ?_
      rintro e w1 ⟨rfl, hb1⟩
      obtain ⟨e0, e1, e2, e3, e4, e5, e6, e7, e8⟩ := at_cells (o.step hb1)
      cases Q
      · go_wp2
        go_ret
        exact ⟨ret_boolA (by rw [hO.out, Bool.and_false]), bl_trans hb hb1⟩
      · go_wp2
        all_goals go_ret
        all_goals refine ⟨ret_boolA ?_, bl_trans hb hb1⟩
        all_goals rw [hO.out, ← HL.out]
        all_goals (clear hO HL; rw [Bool.eq_iff_iff]; simp only [Bool.and_true, decide_eq_true_eq, beq_iff_eq, Bool.false_eq_true, false_iff] at *; omega)
end Go.Proofs.YtkcejeogacobiaaDoor

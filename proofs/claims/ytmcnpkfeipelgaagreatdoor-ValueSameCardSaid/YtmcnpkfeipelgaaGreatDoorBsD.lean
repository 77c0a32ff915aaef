/- Attributes; basic.Plain, peerageref07.width, Has, Bare, Valid, Plain -/
import Derived.Test.YtmcnpkfeipelgaaGreatDoorBsC
namespace Go.Proofs.YtmcnpkfeipelgaaGreatDoor
open Go.RowKit Go.Maps

theorem at0_cells (k N : Int) : atc (at0 k N) = atV k N := rfl
set_option maxRecDepth 100000 in
theorem rwidth_any (k : Int) (w : World) : Calls Tryz.prog 126 #[.int .i64 k] w fun e w' => e = .returned (.int .i64 (bSize k)) ∧ w = w' := by
  rcases b_split k with h | ⟨h0, e1, e3, e4, e5, e6, e9⟩
  · rcases h with rfl | rfl | rfl | rfl | rfl | rfl
    all_goals
      go_enter Tryz.func126, Tryz.ntmps126
      go_wp2
      go_ret
      exact ⟨rfl, rfl⟩
  · have H := Lib.hid h0
    clear h0
    go_enter Tryz.func126, Tryz.ntmps126
    go_wp2
    go_ret
    exact ⟨by rw [H.out]; rfl, rfl⟩
theorem bSize_cases (k : Int) : (bSize k = -1 ∧ bKnown k = false) ∨ (0 ≤ bSize k ∧ bSize k ≤ 4 ∧ bKnown k = true) := by
  rcases b_split k with h | ⟨h0, _⟩
  · right
    rcases h with rfl | rfl | rfl | rfl | rfl | rfl <;> decide
  · left
    exact ⟨h0, by unfold bKnown; rw [h0]; rfl⟩
set_option maxRecDepth 100000 in
theorem rbhas_any (k : Int) (w : World) : Calls Tryz.prog 107 #[.int .i64 k] w fun e w' => e = .returned (.bool (bKnown k)) ∧ w = w' := by
  have hc := bSize_cases k
  go_enter Tryz.func107, Tryz.ntmps107
  go_wp2_with fail
  refine (rwidth_any k _).mono ?_
  rintro e w' ⟨rfl, rfl⟩
  have HC := Lib.hid hc
  clear hc
  go_wp2
  go_ret
  refine ⟨ret_boolA ?_, rfl⟩
  rcases HC.out with ⟨h1, h2⟩ | ⟨h1, h3, h2⟩
  · rw [h1, h2]; rfl
  · rw [h2]; simpa using h1
/-- A valid attribute. -/
def vOk (a : At) : Bool := bKnown a.k && bareB a && decide (a.M = 0) && decide ((a.k = 1 → a.N ≤ 2) ∧ (a.k = 6 → a.N = 0))
set_option maxRecDepth 100000 in
set_option maxHeartbeats 3200000 in
theorem rbvalid_any (a : At) (w : World) : Calls Tryz.prog 57 #[.agg (atc a)] w fun e w' => e = .returned (.bool (vOk a)) ∧ Below w.heap.size w w' := by
  have hB := Lib.hid (fun W => rbare_any a W)
  have hO : Hid (vOk a = (bKnown a.k && bareB a && decide (a.M = 0) && decide ((a.k = 1 → a.N ≤ 2) ∧ (a.k = 6 → a.N = 0)))) := Lib.hid rfl
  generalize hb : bareB a = Q at *
  clear hb
  generalize vOk a = V at *
  obtain ⟨k, p, N, M, A1, n1, c1, A2, n2, c2, A3, n3, c3, f, A4, n4, c4⟩ := a
  unfold atc at *
  dsimp only at *
  have hb := bl_alloc (bl_refl w) (.cells #[.int .i64 k, .bool p, .int .u32 N, .int .u32 M, .slice A1 n1 c1, .slice A2 n2 c2, .slice A3 n3 c3, .int .i64 f, .slice A4 n4 c4] 37)
  have o := Own.new w 37 #[.int .i64 k, .bool p, .int .u32 N, .int .u32 M, .slice A1 n1 c1, .slice A2 n2 c2, .slice A3 n3 c3, .int .i64 f, .slice A4 n4 c4]
  have hK := Lib.hid (rbhas_any k)
  generalize bKnown k = K at *
  go_enter Tryz.func57, Tryz.ntmps57
  go_wp2_with fail
  refine (hK.out _).mono ?_
  rintro e w' ⟨rfl, rfl⟩
  cases K
  · go_wp2
    go_ret
    exact ⟨ret_boolA (by rw [hO.out]; rfl), hb⟩
  · go_wp2_with fail
    refine (hB.out _).mono ?_
    rintro e w1 ⟨rfl, hb1⟩
    have o1 := o.step hb1
    have hb2 := bl_trans hb hb1
    have c0 := o1.cell (i := 0) (v := .int .i64 k) rfl
    have c2' := o1.cell (i := 2) (v := .int .u32 N) rfl
    have c3' := o1.cell (i := 3) (v := .int .u32 M) rfl
    clear hb1 hb o
    cases Q
    · go_wp2
      go_ret
      exact ⟨ret_boolA (by rw [hO.out]; rfl), hb2⟩
    · go_wp2
      all_goals go_ret
      all_goals refine ⟨ret_boolA ?_, hb2⟩
      all_goals (rw [hO.out, Bool.eq_iff_iff]; simp only [Bool.true_and, Bool.and_eq_true, decide_eq_true_eq, beq_iff_eq, Bool.false_eq_true, false_iff, true_iff, bne_eq_false_iff_eq, ne_eq, bne_iff_ne] at *; omega)
end Go.Proofs.YtmcnpkfeipelgaaGreatDoor

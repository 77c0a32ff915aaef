/- header.Wrap, peerageref04.Wrap -/
import Derived.Test.YtaopinecidddkaaDoorHdD
namespace Go.Proofs.YtaopinecidddkaaDoor
open Go.RowKit

theorem hKnown {x : Bool} {k n : Int} (hn : 0 < n) (h : hAllow x k n = true) : (k = 1 ∨ k = 2 ∨ k = 3 ∨ k = 4 ∨ k = 5) ∧ n ≤ 65535 := by
  simp only [hAllow, Bool.and_eq_true, decide_eq_true_eq] at h
  rcases hKinds k with rfl | rfl | rfl | rfl | rfl | ⟨h1, h2, h3, h4, n1, n2, n3, n4, n5⟩
  · refine ⟨by omega, Int.le_trans h.2 ?_⟩; cases x <;> decide
  · refine ⟨by omega, Int.le_trans h.2 ?_⟩; cases x <;> decide
  · refine ⟨by omega, Int.le_trans h.2 ?_⟩; cases x <;> decide
  · refine ⟨by omega, Int.le_trans h.2 ?_⟩; cases x <;> decide
  · refine ⟨by omega, Int.le_trans h.2 ?_⟩; cases x <;> decide
  · exfalso
    have : hLim x k = 0 := by unfold hLim; rw [h3, h4]; cases x <;> rfl
    omega
theorem hOkOf {x : Bool} {k n : Int} (hn : 0 < n) (h : hAllow x k n = true) : hbOk n k = true := by
  obtain ⟨h1, h2⟩ := hKnown hn h
  simp only [hbOk, Bool.and_eq_true, decide_eq_true_eq]
  omega
theorem hName_ne {k : Int} (h : k = 1 ∨ k = 2 ∨ k = 3 ∨ k = 4 ∨ k = 5) : ¬ (hName k).toList = [] := by
  rcases h with rfl | rfl | rfl | rfl | rfl <;> decide +kernel
theorem hName_nil {k : Int} (h : hName k = ⟨#[]⟩) : (hName k).toList = [] := by
  rw [h]; decide +kernel
end Go.Proofs.YtaopinecidddkaaDoor

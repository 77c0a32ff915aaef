/- FindingOrders -/
import Derived.Test.YtaopinecidddkaaDoorVs
import Derived.Test.YtaopinecidddkaaDoorFnF
namespace Go.Proofs.YtaopinecidddkaaDoor
open Go.RowKit Go.Sort

theorem worse_facts (a b c : Vd) : vWorse a a = false ∧ (vWorse a b = true → vWorse b a = false) ∧ (vWorse a b = false → vWorse b a = false → a.k = b.k ∧ a.t = b.t) ∧ (vWorse a b = true → vWorse b c = true → vWorse a c = true) := by
  unfold vWorse
  simp only [decide_eq_true_eq, decide_eq_false_iff_not]
  refine ⟨by omega, by omega, by omega, by omega⟩
theorem same_self (a : Vd) : vSame a a = true := by simp [vSame]
theorem vds_three {W : World} {g : Nat} {T : TypeId} {v1 v2 v3 : Vd} (h : Own W g T (vdc v1 ++ vdc v2 ++ vdc v3)) (h1 : v1.Ok W W.heap.size) (h2 : v2.Ok W W.heap.size) (h3 : v3.Ok W W.heap.size) : Vds W W.heap.size (some ⟨g, 0, none⟩) 3 [v1, v2, v3] := by
  refine ⟨rfl, ?_, .inr ⟨g, 0, rfl, h.lt, ?_⟩⟩
  · intro v hv
    simp only [List.mem_cons, List.not_mem_nil, or_false] at hv
    rcases hv with rfl | rfl | rfl <;> assumption
  · intro i v hi j u hu
    refine h.cell ?_
    have hj : j < 5 := (List.getElem?_eq_some_iff.1 hu).1
    match i, hi with
    | 0, hi =>
      obtain rfl : v1 = v := by simpa using hi
      rw [← Array.getElem?_toList, Array.toList_append, Array.toList_append, List.append_assoc, List.getElem?_append_left (by show 0 + 0 * 5 + j < 5; omega), show 0 + 0 * 5 + j = j by omega]
      exact hu
    | 1, hi =>
      obtain rfl : v2 = v := by simpa using hi
      rw [← Array.getElem?_toList, Array.toList_append, Array.toList_append, List.append_assoc, List.getElem?_append_right (by show 5 ≤ 0 + 1 * 5 + j; omega), List.getElem?_append_left (by show 0 + 1 * 5 + j - 5 < 5; omega), show 0 + 1 * 5 + j - (vdc v1).toList.length = j by show 0 + 1 * 5 + j - 5 = j; omega]
      exact hu
    | 2, hi =>
      obtain rfl : v3 = v := by simpa using hi
      rw [← Array.getElem?_toList, Array.toList_append, Array.toList_append, List.append_assoc, List.getElem?_append_right (by show 5 ≤ 0 + 2 * 5 + j; omega), List.getElem?_append_right (by show 5 ≤ 0 + 2 * 5 + j - 5; omega), show 0 + 2 * 5 + j - (vdc v1).toList.length - (vdc v2).toList.length = j by show 0 + 2 * 5 + j - 5 - 5 = j; omega]
      exact hu
    | i + 3, hi => simp at hi
end Go.Proofs.YtaopinecidddkaaDoor

/- FindingFolds: the walk -/
import Derived.Test.YtmcmhljonkijjaaDoorFoE
import Derived.Deep.RegionHeld3
namespace Go.Proofs.YtmcmhljonkijjaaDoor
open Go.RowKit Go.Sort

theorem vSame_iff {v u : Vd} : vSame v u = true ↔ v.k = u.k ∧ v.c = u.c ∧ v.s = u.s ∧ v.t = u.t ∧ v.xs = u.xs := by unfold vSame; rw [decide_eq_true_eq]
theorem vSame_symm {v u : Vd} (h : vSame v u = true) : vSame u v = true := by
  rw [vSame_iff] at *
  exact ⟨h.1.symm, h.2.1.symm, h.2.2.1.symm, h.2.2.2.1.symm, h.2.2.2.2.symm⟩
theorem vSame_trans {v u x : Vd} (h : vSame v u = true) (h' : vSame u x = true) : vSame v x = true := by
  rw [vSame_iff] at *
  exact ⟨h.1.trans h'.1, h.2.1.trans h'.2.1, h.2.2.1.trans h'.2.2.1, h.2.2.2.1.trans h'.2.2.2.1, h.2.2.2.2.trans h'.2.2.2.2⟩
def wor (u v : Vd) : Vd := if vWorse v u then v else u
theorem fold_eq {vs : List Vd} {x : Vd} {r : List Vd} (h : vs = x :: r) : foldV vs = r.foldl wor x := by
  subst h
  rw [← wst_fold (by simp)]
  unfold wst
  rw [List.take_of_length_le (Nat.le_refl _)]
  show List.foldl wor (nthV (x :: r) 0) (x :: r) = _
  rw [List.foldl_cons]
  have : wor (nthV (x :: r) 0) x = x := by unfold wor nthV; simp
  rw [this]
/-- The worst of two lists together is the worst of the worst ones. -/
theorem foldl_best (r : List Vd) : ∀ (u x : Vd), r.foldl wor (wor u x) = wor u (r.foldl wor x) := by
  induction r with
  | nil => intro u x; rfl
  | cons y r ih =>
    intro u x
    rw [List.foldl_cons, List.foldl_cons]
    have e : wor (wor u x) y = wor u (wor x y) := by
      unfold wor vWorse
      simp only [decide_eq_true_eq]
      repeat' split
      all_goals first | rfl | (exfalso; omega)
    rw [e, ih]
theorem fold_app {a b : List Vd} (ha : a ≠ []) (hb : b ≠ []) : foldV (a ++ b) = wor (foldV a) (foldV b) := by
  cases a with
  | nil => exact absurd rfl ha
  | cons x r =>
    cases b with
    | nil => exact absurd rfl hb
    | cons y q =>
      rw [List.cons_append, fold_eq (x := x) (r := r ++ y :: q) rfl, fold_eq (x := x) (r := r) rfl, fold_eq (x := y) (r := q) rfl, List.foldl_append, List.foldl_cons, foldl_best]
theorem fold_two (x y : Vd) : foldV [x, y] = wor x y := by rw [fold_eq (x := x) (r := [y]) rfl]; rfl
theorem wor_same {x y x' y' : Vd} (h : vSame x x' = true) (h' : vSame y y' = true) : vSame (wor x y) (wor x' y') = true := by
  have h1 := vSame_iff.1 h
  have h2 := vSame_iff.1 h'
  have e : vWorse y x = vWorse y' x' := by unfold vWorse; rw [h1.1, h1.2.2.2.1, h2.1, h2.2.2.2.1]
  unfold wor
  rw [e]
  split
  · exact h'
  · exact h
theorem own_15 {W : World} {g h j : Nat} {T : TypeId} {a b c d e a' b' c' d' e' a2 b2 c2 d2 e2 : Value} (o : Own W g T #[a, b, c, d, e]) (p : Own W h T #[a', b', c', d', e']) (q : Own W j T #[a2, b2, c2, d2, e2]) :
    (W.cell? ⟨g, 0, none⟩ = some a ∧ W.cell? ⟨g, 1, none⟩ = some b ∧ W.cell? ⟨g, 2, none⟩ = some c ∧ W.cell? ⟨g, 3, none⟩ = some d ∧ W.cell? ⟨g, 4, none⟩ = some e) ∧ (W.cell? ⟨h, 0, none⟩ = some a' ∧ W.cell? ⟨h, 1, none⟩ = some b' ∧ W.cell? ⟨h, 2, none⟩ = some c' ∧ W.cell? ⟨h, 3, none⟩ = some d' ∧ W.cell? ⟨h, 4, none⟩ = some e') ∧ (W.cell? ⟨j, 0, none⟩ = some a2 ∧ W.cell? ⟨j, 1, none⟩ = some b2 ∧ W.cell? ⟨j, 2, none⟩ = some c2 ∧ W.cell? ⟨j, 3, none⟩ = some d2 ∧ W.cell? ⟨j, 4, none⟩ = some e2) := ⟨vd_row o, vd_row p, vd_row q⟩
theorem own_vdsL {w : World} {base l : Nat} {v : Value} {vs : List Vd} (hl : vs.length = l) (h : w.ownsRow base 40 5 v l (flatV vs)) (ho : ∀ x ∈ vs, x.Ok w w.heap.size) : ∃ A c, v = .slice A l c ∧ Vds w w.heap.size A l vs := by
  subst hl
  exact own_vds h ho
theorem vparts_two {W : World} {j : Nat} {T : TypeId} {A1 A2 : Option Addr} {n1 c1 n2 c2 : Nat} {aa bs : List Vd} (ho : Own W j T #[.slice A1 n1 c1, .slice A2 n2 c2]) (h1 : Vds W W.heap.size A1 n1 aa) (h2 : Vds W W.heap.size A2 n2 bs) :
    VParts W W.heap.size (some ⟨j, 0, none⟩) 2 [⟨A1, n1, c1, aa⟩, ⟨A2, n2, c2, bs⟩] := by
  refine ⟨rfl, fun p hp => ?_, Shows.of_owned (xs := [.slice A1 n1 c1, .slice A2 n2 c2]) ho ho.lt⟩
  simp only [List.mem_cons, List.not_mem_nil, or_false] at hp
  rcases hp with rfl | rfl
  · exact h1
  · exact h2
theorem vds_two {W : World} {g : Nat} {T : TypeId} {x y : Vd} (h : Own W g T (vdc x ++ vdc y)) (hx : x.Ok W W.heap.size) (hy : y.Ok W W.heap.size) : Vds W W.heap.size (some ⟨g, 0, none⟩) 2 [x, y] := by
  refine ⟨rfl, fun v hv => ?_, .inr ⟨g, 0, rfl, h.lt, fun i v hi j u hu => ?_⟩⟩
  · simp only [List.mem_cons, List.not_mem_nil, or_false] at hv
    rcases hv with rfl | rfl
    · exact hx
    · exact hy
  · have hi0 : i < 2 := (List.getElem?_eq_some_iff.1 hi).1
    have hj : j < 5 := (List.getElem?_eq_some_iff.1 hu).1
    have hs : (vdc x).size = 5 := rfl
    rcases (by omega : i = 0 ∨ i = 1) with rfl | rfl
    · obtain rfl : x = v := by simpa using hi
      refine h.cell ?_
      rw [Array.getElem?_append_left (by omega)]
      simpa using hu
    · obtain rfl : y = v := by simpa using hi
      refine h.cell ?_
      rw [Array.getElem?_append_right (by omega), hs]
      simpa using hu
end Go.Proofs.YtmcmhljonkijjaaDoor

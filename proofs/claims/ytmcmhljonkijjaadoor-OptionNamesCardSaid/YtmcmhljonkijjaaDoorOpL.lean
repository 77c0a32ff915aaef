/- The order of names does not matter; how many options names are -/
import Derived.Test.YtmcmhljonkijjaaDoorOpH
namespace Go.Proofs.YtmcmhljonkijjaaDoor
open Go.RowKit Go.Sort

theorem getD_setO {l : List Bool} {i j : Nat} (hi : i < l.length) : (l.set i true).getD j false = if i = j then true else l.getD j false := by
  rw [List.getD_eq_getElem?_getD, List.getElem?_set, List.getD_eq_getElem?_getD]
  by_cases h : i = j
  · subst h
    simp [hi]
  · simp [h]
theorem oStep_comm (l : List Bool) (hl : l.length = 6) (x y : ByteArray) : ((oStep l x).bind fun l' => oStep l' y) = (oStep l y).bind fun l' => oStep l' x := by
  unfold oStep
  cases hx : fIdx x with
  | none =>
    cases hy : fIdx y with
    | none => rfl
    | some j => by_cases h : l.getD j false = true <;> simp only [h, if_true, if_false, Option.bind_some, Option.bind_none, Bool.false_eq_true]
  | some i =>
    have hi : i < l.length := by have := fIdx_lt hx; omega
    cases hy : fIdx y with
    | none => by_cases h : l.getD i false = true <;> simp only [h, if_true, if_false, Option.bind_some, Option.bind_none, Bool.false_eq_true]
    | some j =>
      have hj : j < l.length := by have := fIdx_lt hy; omega
      have e1 := getD_setO (j := j) hi
      have e2 := getD_setO (j := i) hj
      by_cases hij : i = j
      · subst hij
        rfl
      · rw [if_neg hij] at e1
        rw [if_neg (fun e => hij e.symm)] at e2
        generalize hA : l.getD i false = A at *
        generalize hB : l.getD j false = B at *
        cases A <;> cases B <;> simp only [e1, e2, hA, hB, Bool.false_eq_true, if_false, if_true, Option.bind_some, Option.bind_none, List.set_comm _ _ hij]
theorem oFold_perm {a b : List ByteArray} (h : a.Perm b) : ∀ l : List Bool, l.length = 6 → oFold l a = oFold l b := by
  induction h with
  | nil => intro l _; rfl
  | cons x _ ih =>
    intro l hl
    unfold oFold
    cases hs : oStep l x with
    | none => rfl
    | some l' => exact ih l' ((oStep_len hs).trans hl)
  | swap x y r =>
    intro l hl
    have h := oStep_comm l hl y x
    have e : ∀ u v : ByteArray, oFold l (u :: v :: r) = ((oStep l u).bind fun l' => oStep l' v).bind fun l'' => oFold l'' r := by
      intro u v
      conv => lhs; unfold oFold
      cases oStep l u with
      | none => rfl
      | some l' => conv => lhs; unfold oFold
                   rfl
    rw [e, e, h]
  | trans _ _ h1 h2 => intro l hl; exact (h1 l hl).trans (h2 l hl)
theorem oFold_rev (names : List ByteArray) (l : List Bool) (hl : l.length = 6) : oFold l names.reverse = oFold l names := oFold_perm (List.reverse_perm names) l hl
theorem oStep_count {l l' : List Bool} {x : ByteArray} (hl : l.length = 6) (h : oStep l x = some l') : l'.count true = l.count true + 1 := by
  unfold oStep at h
  split at h
  · cases h
  · rename_i k hk
    have hk6 : k < l.length := by have := fIdx_lt hk; omega
    split at h
    · cases h
    · rename_i hb
      cases h
      rw [List.getD_eq_getElem?_getD, List.getElem?_eq_getElem hk6] at hb
      rw [List.count_set hk6]
      simp at hb
      simp [hb]
theorem oFold_count (names : List ByteArray) : ∀ {l l' : List Bool}, l.length = 6 → oFold l names = some l' → l'.count true = l.count true + names.length := by
  induction names with
  | nil => intro l l' _ h; cases h; rfl
  | cons x r ih =>
    intro l l' hl h
    unfold oFold at h
    cases hs : oStep l x with
    | none => rw [hs] at h; cases h
    | some l1 =>
      rw [hs] at h
      rw [ih ((oStep_len hs).trans hl) h, oStep_count hl hs, List.length_cons]
      omega
end Go.Proofs.YtmcmhljonkijjaaDoor

/- What is read of some bytes is determined, and valid -/
import Derived.Test.YtiehbmhekncbhaaDoorForm
import Derived.Test.YtiehbmhekncbhaaDoorNe
namespace Go.Proofs.YtiehbmhekncbhaaDoor
open Go.RowKit

theorem Parsed.same {f : Int} {add : Bool} {xs : List Int} {p q : Nat} {rs rs' : List Rt} (h : Parsed f add xs p rs) (h' : Parsed f add xs q rs') (hl : rs.length = rs'.length) : p = q ∧ rs = rs' := by
  induction h generalizing q rs' with
  | nil =>
    cases h' with
    | nil => exact ⟨rfl, rfl⟩
    | cons => simp at hl
  | cons h hp hk ih =>
    cases h' with
    | nil => simp at hl
    | cons h2 hp2 hk2 =>
      simp at hl
      obtain ⟨rfl, rfl⟩ := ih h2 hl
      exact ⟨rfl, rfl⟩
theorem Parsed.upto {f : Int} {add : Bool} {xs : List Int} {q : Nat} {rs : List Rt} (h : Parsed f add xs q rs) : ∀ k, k < rs.length → ∃ p, Parsed f add xs p (rs.take k) ∧ p < q ∧ p < xs.length ∧ oneOk f add (xs.drop p) = true := by
  induction h with
  | nil => intro k hk; simp at hk
  | @cons p rs h hp hk ih =>
    intro k hlt
    have hN := oneN_pos add (xs.drop p)
    rw [List.length_append, List.length_singleton] at hlt
    rcases Nat.lt_or_ge k rs.length with h1 | h1
    · obtain ⟨p', a, b, c, d⟩ := ih k h1
      exact ⟨p', by rw [List.take_append_of_le_length (by omega)]; exact a, by omega, c, d⟩
    · obtain rfl : k = rs.length := by omega
      exact ⟨p, by rw [List.take_append_of_le_length (Nat.le_refl _), List.take_length]; exact h, by omega, hp, hk⟩
theorem Parsed.cmp {f : Int} {add : Bool} {xs : List Int} {p q : Nat} {rs rs' : List Rt} (h : Parsed f add xs p rs) (h' : Parsed f add xs q rs') :
    (p = q ∧ rs = rs') ∨ (p < q ∧ oneOk f add (xs.drop p) = true) ∨ (q < p ∧ oneOk f add (xs.drop q) = true) := by
  rcases Nat.lt_trichotomy rs.length rs'.length with hl | hl | hl
  · obtain ⟨p', a, b, c, d⟩ := h'.upto rs.length hl
    obtain ⟨rfl, _⟩ := h.same a (by rw [List.length_take]; omega)
    exact .inr (.inl ⟨b, d⟩)
  · exact .inl (h.same h' hl)
  · obtain ⟨p', a, b, c, d⟩ := h.upto rs'.length hl
    obtain ⟨rfl, _⟩ := h'.same a (by rw [List.length_take]; omega)
    exact .inr (.inr ⟨b, d⟩)
theorem Parsed.bound {f : Int} {add : Bool} {xs : List Int} {p : Nat} {rs : List Rt} (h : Parsed f add xs p rs) : p ≤ xs.length := h.le.1
/-- Two readings of the same bytes agree. -/
theorem reads_same {f : Int} {add : Bool} {xs : List Int} {w w' : World} {v v' : Value} {a a' : Int} (h : ReadsTo f add xs w v a) (h' : ReadsTo f add xs w' v' a') :
    a = a' ∧ ((∃ rs A c A' c', a = -1 ∧ Parsed f add xs xs.length rs ∧ v = .slice A rs.length c ∧ v' = .slice A' rs.length c' ∧ Routes w w.heap.size A rs.length rs ∧ Routes w' w'.heap.size A' rs.length rs) ∨
      (0 ≤ a ∧ v = .slice none 0 0 ∧ v' = .slice none 0 0)) := by
  rcases h with ⟨rs, A, c, rfl, hp, rfl, hc, hr⟩ | ⟨p, rs, rfl, hlt, hp, hk, rfl⟩ <;> rcases h' with ⟨rs', A', c', rfl, hp', rfl, hc', hr'⟩ | ⟨p', rs', rfl, hlt', hp', hk', rfl⟩
  · rcases hp.cmp hp' with ⟨_, rfl⟩ | ⟨hx, _⟩ | ⟨hx, _⟩
    · exact ⟨rfl, .inl ⟨rs, A, c, A', c', rfl, hp, rfl, rfl, hr, hr'⟩⟩
    · omega
    · omega
  · rcases hp.cmp hp' with ⟨hx, _⟩ | ⟨hx, _⟩ | ⟨_, hx⟩
    · omega
    · omega
    · rw [hx] at hk'; cases hk'
  · rcases hp.cmp hp' with ⟨hx, _⟩ | ⟨_, hx⟩ | ⟨hx, _⟩
    · omega
    · rw [hx] at hk; cases hk
    · omega
  · rcases hp.cmp hp' with ⟨rfl, _⟩ | ⟨_, hx⟩ | ⟨_, hx⟩
    · exact ⟨rfl, .inr ⟨by omega, rfl, rfl⟩⟩
    · rw [hx] at hk; cases hk
    · rw [hx] at hk'; cases hk'

theorem top_top (x : Int) (c : Nat) : top (top x c) c = top x c := by
  unfold top
  have : (0 : Int) < 2 ^ (8 - c) := Int.pow_pos (by omega)
  rw [Int.mul_ediv_cancel _ (by omega)]
theorem mask_mask (l : Int) (a : List Int) : maskL l (maskL l a) = maskL l a := by
  apply List.ext_getElem (by simp [maskL_len])
  intro i h1 h2
  have hi : i < a.length := by rwa [maskL_len] at h2
  simp only [maskL, List.getElem_mapIdx]
  exact top_top _ _
theorem pread_valid {f : Int} {xs : List Int} (hr : ∀ x ∈ xs, 0 ≤ x ∧ x ≤ 255) (hk : pOk f xs = true) : pF f xs = f ∧ pfxOk (pF f xs) (pL f xs) (pA f xs) = true := by
  have hf : pF f xs = f := by unfold pF; rw [if_pos hk]
  refine ⟨hf, ?_⟩
  have hl : pL f xs = xs.headD 0 := by unfold pL; rw [if_pos hk]
  have ha : pA f xs = maskL (xs.headD 0) (padTo ((xs.drop 1).take (sizeOfBits (xs.headD 0)).toNat)) := by unfold pA; rw [if_pos hk]
  rw [hf, hl, ha]
  match xs, hk, hr with
  | x :: ys, hk, hr =>
    simp only [pOk, Bool.and_eq_true, decide_eq_true_eq] at hk
    have hrg := lenOk_range hk.1
    have h5 : sizeOfBits x ≤ 16 := by unfold sizeOfBits; omega
    have hp : IsAddr (padTo (((x :: ys).drop 1).take (sizeOfBits x).toNat)) := padTo_addr (by rw [List.length_take]; omega) (fun y hy => hr y (List.mem_of_mem_drop (List.mem_of_mem_take hy)))
    simp only [List.headD_cons]
    unfold pfxOk
    rw [hk.1, mask_mask x _]
    simp
theorem one_valid {f : Int} {add : Bool} {xs : List Int} (hr : ∀ x ∈ xs, 0 ≤ x ∧ x ≤ 255) (hk : oneOk f add xs = true) : rtOk f add (oneR f add xs) = true := by
  cases add
  · have h := pread_valid hr hk
    have e : oneR f false xs = ⟨0, pF f xs, pL f xs, pA f xs⟩ := rfl
    rw [e]
    unfold rtOk
    rw [h.2, decide_eq_true h.1]
    simp
  · simp only [oneOk, if_true, Bool.and_eq_true, decide_eq_true_eq] at hk
    have h := pread_valid (fun x hx => hr x (List.mem_of_mem_drop hx)) hk.2
    have e : oneR f true xs = ⟨big (xs.take 4), pF f (xs.drop 4), pL f (xs.drop 4), pA f (xs.drop 4)⟩ := by simp [oneR, hk.1]
    rw [e]
    unfold rtOk
    rw [h.2, decide_eq_true h.1]
    simp
theorem Parsed.valid {f : Int} {add : Bool} {xs : List Int} {p : Nat} {rs : List Rt} (h : Parsed f add xs p rs) (hr : ∀ x ∈ xs, 0 ≤ x ∧ x ≤ 255) : rs.all (rtOk f add) = true := by
  induction h with
  | nil => rfl
  | cons h hp hk ih =>
    rw [List.all_append, ih]
    simp [one_valid (fun x hx => hr x (List.mem_of_mem_drop hx)) hk]
theorem reads_valid {f : Int} {add : Bool} {xs : List Int} {p : Nat} {rs : List Rt} (h : Parsed f add xs p rs) (hr : ∀ x ∈ xs, 0 ≤ x ∧ x ≤ 255) : rs.all (rtOk f add) = true := h.valid hr
theorem formAll_append (add : Bool) (a b : List Rt) : formAll add (a ++ b) = formAll add a ++ formAll add b := by simp [formAll]
end Go.Proofs.YtiehbmhekncbhaaDoor

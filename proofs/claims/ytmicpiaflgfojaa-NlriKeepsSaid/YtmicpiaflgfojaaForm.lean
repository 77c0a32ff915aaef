/- what nlri.Read reads of the form of some routes -/
import Derived.Test.YtmicpiaflgfojaaNd
namespace Go.Proofs.Ytmicpiaflgfojaa
open Go.RowKit

theorem top_zero {x : Int} (h0 : 0 ≤ x) (h1 : x ≤ 255) : top x 0 = 0 := by
  unfold top
  rw [show (2 : Int) ^ (8 - 0) = 256 from rfl, Int.ediv_eq_zero_of_lt h0 (by omega)]; rfl
theorem mask_pad {l : Int} {a : List Int} (ha : IsAddr a) (h0 : 0 ≤ l) (h1 : l ≤ 128) : maskL l (padTo (a.take (sizeOfBits l).toNat)) = maskL l a := by
  have hs : (sizeOfBits l).toNat ≤ 16 := by unfold sizeOfBits; omega
  have hl : (a.take (sizeOfBits l).toNat).length = (sizeOfBits l).toNat := by rw [List.length_take, ha.1]; omega
  have hp : IsAddr (padTo (a.take (sizeOfBits l).toNat)) := padTo_addr (by omega) (fun x hx => ha.2 x (List.mem_of_mem_take hx))
  apply List.ext_getElem
  · rw [maskL_len, maskL_len, hp.1, ha.1]
  intro i q1 q2
  rw [maskL_len] at q1 q2
  have e1 := hp.2 _ (List.getElem_mem q1)
  have e2 := ha.2 _ (List.getElem_mem q2)
  simp only [maskL, List.getElem_mapIdx]
  by_cases hi : i < (sizeOfBits l).toNat
  · congr 1
    simp only [padTo]
    rw [List.getElem_append_left (by rw [hl]; exact hi), List.getElem_take]
  · have hk : (keep l i).toNat = 0 := by unfold keep; unfold sizeOfBits at hi; omega
    rw [hk, top_zero e1.1 e1.2, top_zero e2.1 e2.2]
theorem big_four (x : Int) (h0 : 0 ≤ x) (h1 : x ≤ 4294967295) : big (digitsOf 4 x) = x := by
  rw [digitsOf_4]; simp [big]; omega
theorem p_form {f l : Int} {a : List Int} (ha : IsAddr a) (hk : pfxOk f l a = true) (rest : List Int) :
    pOk f (pfxForm l a ++ rest) = true ∧ pN (pfxForm l a ++ rest) = (pfxForm l a).length ∧ pF f (pfxForm l a ++ rest) = f ∧ pL f (pfxForm l a ++ rest) = l ∧ pA f (pfxForm l a ++ rest) = a := by
  have hr := pfxOk_range hk
  have hs : (sizeOfBits l).toNat ≤ 16 := by unfold sizeOfBits; omega
  have hl : (a.take (sizeOfBits l).toNat).length = (sizeOfBits l).toNat := by rw [List.length_take, ha.1]; omega
  have hk2 := hk
  simp only [pfxOk, Bool.and_eq_true, decide_eq_true_eq] at hk2
  have e : pfxForm l a ++ rest = l :: (a.take (sizeOfBits l).toNat ++ rest) := rfl
  have hok : pOk f (pfxForm l a ++ rest) = true := by
    rw [e]
    simp only [pOk, hk2.1, Bool.true_and, decide_eq_true_eq, List.length_append, hl]
    omega
  have htk : ((pfxForm l a ++ rest).drop 1).take (sizeOfBits l).toNat = a.take (sizeOfBits l).toNat := by
    rw [e]
    show (a.take (sizeOfBits l).toNat ++ rest).take (sizeOfBits l).toNat = _
    rw [List.take_append_of_le_length (by omega), List.take_of_length_le (by omega)]
  have hh : (pfxForm l a ++ rest).headD 0 = l := rfl
  refine ⟨hok, ?_, ?_, ?_, ?_⟩
  · unfold pN; rw [hh]; unfold pfxForm; rw [List.length_cons, hl]; omega
  · unfold pF; rw [if_pos hok]
  · unfold pL; rw [if_pos hok, hh]
  · unfold pA; rw [if_pos hok, hh, htk, mask_pad ha hr.1 hr.2, hk2.2]
theorem one_form {f : Int} {add : Bool} {r : Rt} (ho : r.Ok) (hk : rtOk f add r = true) (rest : List Int) :
    oneOk f add (rtForm add r ++ rest) = true ∧ oneN add (rtForm add r ++ rest) = (rtForm add r).length ∧ oneR f add (rtForm add r ++ rest) = r := by
  obtain ⟨p, rf, l, a⟩ := r
  simp only [rtOk, Bool.and_eq_true, decide_eq_true_eq] at hk
  obtain ⟨⟨rfl, hp⟩, ha⟩ := hk
  cases add
  · simp only [Bool.false_or, decide_eq_true_eq] at ha
    subst ha
    obtain ⟨h1, h2, h3, h4, h5⟩ := p_form ho.1 hp rest
    have e : rtForm false ⟨0, rf, l, a⟩ = pfxForm l a := rfl
    rw [e]
    refine ⟨h1, h2, ?_⟩
    show Rt.mk 0 _ _ _ = _
    rw [h3, h4, h5]
  · obtain ⟨h1, h2, h3, h4, h5⟩ := p_form ho.1 hp rest
    have h4l := digitsOf_len 4 p
    have e : rtForm true ⟨p, rf, l, a⟩ = digitsOf 4 p ++ pfxForm l a := rfl
    have ed : (digitsOf 4 p ++ pfxForm l a ++ rest).drop 4 = pfxForm l a ++ rest := by
      rw [List.append_assoc, List.drop_append_of_le_length (by omega), List.drop_of_length_le (by omega)]; rfl
    have et : (digitsOf 4 p ++ pfxForm l a ++ rest).take 4 = digitsOf 4 p := by
      rw [List.append_assoc, List.take_append_of_le_length (by omega), List.take_of_length_le (by omega)]
    have hl : 4 ≤ (digitsOf 4 p ++ pfxForm l a ++ rest).length := by rw [List.append_assoc, List.length_append, h4l]; omega
    rw [e]
    refine ⟨?_, ?_, ?_⟩
    · simp only [oneOk, if_true, ed, h1, Bool.and_true, decide_eq_true_eq]; exact hl
    · show 4 + pN _ = _
      rw [ed, h2, List.length_append, h4l]
    · simp only [oneR, if_true, if_pos hl, ed, et, h3, h4, h5]
      rw [big_four p ho.2.1 ho.2.2]
theorem formAll_split {add : Bool} {rs : List Rt} {j : Nat} (h : j < rs.length) : formAll add rs = formAll add (rs.take j) ++ (rtForm add (nthR rs j) ++ formAll add (rs.drop (j + 1))) := by
  have e : rs = rs.take j ++ (nthR rs j :: rs.drop (j + 1)) := by
    have h1 := List.take_append_drop j rs
    have h2 : rs.drop j = nthR rs j :: rs.drop (j + 1) := by
      rw [List.drop_eq_getElem_cons h]
      congr 1
      have := nthR_some h
      rw [List.getElem?_eq_getElem h] at this
      exact Option.some.inj this
    rw [h2] at h1
    exact h1.symm
  have e2 : formAll add rs = formAll add (rs.take j ++ (nthR rs j :: rs.drop (j + 1))) := by rw [← e]
  rw [e2]
  simp [formAll]
theorem step_form {f : Int} {add : Bool} {rs : List Rt} (ho : ∀ r ∈ rs, r.Ok) (hk : rs.all (rtOk f add) = true) {j : Nat} (hj : j < rs.length) :
    oneOk f add ((formAll add rs).drop (formAll add (rs.take j)).length) = true ∧ oneN add ((formAll add rs).drop (formAll add (rs.take j)).length) = (rtForm add (nthR rs j)).length ∧ oneR f add ((formAll add rs).drop (formAll add (rs.take j)).length) = nthR rs j := by
  rw [formAll_split hj, List.drop_append_of_le_length (Nat.le_refl _), List.drop_of_length_le (Nat.le_refl _), List.nil_append]
  exact one_form (ho _ (nthR_mem hj)) (List.all_eq_true.1 hk _ (nthR_mem hj)) _
theorem rtForm_pos (add : Bool) (r : Rt) : 0 < (rtForm add r).length := by
  unfold rtForm pfxForm
  rw [List.length_append, List.length_cons]; omega
theorem parsed_form {f : Int} {add : Bool} {rs : List Rt} (ho : ∀ r ∈ rs, r.Ok) (hk : rs.all (rtOk f add) = true) {p : Nat} {rs' : List Rt} (h : Parsed f add (formAll add rs) p rs') :
    ∃ j, j ≤ rs.length ∧ rs' = rs.take j ∧ p = (formAll add (rs.take j)).length := by
  induction h with
  | nil => exact ⟨0, Nat.zero_le _, rfl, rfl⟩
  | @cons p rs' h hp hk' ih =>
    obtain ⟨j, hj, rfl, rfl⟩ := ih
    have hj' : j < rs.length := by
      rcases Nat.lt_or_ge j rs.length with h1 | h1
      · exact h1
      · rw [List.take_of_length_le h1] at hp; omega
    obtain ⟨_, h2, h3⟩ := step_form ho hk hj'
    refine ⟨j + 1, hj', ?_, ?_⟩
    · rw [h3, take_nthR hj']
    · rw [h2, formAll_take hj', List.length_append]
theorem parsed_all {f : Int} {add : Bool} {rs : List Rt} (ho : ∀ r ∈ rs, r.Ok) (hk : rs.all (rtOk f add) = true) {rs' : List Rt} (h : Parsed f add (formAll add rs) (formAll add rs).length rs') : rs' = rs := by
  obtain ⟨j, hj, rfl, hp⟩ := parsed_form ho hk h
  rcases Nat.lt_or_ge j rs.length with h1 | h1
  · rw [formAll_split h1, List.length_append, List.length_append] at hp
    have := rtForm_pos add (nthR rs j)
    omega
  · exact List.take_of_length_le h1
theorem parsed_go {f : Int} {add : Bool} {rs : List Rt} (ho : ∀ r ∈ rs, r.Ok) (hk : rs.all (rtOk f add) = true) {p : Nat} {rs' : List Rt} (h : Parsed f add (formAll add rs) p rs') (hp : p < (formAll add rs).length) : oneOk f add ((formAll add rs).drop p) = true := by
  obtain ⟨j, hj, rfl, rfl⟩ := parsed_form ho hk h
  rcases Nat.lt_or_ge j rs.length with h1 | h1
  · exact (step_form ho hk h1).1
  · rw [List.take_of_length_le h1] at hp; omega
end Go.Proofs.Ytmicpiaflgfojaa

/- the forms of OPENs: when two are the same -/
import Derived.Test.YtniheakafkakhaaObA
namespace Go.Proofs.Ytniheakafkakhaa
open Go.RowKit Go.Sort
theorem kform_inj : ∀ {K M : List (Int × List Int)}, K.flatMap kFormC = M.flatMap kFormC → K = M
  | [], [], _ => rfl
  | [], (k, xs) :: M, h => by simp [kFormC] at h
  | (k, xs) :: K, [], h => by simp [kFormC] at h
  | (k, xs) :: K, (l, ys) :: M, h => by
    rw [List.flatMap_cons, List.flatMap_cons] at h
    unfold kFormC at h
    simp only [List.cons_append, List.cons.injEq] at h
    obtain ⟨h1, h2, h3⟩ := h
    have hl : xs.length = ys.length := by omega
    obtain ⟨h4, h5⟩ := List.append_inj h3 hl
    rw [h1, h4, kform_inj h5]
theorem big_dig2 (x : Int) (h0 : 0 ≤ x) (h1 : x < 65536) : big (digitsOf 2 x) = x := by
  show big [x / 256 ^ 1 % 256, x / 256 ^ 0 % 256] = x
  rw [big_pair]
  omega
theorem big_dig4o (x : Int) (h0 : 0 ≤ x) (h1 : x < 4294967296) : big (digitsOf 4 x) = x := by
  show big [x / 256 ^ 3 % 256, x / 256 ^ 2 % 256, x / 256 ^ 1 % 256, x / 256 ^ 0 % 256] = x
  simp only [big, List.foldl]
  omega
theorem oForm_inj {num q r num' q' r' : Int} {P P' : List Int} (hq : 0 ≤ q ∧ q ≤ 65535) (hq' : 0 ≤ q' ∧ q' ≤ 65535) (hn : 0 ≤ num ∧ num ≤ 65535) (hn' : 0 ≤ num' ∧ num' ≤ 65535) (hr : 0 ≤ r ∧ r < 4294967296) (hr' : 0 ≤ r' ∧ r' < 4294967296) (h : oFormK num q r P = oFormK num' q' r' P') : num = num' ∧ q = q' ∧ r = r' ∧ P = P' := by
  unfold oFormK at h
  have h1 := (List.append_inj h rfl).2
  obtain ⟨e1, h2⟩ := List.append_inj h1 (by rw [digitsOf_len, digitsOf_len])
  obtain ⟨e2, h3⟩ := List.append_inj h2 (by rw [digitsOf_len, digitsOf_len])
  obtain ⟨e3, h4⟩ := List.append_inj h3 (by rw [digitsOf_len, digitsOf_len])
  obtain ⟨_, h5⟩ := List.append_inj h4 rfl
  refine ⟨?_, ?_, ?_, h5⟩
  · rw [← big_dig2 num hn.1 (by omega), e1, big_dig2 num' hn'.1 (by omega)]
  · rw [← big_dig2 q hq.1 (by omega), e2, big_dig2 q' hq'.1 (by omega)]
  · rw [← big_dig4o r hr.1 hr.2, e3, big_dig4o r' hr'.1 hr'.2]
theorem oPar_inj {ss ts : List Cp} (hs : ∀ s ∈ ss, s.n = s.xs.length) (ht : ∀ s ∈ ts, s.n = s.xs.length) (h : oPar ss = oPar ts) : ss.map cpK = ts.map cpK := by
  unfold oPar at h
  by_cases e : ss = []
  · rw [if_pos e] at h
    by_cases e' : ts = []
    · rw [e, e']
    · rw [if_neg e'] at h; exact absurd h (by simp)
  · rw [if_neg e] at h
    by_cases e' : ts = []
    · rw [if_pos e'] at h; exact absurd h (by simp)
    · rw [if_neg e'] at h
      simp only [List.cons.injEq] at h
      have h3 := h.2.2
      rw [cpsForm_k hs, cpsForm_k ht] at h3
      exact kform_inj h3
theorem oPar_congr {ss ts : List Cp} (hs : ∀ s ∈ ss, s.n = s.xs.length) (ht : ∀ s ∈ ts, s.n = s.xs.length) (h : ss.map cpK = ts.map cpK) : oPar ss = oPar ts := by
  unfold oPar
  have hl : ss.length = ts.length := by have := congrArg List.length h; rwa [List.length_map, List.length_map] at this
  have hc : cpsForm ss = cpsForm ts := by rw [cpsForm_k hs, cpsForm_k ht, h]
  by_cases e : ss = []
  · have e' : ts = [] := List.length_eq_zero_iff.1 (by rw [← hl, e]; rfl)
    rw [if_pos e, if_pos e']
  · have e' : ts ≠ [] := fun he => e (List.length_eq_zero_iff.1 (by rw [hl, he]; rfl))
    rw [if_neg e, if_neg e', hc]
theorem oOk_says {p q r : Int} {ss : List Cp} (h : oOk p q r ss = true) : (0 ≤ q ∧ q ≤ 65535) ∧ (if (sysK (ss.map cpK)).isSome = true then (sysK (ss.map cpK)).getD 0 = p else p ≤ 65535) := by
  unfold oOk at h
  rw [Bool.and_eq_true, Bool.and_eq_true] at h
  have hf := h.2.2
  refine ⟨fitB_q hf, ?_⟩
  unfold fitB at hf
  rw [Bool.and_eq_true] at hf
  have h2 := hf.2
  by_cases e : (sysK (ss.map cpK)).isSome = true
  · rw [if_pos e] at h2 ⊢
    exact beq_iff_eq.1 h2
  · rw [if_neg e] at h2 ⊢
    exact of_decide_eq_true h2
theorem oNum_ok {p : Int} (h : 0 ≤ p) : 0 ≤ oNum p ∧ oNum p ≤ 65535 := by
  unfold oNum
  split <;> omega
/-- Valid OPENs have the same form exactly if they are the same. -/
theorem oForm_same {p q r p' q' r' : Int} {ss ts : List Cp} (hp : 0 ≤ p) (hp' : 0 ≤ p') (hr : 0 ≤ r ∧ r < 4294967296) (hr' : 0 ≤ r' ∧ r' < 4294967296) (hs : ∀ s ∈ ss, s.n = s.xs.length) (ht : ∀ s ∈ ts, s.n = s.xs.length) (h : oOk p q r ss = true) (h' : oOk p' q' r' ts = true) :
    decide (oFormK (oNum p) q r (oPar ss) = oFormK (oNum p') q' r' (oPar ts)) = (p == p' && (q == q' && (r == r' && decide (ss.map cpK = ts.map cpK)))) := by
  obtain ⟨a1, a2⟩ := oOk_says h
  obtain ⟨b1, b2⟩ := oOk_says h'
  by_cases e : oFormK (oNum p) q r (oPar ss) = oFormK (oNum p') q' r' (oPar ts)
  · obtain ⟨h1, h2, h3, h4⟩ := oForm_inj a1 b1 (oNum_ok hp) (oNum_ok hp') hr hr' e
    have hK := oPar_inj hs ht h4
    have hpp : p = p' := by
      rw [hK] at a2
      by_cases es : (sysK (ts.map cpK)).isSome = true
      · rw [if_pos es] at a2 b2
        exact a2.symm.trans b2
      · rw [if_neg es] at a2 b2
        unfold oNum at h1
        rw [if_neg (by omega), if_neg (by omega)] at h1
        exact h1
    rw [decide_eq_true e, hpp, h2, h3, decide_eq_true hK]
    simp
  · rw [decide_eq_false e]
    symm
    rw [← Bool.not_eq_true]
    intro hc
    rw [Bool.and_eq_true, Bool.and_eq_true, Bool.and_eq_true, beq_iff_eq, beq_iff_eq, beq_iff_eq, decide_eq_true_iff] at hc
    obtain ⟨c1, c2, c3, c4⟩ := hc
    exact e (by rw [c1, c2, c3, oPar_congr hs ht c4])
end Go.Proofs.Ytniheakafkakhaa

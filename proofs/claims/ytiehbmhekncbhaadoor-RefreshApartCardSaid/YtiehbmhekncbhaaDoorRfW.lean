/- refreshes are told apart by their forms and their texts -/
import Derived.Test.YtiehbmhekncbhaaDoorRfV
import Derived.Test.YtiehbmhekncbhaaDoorDecL
namespace Go.Proofs.YtiehbmhekncbhaaDoor
open Go.RowKit Go.Sort

theorem toList_iff2 (a b : ByteArray) : a.toList = b.toList ↔ a = b := by
  rw [ByteArray.toList_eq, ByteArray.toList_eq]
  exact ⟨fun h => ByteArray.ext (Array.ext' h), fun h => by rw [h]⟩
theorem rfT_list (a b c : Int) : (rfT a b c).data.toList = (subT b).data.toList ++ 32 :: (famT a c).data.toList := by simp [rfT]
theorem decB_list (n : Int) : (decB n).data.toList = Lib.decDigits n.toNat := by simp [decB]
theorem decB_inj {m n : Int} (h0 : 0 ≤ m) (h1 : 0 ≤ n) (h : Lib.decDigits m.toNat = Lib.decDigits n.toNat) : m = n := by
  have := dec_inj h
  omega
theorem subT_data (b : Int) : (subT b).data.toList = if b = 0 then [114, 101, 102, 114, 101, 115, 104] else if b = 1 then [98, 101, 103, 105, 110] else if b = 2 then [101, 110, 100] else [115, 117, 98, 32] ++ Lib.decDigits b.toNat := by
  unfold subT
  split
  · rfl
  · split
    · rfl
    · split
      · rfl
      · rw [← decB_list]; simp
theorem famT_data (a c : Int) : (famT a c).data.toList = if famOf a c = 1 then [105, 112, 118, 52] else if famOf a c = 2 then [105, 112, 118, 54] else Lib.decDigits a.toNat ++ 47 :: Lib.decDigits c.toNat := by
  unfold famT
  split
  · rfl
  · split
    · rfl
    · rw [← decB_list, ← decB_list]; simp
theorem subT_inj {b b' : Int} (h0 : 0 ≤ b) (h1 : 0 ≤ b') (h : (subT b).data.toList = (subT b').data.toList) : b = b' := by
  rw [subT_data, subT_data] at h
  have hc : ∀ x : Int, 0 ≤ x → x = 0 ∨ x = 1 ∨ x = 2 ∨ (x ≠ 0 ∧ x ≠ 1 ∧ x ≠ 2) := fun x _ => by omega
  rcases hc b h0 with rfl | rfl | rfl | ⟨e0, e1, e2⟩ <;> rcases hc b' h1 with rfl | rfl | rfl | ⟨f0, f1, f2⟩
  all_goals first
    | rfl
    | (exfalso; simp at h; done)
    | (exfalso; simp [f0, f1, f2] at h; done)
    | (exfalso; simp [e0, e1, e2] at h; done)
    | (simp only [if_neg e0, if_neg e1, if_neg e2, if_neg f0, if_neg f1, if_neg f2] at h
       exact decB_inj h0 h1 (List.append_cancel_left h))
theorem fam_free (a c : Int) : (32 : UInt8) ∉ (famT a c).data.toList := by
  rw [famT_data]
  split
  · decide
  · split
    · decide
    · intro h
      rcases List.mem_append.1 h with h | h
      · exact dec_free (by decide) _ h
      · rcases List.mem_cons.1 h with h | h
        · cases h
        · exact dec_free (by decide) _ h
theorem famT_inj {a c a' c' : Int} (h0 : 0 ≤ a) (h1 : 0 ≤ c) (h2 : 0 ≤ a') (h3 : 0 ≤ c') (h : (famT a c).data.toList = (famT a' c').data.toList) : a = a' ∧ c = c' := by
  rw [famT_data, famT_data] at h
  have hc : ∀ x y : Int, famOf x y = 1 ∧ x = 1 ∧ y = 1 ∨ famOf x y = 2 ∧ x = 2 ∧ y = 1 ∨ (¬ famOf x y = 1 ∧ ¬ famOf x y = 2) := fun x y => by
    unfold famOf
    split <;> omega
  have hd : ∀ (n : Nat) (r : List UInt8), ∀ s, Lib.decDigits n ++ r ≠ 105 :: s := fun n r s e => by
    obtain ⟨x, q, hx, hlo, hhi⟩ := dec_head n
    rw [hx] at e
    simp at e
    rw [e.1] at hhi
    exact absurd hhi (by decide)
  rcases hc a c with ⟨e, ea, ec⟩ | ⟨e, ea, ec⟩ | ⟨e1, e2⟩ <;> rcases hc a' c' with ⟨f, fa, fc⟩ | ⟨f, fa, fc⟩ | ⟨f1, f2⟩
  · omega
  · rw [e, f] at h; simp at h
  · rw [e, if_neg f1, if_neg f2] at h; exact absurd h.symm (hd _ _ _)
  · rw [e, f] at h; simp at h
  · omega
  · rw [e, if_neg f1, if_neg f2] at h; exact absurd h.symm (hd _ _ _)
  · rw [f, if_neg e1, if_neg e2] at h; exact absurd h (hd _ _ _)
  · rw [f, if_neg e1, if_neg e2] at h; exact absurd h (hd _ _ _)
  · rw [if_neg e1, if_neg e2, if_neg f1, if_neg f2] at h
    obtain ⟨g1, g2⟩ := split_first h (dec_free (by decide) _) (dec_free (by decide) _)
    exact ⟨decB_inj h0 h2 g1, decB_inj h1 h3 g2⟩
theorem rfT_inj {a b c a' b' c' : Int} (hk : rfOk a b c = true) (hk' : rfOk a' b' c' = true) (h : rfT a b c = rfT a' b' c') : a = a' ∧ b = b' ∧ c = c' := by
  obtain ⟨h0, _, h2, _, h4, _⟩ := rfOk_bounds hk
  obtain ⟨g0, _, g2, _, g4, _⟩ := rfOk_bounds hk'
  have e := congrArg (fun s : ByteArray => s.data.toList) h
  simp only [rfT_list] at e
  obtain ⟨e1, e2⟩ := split_last e (fam_free a c) (fam_free a' c')
  obtain ⟨e3, e4⟩ := famT_inj h0 h4 g0 g4 e2
  exact ⟨e3, subT_inj h2 g2 e1, e4⟩
theorem rfForm_inj {a b c a' b' c' : Int} (hk : rfOk a b c = true) (hk' : rfOk a' b' c' = true) (h : rfForm a b c = rfForm a' b' c') : a = a' ∧ b = b' ∧ c = c' := by
  obtain ⟨h0, h1, _⟩ := rfOk_bounds hk
  obtain ⟨g0, g1, _⟩ := rfOk_bounds hk'
  rw [rfForm_lit h0 h1, rfForm_lit g0 g1] at h
  simp at h
  omega
end Go.Proofs.YtiehbmhekncbhaaDoor

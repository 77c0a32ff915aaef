/- prefixes that cover others: bits -/
import Derived.Test.YtaopinecidddkaaDoorPfxW
namespace Go.Proofs.YtaopinecidddkaaDoor
open Go.RowKit

theorem top_bit_nat : ∀ x, x < 256 → ∀ c, c ≤ 8 → ∀ t, t < 8 → x / 2 ^ (8 - c) * 2 ^ (8 - c) / 2 ^ (7 - t) % 2 = if t < c then x / 2 ^ (7 - t) % 2 else 0 := by decide +kernel
theorem top_bit {x : Int} {c t : Nat} (h0 : 0 ≤ x) (h1 : x ≤ 255) (hc : c ≤ 8) (ht : t < 8) : top x c / 2 ^ (7 - t) % 2 = if t < c then x / 2 ^ (7 - t) % 2 else 0 := by
  obtain ⟨n, rfl⟩ := Int.eq_ofNat_of_zero_le h0
  have h := top_bit_nat n (by omega) c hc t ht
  unfold top
  have e : ((n : Int) / 2 ^ (8 - c) * 2 ^ (8 - c) / 2 ^ (7 - t) % 2) = ((n / 2 ^ (8 - c) * 2 ^ (8 - c) / 2 ^ (7 - t) % 2 : Nat) : Int) := by
    simp only [Int.natCast_emod, Int.natCast_ediv, Int.natCast_mul, Int.natCast_pow]; rfl
  have e2 : ((n : Int) / 2 ^ (7 - t) % 2) = ((n / 2 ^ (7 - t) % 2 : Nat) : Int) := by
    simp only [Int.natCast_emod, Int.natCast_ediv, Int.natCast_pow]; rfl
  rw [e, e2, h]
  split <;> rfl
theorem byte_bits : ∀ x, x < 256 → x = x / 128 % 2 * 128 + x / 64 % 2 * 64 + x / 32 % 2 * 32 + x / 16 % 2 * 16 + x / 8 % 2 * 8 + x / 4 % 2 * 4 + x / 2 % 2 * 2 + x % 2 := by decide +kernel
theorem byte_ext {x y : Int} (h0 : 0 ≤ x) (h1 : x ≤ 255) (g0 : 0 ≤ y) (g1 : y ≤ 255) (h : ∀ t : Nat, t < 8 → x / 2 ^ (7 - t) % 2 = y / 2 ^ (7 - t) % 2) : x = y := by
  have a0 := h 0 (by omega)
  have a1 := h 1 (by omega)
  have a2 := h 2 (by omega)
  have a3 := h 3 (by omega)
  have a4 := h 4 (by omega)
  have a5 := h 5 (by omega)
  have a6 := h 6 (by omega)
  have a7 := h 7 (by omega)
  simp only [show ((2 : Int) ^ (7 - 0)) = 128 by decide, show ((2 : Int) ^ (7 - 1)) = 64 by decide, show ((2 : Int) ^ (7 - 2)) = 32 by decide, show ((2 : Int) ^ (7 - 3)) = 16 by decide, show ((2 : Int) ^ (7 - 4)) = 8 by decide, show ((2 : Int) ^ (7 - 5)) = 4 by decide, show ((2 : Int) ^ (7 - 6)) = 2 by decide, show ((2 : Int) ^ (7 - 7)) = 1 by decide] at a0 a1 a2 a3 a4 a5 a6 a7
  omega
theorem nth_maskL (l : Int) {a : List Int} {q : Nat} (h : q < a.length) : nth (maskL l a) q = top (nth a q) (keep l q).toNat := by simp [nth, maskL, h]
theorem bit_mask {l : Int} {a : List Int} {j : Nat} (ha : IsAddr a) (hj : j < 128) : bitAt (maskL l a) j = if (j : Int) < l then bitAt a j else 0 := by
  have hq : j / 8 < 16 := by omega
  have hr := ha.2 _ (nth_mem (xs := a) (k := j / 8) (by rw [ha.1]; exact hq))
  unfold bitAt
  rw [nth_maskL l (by rw [ha.1]; exact hq), top_bit hr.1 hr.2 (by have := keep_range l (j / 8); omega) (Nat.mod_lt _ (by omega))]
  have e : (j % 8 < (keep l (j / 8)).toNat) ↔ (j : Int) < l := by unfold keep; omega
  by_cases h : (j : Int) < l
  · rw [if_pos h, if_pos (e.2 h)]
  · rw [if_neg h, if_neg (fun x => h (e.1 x))]
theorem addr_ext {a b : List Int} (ha : IsAddr a) (hb : IsAddr b) (h : ∀ j, j < 128 → bitAt a j = bitAt b j) : a = b := by
  apply List.ext_getElem (by rw [ha.1, hb.1])
  intro i hi hi2
  have hi16 : i < 16 := by rw [ha.1] at hi; exact hi
  have e1 : a[i] = nth a i := by simp [nth, hi]
  have e2 : b[i] = nth b i := by simp [nth, hi2]
  rw [e1, e2]
  have r1 := ha.2 _ (nth_mem hi)
  have r2 := hb.2 _ (nth_mem hi2)
  refine byte_ext r1.1 r1.2 r2.1 r2.2 fun t ht => ?_
  have := h (8 * i + t) (by omega)
  unfold bitAt at this
  rwa [show (8 * i + t) / 8 = i by omega, show (8 * i + t) % 8 = t by omega] at this
/-- a, masked to l bits already, is b masked exactly if their first bits are the same. -/
theorem mask_eq_iff {l : Int} {a b : List Int} (ha : IsAddr a) (hb : IsAddr b) (hm : maskL l a = a) : maskL l b = a ↔ ∀ j : Nat, (j : Int) < l → j < 128 → bitAt a j = bitAt b j := by
  constructor
  · intro h j hj hj2
    have := bit_mask (l := l) hb hj2
    rw [h, if_pos hj] at this
    exact this
  · intro h
    refine addr_ext (maskL_addr l hb) ha fun j hj => ?_
    rw [bit_mask hb hj]
    by_cases hl : (j : Int) < l
    · rw [if_pos hl, h j hl hj]
    · rw [if_neg hl]
      have := bit_mask (l := l) ha hj
      rw [hm, if_neg hl] at this
      exact this.symm
def cov (f l : Int) (a : List Int) (f' l' : Int) (b : List Int) : Bool := pfxOk f l a && (pfxOk f' l' b && (decide (f = f') && (decide (l ≤ l') && decide (maskL l b = a))))
theorem pfxOk_mask {f l : Int} {a : List Int} (h : pfxOk f l a = true) : maskL l a = a := by
  simp only [pfxOk, Bool.and_eq_true, decide_eq_true_eq] at h
  exact h.2
theorem cov_self (f l : Int) (a : List Int) : cov f l a f l a = pfxOk f l a := by
  unfold cov
  by_cases h : pfxOk f l a = true
  · rw [h, pfxOk_mask h]; simp
  · have : pfxOk f l a = false := by simpa using h
    rw [this]; rfl
theorem cov_trans {f l f' l' f'' l'' : Int} {a b c : List Int} (ha : IsAddr a) (hb : IsAddr b) (hc : IsAddr c) (h1 : cov f l a f' l' b = true) (h2 : cov f' l' b f'' l'' c = true) : cov f l a f'' l'' c = true := by
  simp only [cov, Bool.and_eq_true, decide_eq_true_eq] at h1 h2 ⊢
  obtain ⟨k1, k2, rfl, e1, m1⟩ := h1
  obtain ⟨_, k3, rfl, e2, m2⟩ := h2
  refine ⟨k1, k3, rfl, by omega, ?_⟩
  have ma := pfxOk_mask k1
  rw [mask_eq_iff ha hc ma]
  intro j hj hj2
  rw [(mask_eq_iff ha hb ma).1 m1 j hj hj2, (mask_eq_iff hb hc (pfxOk_mask k2)).1 m2 j (by omega) hj2]
end Go.Proofs.YtaopinecidddkaaDoor

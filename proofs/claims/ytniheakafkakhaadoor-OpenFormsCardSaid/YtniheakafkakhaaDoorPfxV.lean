/- prefix.Valid, peerageref02.Valid -/
import Derived.Test.YtniheakafkakhaaDoorPfx
import Derived.Deep.MidRow
import Derived.Deep.QuietTactic
import Derived.BigQuiet
namespace Go.Proofs.YtniheakafkakhaaDoor
open Go.RowKit

/-- The cells of a prefix. -/
def pfx (f l : Int) (a : List Int) : Array Value := #[.int .i64 f, .int .i64 l] ++ arr a
theorem pfx_size {f l : Int} {a : List Int} (h : a.length = 16) : (pfx f l a).size = 18 := by simp [pfx, arr_size, h]
theorem pfx_0 (f l : Int) (a : List Int) : (pfx f l a)[0]? = some (.int .i64 f) := by unfold pfx; rw [Array.getElem?_append_left (by simp)]; rfl
theorem pfx_1 (f l : Int) (a : List Int) : (pfx f l a)[1]? = some (.int .i64 l) := by unfold pfx; rw [Array.getElem?_append_left (by simp)]; rfl
theorem pfx_at (f l : Int) (a : List Int) (j : Nat) : (pfx f l a)[2 + j]? = (arr a)[j]? := by
  unfold pfx
  rw [Array.getElem?_append_right (by simp)]
  simp
theorem pfx_range {w : World} {g : Nat} {t : TypeId} {f l : Int} {a : List Int} (h : Own w g t (pfx f l a)) : w.rangeAt g 2 (a.map (Value.int .u8)) := by
  intro j v hv
  refine h.cell ?_
  rw [pfx_at]
  simpa [arr] using hv

theorem byte_top : ∀ x, x < 256 → ∀ c, c ≤ 8 → (x / 2 ^ (8 - c) * 2 ^ (8 - c) = x ↔ ∀ t, t < 8 → c ≤ t → x / 2 ^ (7 - t) % 2 = 0) := by decide +kernel
theorem top_iff (x : Int) (c : Nat) (h0 : 0 ≤ x) (h1 : x ≤ 255) (hc : c ≤ 8) : top x c = x ↔ ∀ t, t < 8 → c ≤ t → x / 2 ^ (7 - t) % 2 = 0 := by
  obtain ⟨n, rfl⟩ := Int.eq_ofNat_of_zero_le h0
  have h := byte_top n (by omega) c hc
  have e1 : top (n : Int) c = ((n / 2 ^ (8 - c) * 2 ^ (8 - c) : Nat) : Int) := by
    unfold top; rw [Int.natCast_mul, Int.natCast_ediv, Int.natCast_pow]; rfl
  have e2 : ∀ t, (n : Int) / 2 ^ (7 - t) % 2 = ((n / 2 ^ (7 - t) % 2 : Nat) : Int) := fun t => by
    rw [Int.natCast_emod, Int.natCast_ediv, Int.natCast_pow]; rfl
  constructor
  · intro ht t ht8 hct
    rw [e2, h.1 (by rw [e1] at ht; exact_mod_cast ht) t ht8 hct]; rfl
  · intro hall
    rw [e1, h.2 (fun t ht8 hct => by have := hall t ht8 hct; rw [e2] at this; exact_mod_cast this)]
theorem mask_iff (a : List Int) (l : Int) (ha : IsAddr a) : maskL l a = a ↔ ∀ j : Nat, l ≤ j → j < 128 → bitAt a j = 0 := by
  have key : maskL l a = a ↔ ∀ i, i < 16 → top (nth a i) (keep l i).toNat = nth a i := by
    constructor
    · intro h i hi
      have h2 : nth (maskL l a) i = nth a i := by rw [h]
      have hil : i < a.length := by rw [ha.1]; exact hi
      have e : nth (maskL l a) i = top (nth a i) (keep l i).toNat := by simp [nth, maskL, hil]
      rw [← e]; exact h2
    · intro h
      apply List.ext_getElem (maskL_len l a)
      intro i h1 h2
      have := h i (by rw [ha.1] at h2; exact h2)
      simpa [nth, maskL, h2] using this
  rw [key]
  constructor
  · intro h j hj hj8
    have hr := ha.at_ (i := j / 8) (by omega)
    have hk := keep_range l (j / 8)
    have h1 := (top_iff _ _ hr.2.1 hr.2.2 (by omega)).1 (h (j / 8) (by omega)) (j % 8) (by omega) (by unfold keep; omega)
    exact h1
  · intro h i hi
    have hr := ha.at_ hi
    have hk := keep_range l i
    rw [top_iff _ _ hr.2.1 hr.2.2 (by omega)]
    intro t ht hct
    have h1 := h (8 * i + t) (by unfold keep at hct; omega) (by omega)
    unfold bitAt at h1
    rw [show (8 * i + t) / 8 = i by omega, show (8 * i + t) % 8 = t by omega] at h1
    exact h1
/-- A valid prefix. -/
def pfxOk (f l : Int) (a : List Int) : Bool := lenOk f l && decide (maskL l a = a)

end Go.Proofs.YtniheakafkakhaaDoor

/- Bits of an int: what & and ^ make of the lowest byte -/
import Derived.Test.YtmcnpkfeipelgaaGreatDoorNum
namespace Go.Proofs.YtmcnpkfeipelgaaGreatDoor
open Go.RowKit

/-- The lowest byte of an int. -/
def low8 (x : Int) : Nat := (x % 256).toNat
theorem low8_lt (x : Int) : low8 x < 256 := by unfold low8; omega
theorem low8_byte {x : Int} (h0 : 0 ≤ x) (h1 : x ≤ 255) : (low8 x : Int) = x := by unfold low8; omega
theorem ofInt_low (x : Int) : (BitVec.ofInt 64 x).toNat % 256 = low8 x := by
  rw [BitVec.toNat_ofInt]
  unfold low8
  rw [show ((2 ^ 64 : Nat) : Int) = 18446744073709551616 from rfl]
  omega
theorem ofInt_small {m : Nat} (h : m < 256) : (BitVec.ofInt 64 (m : Int)).toNat = m := by
  rw [BitVec.ofInt_natCast, BitVec.toNat_ofNat]; exact Nat.mod_eq_of_lt (by omega)
theorem and_low8 (n m : Nat) (hm : m < 256) : n &&& m = (n % 256) &&& m := by
  have h1 : (n &&& m) % 2 ^ 8 = (n % 2 ^ 8) &&& (m % 2 ^ 8) := Nat.and_mod_two_pow
  have h2 : n &&& m ≤ m := Nat.and_le_right
  rw [Nat.mod_eq_of_lt (show n &&& m < 2 ^ 8 by omega), Nat.mod_eq_of_lt (show m < 2 ^ 8 by omega)] at h1
  exact h1
theorem and_i64 (x : Int) (m : Nat) (hm : m < 256) : bits BinOp.and IntKind.i64 x (m : Int) = ((low8 x &&& m : Nat) : Int) := by
  show IntKind.i64.wrap ((BitVec.ofInt 64 x &&& BitVec.ofInt 64 (m : Int)).toNat : Int) = _
  rw [BitVec.toNat_and, ofInt_small hm, and_low8 _ m hm, ofInt_low]
  have h2 : low8 x &&& m ≤ m := Nat.and_le_right
  rw [IntKind.wrap_i64]
  omega
theorem or_i64 (a m : Nat) (ha : a < 256) (hm : m < 256) : bits BinOp.or IntKind.i64 (a : Int) (m : Int) = ((a ||| m : Nat) : Int) := by
  show IntKind.i64.wrap ((BitVec.ofInt 64 (a : Int) ||| BitVec.ofInt 64 (m : Int)).toNat : Int) = _
  rw [BitVec.toNat_or, ofInt_small hm, ofInt_small ha]
  have h2 : a ||| m < 2 ^ 8 := Nat.or_lt_two_pow (by omega) (by omega)
  rw [IntKind.wrap_i64]
  omega
theorem xor_low8 (x : Int) (k : Nat) (hk : k < 256) : low8 (bits BinOp.xor IntKind.i64 x (k : Int)) = low8 x ^^^ k := by
  show low8 (IntKind.i64.wrap ((BitVec.ofInt 64 x ^^^ BitVec.ofInt 64 (k : Int)).toNat : Int)) = _
  rw [BitVec.toNat_xor, ofInt_small hk]
  have h1 : ((BitVec.ofInt 64 x).toNat ^^^ k) % 2 ^ 8 = ((BitVec.ofInt 64 x).toNat % 2 ^ 8) ^^^ (k % 2 ^ 8) := Nat.xor_mod_two_pow
  rw [Nat.mod_eq_of_lt (show k < 2 ^ 8 by omega), show (2 : Nat) ^ 8 = 256 from rfl, ofInt_low] at h1
  rw [← h1]
  unfold low8
  rw [IntKind.wrap_i64]
  omega
theorem keep_masks : ∀ a, a < 256 → ∀ k, k < 32 → (a ^^^ k) &&& 128 = a &&& 128 ∧ (a ^^^ k) &&& 192 = a &&& 192 ∧ (a ^^^ k) &&& 32 = a &&& 32 := by decide +kernel
theorem and31 (x : Int) : ∃ k : Nat, k < 32 ∧ bits BinOp.and IntKind.i64 x 31 = (k : Int) := by
  refine ⟨low8 x &&& 31, ?_, and_i64 x 31 (by omega)⟩
  have : low8 x &&& 31 ≤ 31 := Nat.and_le_right
  omega
/-- The two class bits together say what each of them says. -/
theorem class_masks : ∀ a, a < 256 → ∀ c, c = 64 ∨ c = 128 ∨ c = 192 → (a &&& 192 = c ↔ (decide (a &&& 128 ≠ 0) = decide (c &&& 128 ≠ 0) ∧ decide (a &&& 64 ≠ 0) = decide (c &&& 64 ≠ 0))) := by
  intro a ha c hc
  rcases hc with rfl | rfl | rfl
  · revert a; decide +kernel
  · revert a; decide +kernel
  · revert a; decide +kernel
end Go.Proofs.YtmcnpkfeipelgaaGreatDoor

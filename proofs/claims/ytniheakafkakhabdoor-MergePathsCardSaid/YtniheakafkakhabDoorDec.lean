/- peerageref02.digits at base 10 -/
import Derived.Test.YtniheakafkakhabDoorTen
import Derived.IntWalk
namespace Go.Proofs.YtniheakafkakhabDoor
open Go.RowKit Go.Sort

/-- A digit. -/
def hexD (k : Nat) : UInt8 := if k < 10 then UInt8.ofNat (48 + k) else UInt8.ofNat (87 + k)
theorem ext_digitN : ∀ k, k < 16 → ByteArray.extract ⟨#[48, 49, 50, 51, 52, 53, 54, 55, 56, 57, 97, 98, 99, 100, 101, 102]⟩ k (k + 1) = ⟨#[hexD k]⟩ := by decide +kernel
theorem ext_digit (d : Int) (h0 : 0 ≤ d) (h1 : d < 16) : ByteArray.extract ⟨#[48, 49, 50, 51, 52, 53, 54, 55, 56, 57, 97, 98, 99, 100, 101, 102]⟩ d.toNat (d + 1).toNat = ⟨#[hexD d.toNat]⟩ := by
  have e : (d + 1).toNat = d.toNat + 1 := by omega
  rw [e]
  exact ext_digitN _ (by omega)
theorem ba_append (s t : List UInt8) : (⟨s.toArray⟩ ++ ⟨t.toArray⟩ : ByteArray) = ⟨(s ++ t).toArray⟩ := by
  apply ByteArray.ext
  simp
theorem ba_cons (x : UInt8) (t : List UInt8) : (⟨#[x]⟩ ++ ⟨t.toArray⟩ : ByteArray) = ⟨(x :: t).toArray⟩ := ba_append [x] t
theorem dg_range (b n : Int) (_h0 : 0 ≤ n) (hb : 0 < b) : 0 ≤ n % b ∧ n % b < b := ⟨Int.emod_nonneg _ (by omega), Int.emod_lt_of_pos _ hb⟩
def decDigits (n : Nat) : List UInt8 := Lib.decDigits n
def decPre (k : Nat) : List UInt8 := if k < 10 then [] else Lib.decDigits (k / 10)
theorem decPre_small {k : Nat} (h : k < 10) : decPre k = [] := if_pos h
theorem decPre_step (k : Nat) : decDigits k = decPre k ++ [hexD (k % 10)] := by
  unfold decDigits decPre hexD
  rw [if_pos (Nat.mod_lt _ (by omega))]
  by_cases h : k < 10
  · rw [if_pos h, Lib.decDigits_one h, Nat.mod_eq_of_lt h]; rfl
  · rw [if_neg h]
    conv => lhs; unfold Lib.decDigits
    rw [dif_neg h]
theorem decPre_len {n : Int} {k : Nat} {t : List UInt8} (h : decDigits n.toNat = decPre k ++ t) (h1 : n ≤ 9223372036854775807) : t.length ≤ 19 := by
  have := dec_len h1
  unfold decDigits at h
  rw [h, List.length_append] at this
  omega
end Go.Proofs.YtniheakafkakhabDoor

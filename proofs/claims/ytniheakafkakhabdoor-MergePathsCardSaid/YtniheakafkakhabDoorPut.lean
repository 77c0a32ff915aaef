/- octet.Put, peerageref01.Put: the bytes of a number -/
import Derived.Test.YtniheakafkakhabDoorNum
import Derived.Handy
namespace Go.Proofs.YtniheakafkakhabDoor
open Go.RowKit

/-- A number as k bytes, the highest first. -/
def digitsOf (k : Nat) (x : Int) : List Int := (List.range k).map fun i => x / 256 ^ (k - 1 - i) % 256
theorem digitsOf_len (k : Nat) (x : Int) : (digitsOf k x).length = k := by simp [digitsOf]
theorem digitsOf_range (k : Nat) (x : Int) : ∀ y ∈ digitsOf k x, 0 ≤ y ∧ y ≤ 255 := by
  intro y hy
  obtain ⟨i, _, rfl⟩ := List.mem_map.1 hy
  omega
theorem digitsOf_1 (x : Int) : digitsOf 1 x = [x % 256] := by simp [digitsOf, List.range_succ]
theorem digitsOf_2 (x : Int) : digitsOf 2 x = [x / 256 % 256, x % 256] := by simp [digitsOf, List.range_succ]
theorem digitsOf_3 (x : Int) : digitsOf 3 x = [x / 65536 % 256, x / 256 % 256, x % 256] := by simp [digitsOf, List.range_succ]
theorem digitsOf_4 (x : Int) : digitsOf 4 x = [x / 16777216 % 256, x / 65536 % 256, x / 256 % 256, x % 256] := by simp [digitsOf, List.range_succ]
theorem and_byte (a : Int) (h0 : 0 ≤ a) (h1 : a < 4294967296) : bits BinOp.and IntKind.u32 a 255 = a % 256 := by
  rw [u32_and _ _ h0 h1 (by omega) (by omega)]
  rw [show (255 : Int).toNat = 255 from rfl, nat_mask8]
  omega

theorem digitsOf_step {k : Nat} (x : Int) {j : Nat} (h : j < k) : (digitsOf k x).take (k - 1 - j + 1) = (digitsOf k x).take (k - 1 - j) ++ [x / 256 ^ j % 256] := by
  have hl : k - 1 - j < (digitsOf k x).length := by rw [digitsOf_len]; omega
  rw [List.take_add_one, List.getElem?_eq_getElem hl]
  simp only [digitsOf, List.getElem_map, List.getElem_range, Option.toList]
  rw [show k - 1 - (k - 1 - j) = j by omega]
theorem pow_byte (j : Int) : (2 : Int) ^ (8 * j).toNat = 256 ^ j.toNat := by
  rw [show (8 * j).toNat = 8 * j.toNat by omega, Int.pow_mul]; rfl
theorem byte_at (x j : Int) (h0 : 0 ≤ x) (h1 : x < 4294967296) : bits BinOp.and IntKind.u32 (x / 2 ^ (8 * j).toNat) 255 % 256 = x / 256 ^ j.toNat % 256 := by
  rw [pow_byte, and_byte, Int.emod_emod_of_dvd _ (by omega : (256 : Int) ∣ 256)]
  · exact Int.ediv_nonneg h0 (Int.pow_nonneg (by omega))
  · exact Int.lt_of_le_of_lt (Int.ediv_le_self _ h0) h1
theorem own_val {w : World} {base : Nat} {e : TypeId} {size n : Nat} {v : Value} {xs : List Value} (h : w.ownsRow base e size v n xs) : ∃ A c, v = .slice A n c ∧ n ≤ c ∧ Shows w w.heap.size A xs := by
  have h' := h
  rcases h'.2 with ⟨rfl, rfl⟩ | ⟨g, cap, cur, rfl, _, _, hc, _⟩
  · exact ⟨none, 0, rfl, Nat.le_refl _, Shows.of_own h⟩
  · exact ⟨some ⟨g, 0, none⟩, cap, rfl, hc, Shows.of_own h⟩
theorem one1 {v : Value} (h : v.oneCell' = true) : ∀ u ∈ [v], u.oneCell' = true := by intro u hu; simp at hu; subst hu; exact h
theorem own_base {w : World} {base : Nat} {e : TypeId} {size n : Nat} {v : Value} {xs : List Value} (h : w.ownsRow base e size v n xs) : ∀ j, v.ownBlock = some j → base ≤ j := fun j hj => (h.lt j hj).1

end Go.Proofs.YtniheakafkakhabDoor

/- basic.Address and its reference -/
import Derived.Test.YtecbbjdcnlocdaaDoorFmt
import Derived.Test.YtecbbjdcnlocdaaDoorDec
namespace Go.Proofs.YtecbbjdcnlocdaaDoor
open Go.RowKit Go.Sort

set_option maxRecDepth 100000 in
theorem sl_strA : SliceOf Tryd.prog 67 9 1 16 := SliceOf.mk Tryd.underlying67 (z := .string ⟨#[]⟩) (by kernel_rfl) rfl (by decide)
/-- The first words of an address. -/
def wAdr (a : List Int) (k : Nat) : List ByteArray := (a.take k).map decB
theorem wAdr_len {a : List Int} {k : Nat} (h : k ≤ a.length) : (wAdr a k).length = k := by simp [wAdr]; omega
theorem wAdr_step {a : List Int} {k : Nat} (hk : k < a.length) : wAdr a (k + 1) = wAdr a k ++ [decB (nth a k)] := by
  unfold wAdr
  rw [take_nth hk, List.map_append]
  rfl
/-- The text of an address. -/
def adrB (n : Int) : ByteArray := joinB (wAdr (digitsOf 4 n) 4) [46]
theorem adr_range (n : Int) {k : Nat} (hk : k < 4) : 0 ≤ nth (digitsOf 4 n) k ∧ nth (digitsOf 4 n) k ≤ 255 := digitsOf_range 4 n _ (nth_mem (by rw [digitsOf_len]; exact hk))
/-- The first words of an address, with dots. -/
def jAdr (D : List Int) (k : Nat) : ByteArray := joinB (wAdr D k) [46]
theorem jAdr_zero (D : List Int) : jAdr D 0 = ⟨#[]⟩ := rfl
theorem lib_join_snoc (sep : List UInt8) : ∀ (xs : List (List UInt8)) (y : List UInt8), xs ≠ [] → Lib.join (xs ++ [y]) sep = Lib.join xs sep ++ sep ++ y
  | [], _, h => absurd rfl h
  | [x], y, _ => by simp [Lib.join]
  | x :: z :: r, y, _ => by
    have := lib_join_snoc sep (z :: r) y (by simp)
    simp [Lib.join] at this ⊢
    rw [this]
theorem jAdr_one {D : List Int} (h : 0 < D.length) : jAdr D 1 = ⟨#[]⟩ ++ decB (nth D 0) := by
  unfold jAdr joinB
  rw [wAdr_step h]
  apply ByteArray.ext
  simp [wAdr, Lib.join_one]
theorem jAdr_step {D : List Int} {k : Nat} (h : k < D.length) (h1 : 1 ≤ k) : jAdr D (k + 1) = jAdr D k ++ ⟨#[46]⟩ ++ decB (nth D k) := by
  unfold jAdr joinB
  rw [wAdr_step h, List.map_append]
  have hne : (wAdr D k).map (fun x : ByteArray => x.data.toList) ≠ [] := by
    intro e
    have := congrArg List.length e
    rw [List.length_map, wAdr_len (by omega)] at this
    simp at this
    omega
  rw [show [decB (nth D k)].map (fun x : ByteArray => x.data.toList) = [(decB (nth D k)).data.toList] from rfl, lib_join_snoc _ _ _ hne]
  apply ByteArray.ext
  simp
theorem jAdr_size {D : List Int} (hr : ∀ x ∈ D, 0 ≤ x ∧ x ≤ 255) {k : Nat} (hk : k ≤ 4) : (jAdr D k).size ≤ 80 := by
  have h := joinB_size (k := 19) (s := 1) (xs := wAdr D k) (sep := [46]) (by
    intro x hx
    obtain ⟨y, hy, rfl⟩ := List.mem_map.1 hx
    have := hr y (List.mem_of_mem_take hy)
    exact decB_size (by omega)) (by simp)
  have hl : (wAdr D k).length ≤ 4 := by unfold wAdr; rw [List.length_map, List.length_take]; omega
  unfold jAdr
  have := Nat.mul_le_mul (Nat.le_refl 20) hl
  omega
end Go.Proofs.YtecbbjdcnlocdaaDoor

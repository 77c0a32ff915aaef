/- Reader.Take, Part, Number -/
import Derived.Test.YtniheakafkakhabDoorRdr
namespace Go.Proofs.YtniheakafkakhabDoor
open Go.RowKit

/-- The number of some bytes, the first one the highest. -/
def big (xs : List Int) : Int := xs.foldl (fun a x => a * 256 + x) 0
theorem big_snoc (xs : List Int) (x : Int) : big (xs ++ [x]) = big xs * 256 + x := by simp [big]
theorem big_range : ∀ (n : Nat) (xs : List Int), xs.length = n → (∀ x ∈ xs, 0 ≤ x ∧ x ≤ 255) → 0 ≤ big xs ∧ big xs < 256 ^ n := by
  intro n
  induction n with
  | zero => intro xs h _; obtain rfl := List.eq_nil_of_length_eq_zero h; simp [big]
  | succ n ih =>
    intro xs h hr
    have hne : xs ≠ [] := by rintro rfl; simp at h
    have e := List.dropLast_concat_getLast hne
    have h1 := ih xs.dropLast (by simp [h]) (fun x hx => hr x (List.dropLast_subset _ hx))
    have h2 := hr _ (List.getLast_mem hne)
    rw [← e, big_snoc, Int.pow_succ]
    omega
theorem big_take_lt {xs : List Int} {m : Nat} (j : Nat) (hr : ∀ x ∈ xs, 0 ≤ x ∧ x ≤ 255) (h4 : m ≤ 4) (hj : j < m) : 0 ≤ big ((xs.take m).take j) ∧ big ((xs.take m).take j) < 16777216 := by
  have hlen : ((xs.take m).take j).length ≤ 3 := by simp; omega
  have h := big_range _ ((xs.take m).take j) rfl (fun x hx => hr x (List.mem_of_mem_take (List.mem_of_mem_take hx)))
  generalize ((xs.take m).take j).length = l at h hlen
  match l, hlen with
  | 0, _ => simp at h; omega
  | 1, _ => simp at h; omega
  | 2, _ => simp at h; omega
  | 3, _ => simp at h; omega
theorem or_byte (a x : Int) (h0 : 0 ≤ a) (h1 : a < 16777216) (hx0 : 0 ≤ x) (hx1 : x ≤ 255) : bits BinOp.or IntKind.u32 (a * 256) x = a * 256 + x := by
  rw [u32_or _ _ (by omega) (by omega) hx0 (by omega)]
  rw [nat_join 8 _ _ (by omega) (by omega)]
  omega
end Go.Proofs.YtniheakafkakhabDoor

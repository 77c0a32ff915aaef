/- Segments: Length, Valid, Same on both sides (not segment.Same) -/
import Derived.Test.YtngeldgohijheaaDoorFew
import Derived.Test.YtngeldgohijheaaDoorEq
namespace Go.Proofs.YtngeldgohijheaaDoor
open Go.RowKit

theorem U32s.at_ {w : World} {B n : Nat} {A : Option Addr} {ls : List Int} (h : U32s w B A n ls) {k : Nat} (hk : k < n) : ∃ b o, A = some ⟨b, o, none⟩ ∧ b < B ∧ w.cell? ⟨b, o + k, none⟩ = some (.int .u32 (nth ls k)) :=
  h.2.at_ (k := k) (by rw [List.getElem?_map, nth_some (by rw [← h.1]; exact hk)]; rfl)
theorem sgth_mem {ss : List Sg} {k : Nat} (h : k < ss.length) : sgth ss k ∈ ss := List.mem_of_getElem? (sgth_some h)
theorem take_sgth {ss : List Sg} {k : Nat} (h : k < ss.length) : ss.take (k + 1) = ss.take k ++ [sgth ss k] := by rw [List.take_add_one, sgth_some h]; rfl
def lenS (ss : List Sg) (k : Nat) : Nat := ((ss.take k).map fun s => if s.k = 1 then 1 else if s.k = 2 then s.n else 0).sum
theorem lenS_succ {ss : List Sg} {k : Nat} (h : k < ss.length) : lenS ss (k + 1) = lenS ss k + if (sgth ss k).k = 1 then 1 else if (sgth ss k).k = 2 then (sgth ss k).n else 0 := by
  unfold lenS
  rw [take_sgth h, List.map_append, List.sum_append]
  simp
theorem lenS_le {ss : List Sg} (k : Nat) (h : ∀ s ∈ ss, s.n ≤ 1000) : lenS ss k ≤ 1000 * k := by
  induction k with
  | zero => simp [lenS]
  | succ k ih =>
    by_cases hk : k < ss.length
    · have := h _ (sgth_mem hk)
      rw [lenS_succ hk]
      split
      · omega
      · split <;> omega
    · have e : lenS ss (k + 1) = lenS ss k := by unfold lenS; rw [List.take_of_length_le (by omega), List.take_of_length_le (by omega)]
      omega
/-- Whether all numbers have two bytes. -/
def narB (xs : List Int) : Bool := xs.all fun x => decide (x ≤ 65535)
/-- Whether a segment is valid. -/
def sgOk (wd : Int) (s : Sg) : Bool := decide ((s.k = 1 ∨ s.k = 2) ∧ 1 ≤ s.n ∧ s.n ≤ 255) && (decide (wd ≠ 2) || narB s.xs)
theorem sgall_no {ss : List Sg} {P : Sg → Bool} {k : Nat} (h : k < ss.length) (hp : P (sgth ss k) = false) : ss.all P = false := by
  rw [List.all_eq_false]
  exact ⟨_, sgth_mem h, by simp [hp]⟩
theorem sgall_step {ss : List Sg} {P : Sg → Bool} {k : Nat} (h : k < ss.length) (h0 : (ss.take k).all P = true) (hp : P (sgth ss k) = true) : (ss.take (k + 1)).all P = true := by
  rw [take_sgth h, List.all_append, h0]; simp [hp]
end Go.Proofs.YtngeldgohijheaaDoor

/- segment.Bytes -/
import Derived.Test.YtniheakafkakhabDoorSgB
import Derived.Test.YtniheakafkakhabDoorPile
namespace Go.Proofs.YtniheakafkakhabDoor
open Go.RowKit

/-- The form of a segment, numbers of K bytes. -/
def sgForm (K : Nat) (s : Sg) : List Int := [s.k, (s.n : Int)] ++ s.xs.flatMap (digitsOf K)
def sgsForm (K : Nat) (ss : List Sg) : List Int := ss.flatMap (sgForm K)
theorem sgsForm_step {K : Nat} {ss : List Sg} {k : Nat} (h : k < ss.length) : sgsForm K (ss.take (k + 1)) = sgsForm K (ss.take k) ++ sgForm K (sgth ss k) := by
  unfold sgsForm
  rw [take_sgth h, List.flatMap_append]; simp
theorem digs_len (K : Nat) (xs : List Int) : (xs.flatMap (digitsOf K)).length = K * xs.length := by
  induction xs with
  | nil => simp
  | cons x xs ih => rw [List.flatMap_cons, List.length_append, ih, digitsOf_len, List.length_cons, Nat.mul_add]; omega
theorem digs_step {K : Nat} {xs : List Int} {k : Nat} (h : k < xs.length) : (xs.take (k + 1)).flatMap (digitsOf K) = (xs.take k).flatMap (digitsOf K) ++ digitsOf K (nth xs k) := by
  rw [take_nth h, List.flatMap_append]; simp
theorem sgsForm_len {K : Nat} (hK : K ≤ 4) {ss : List Sg} (h : ∀ s ∈ ss, s.xs.length ≤ 255) : (sgsForm K ss).length ≤ 1022 * ss.length := by
  induction ss with
  | nil => simp [sgsForm]
  | cons s ss ih =>
    have h1 := ih (fun s hs => h s (List.mem_cons_of_mem _ hs))
    have h2 := h s List.mem_cons_self
    have h3 : (sgForm K s).length ≤ 1022 := by
      unfold sgForm
      rw [List.length_append, digs_len]
      have := Nat.mul_le_mul hK h2
      simp only [List.length_cons, List.length_nil]
      omega
    have e : sgsForm K (s :: ss) = sgForm K s ++ sgsForm K ss := by unfold sgsForm; rw [List.flatMap_cons]
    rw [e, List.length_append, List.length_cons]
    omega
theorem sgOk_iff {wd : Int} {s : Sg} : sgOk wd s = true ↔ ((s.k = 1 ∨ s.k = 2) ∧ 1 ≤ s.n ∧ s.n ≤ 255) ∧ (wd = 2 → ∀ x ∈ s.xs, x ≤ 65535) := by
  unfold sgOk narB
  simp only [Bool.and_eq_true, Bool.or_eq_true, decide_eq_true_eq, List.all_eq_true]
  constructor
  · rintro ⟨a, b⟩
    exact ⟨a, fun h => b.resolve_left (fun g => g h)⟩
  · rintro ⟨a, b⟩
    exact ⟨a, by by_cases h : wd = 2
                 · exact .inr (b h)
                 · exact .inl h⟩
theorem pt_two {W : World} {g : Nat} {a b : Int} (h : Own W g 5 #[.int .u8 a, .int .u8 b]) (ha : 0 ≤ a ∧ a ≤ 255) (hb : 0 ≤ b ∧ b ≤ 255) : PT W ⟨some ⟨g, 0, none⟩, 2, 2, [a, b]⟩ :=
  ⟨rfl, by simp; omega, g, rfl, h⟩
theorem pt_digs {W : World} {g K : Nat} {x : Int} (h : Own W g 5 ((digitsOf K x).map (Value.int .u8)).toArray) : PT W ⟨some ⟨g, 0, none⟩, K, K, digitsOf K x⟩ :=
  ⟨(digitsOf_len K x).symm, digitsOf_range K x, g, rfl, h⟩
theorem flat_app (ps : List Part) (q : Part) : flat (ps ++ [q]) = flat ps ++ q.xs := by unfold flat; rw [List.flatMap_append]; simp
end Go.Proofs.YtniheakafkakhabDoor

/- Groups without repetitions -/
import Derived.Test.YtngeldgohijheaaDoorCmM
namespace Go.Proofs.YtngeldgohijheaaDoor
open Go.RowKit

/-- The k-th group of numbers. -/
def chunk (g : Nat) (ls : List Int) (q : Nat) : List Int := (ls.drop (q * g)).take g
def chunks (g : Nat) (ls : List Int) (m : Nat) : List (List Int) := (List.range m).map (chunk g ls)
theorem chunks_succ (g : Nat) (ls : List Int) (m : Nat) : chunks g ls (m + 1) = chunks g ls m ++ [chunk g ls m] := by simp [chunks, List.range_succ]
theorem chunks_len (g : Nat) (ls : List Int) (m : Nat) : (chunks g ls m).length = m := by simp [chunks]
def insC (acc : List (List Int)) (x : List Int) : List (List Int) := if x ∈ acc then acc else acc ++ [x]
/-- Without repetitions. -/
def uqC (L : List (List Int)) : List (List Int) := L.foldl insC []
theorem uqC_snoc (L : List (List Int)) (x : List Int) : uqC (L ++ [x]) = insC (uqC L) x := by simp [uqC]
theorem insC_mem {acc : List (List Int)} {x y : List Int} : y ∈ insC acc x ↔ y ∈ acc ∨ y = x := by
  unfold insC
  split
  · rename_i h
    constructor
    · exact .inl
    · rintro (h1 | rfl)
      · exact h1
      · exact h
  · simp
theorem snoc_ind {α : Type} {p : List α → Prop} (h0 : p []) (h1 : ∀ L x, p L → p (L ++ [x])) : ∀ L, p L := by
  intro L
  have : ∀ n, ∀ L : List α, L.length = n → p L := by
    intro n
    induction n with
    | zero => intro L hL; rw [List.eq_nil_of_length_eq_zero hL]; exact h0
    | succ n ih =>
      intro L hL
      have hne : L ≠ [] := by rintro rfl; simp at hL
      rw [← List.dropLast_concat_getLast hne]
      exact h1 _ _ (ih _ (by rw [List.length_dropLast, hL]; rfl))
  exact this _ L rfl
theorem uqC_mem (L : List (List Int)) (y : List Int) : y ∈ uqC L ↔ y ∈ L := by
  induction L using snoc_ind with
  | h0 => exact Iff.rfl
  | h1 L x ih => rw [uqC_snoc, insC_mem, ih, List.mem_append, List.mem_singleton]
theorem insC_nodup {acc : List (List Int)} {x : List Int} (h : acc.Nodup) : (insC acc x).Nodup := by
  unfold insC
  split
  · exact h
  · rename_i hx
    rw [List.nodup_append]
    refine ⟨h, by simp, ?_⟩
    intro a ha b hb e
    rw [List.mem_singleton] at hb
    subst hb
    subst e
    exact hx ha
theorem uqC_nodup (L : List (List Int)) : (uqC L).Nodup := by
  induction L using snoc_ind with
  | h0 => exact List.nodup_nil
  | h1 L x ih => rw [uqC_snoc]; exact insC_nodup ih
theorem uqC_of_nodup : ∀ (L : List (List Int)), L.Nodup → uqC L = L := by
  intro L
  induction L using snoc_ind with
  | h0 => intro _; rfl
  | h1 L x ih =>
    intro h
    rw [List.nodup_append] at h
    rw [uqC_snoc, ih h.1]
    unfold insC
    rw [if_neg (fun hx => h.2.2 x hx x (by simp) rfl)]
theorem uqC_uqC (L : List (List Int)) : uqC (uqC L) = uqC L := uqC_of_nodup _ (uqC_nodup L)
theorem uqC_len (L : List (List Int)) : (uqC L).length ≤ L.length := by
  induction L using snoc_ind with
  | h0 => exact Nat.le_refl _
  | h1 L x ih =>
    rw [uqC_snoc, List.length_append, List.length_singleton]
    unfold insC
    split
    · omega
    · rw [List.length_append, List.length_singleton]; omega
theorem flat_len {g : Nat} : ∀ {U : List (List Int)}, (∀ x ∈ U, x.length = g) → U.flatten.length = U.length * g
  | [], _ => by simp
  | x :: U, h => by
    rw [List.flatten_cons, List.length_append, h x List.mem_cons_self, flat_len (U := U) (fun y hy => h y (List.mem_cons_of_mem _ hy)), List.length_cons, Nat.succ_mul, Nat.add_comm]
theorem chunk_len {g q : Nat} {ls : List Int} (h : q * g + g ≤ ls.length) : (chunk g ls q).length = g := by unfold chunk; rw [List.length_take, List.length_drop]; omega
theorem chunk_bound {g m q : Nat} {ls : List Int} (h : ls.length = m * g) (hq : q < m) : q * g + g ≤ ls.length := by
  have h3 := Nat.mul_le_mul_right g (show q + 1 ≤ m from hq)
  rw [Nat.succ_mul] at h3
  omega
theorem chunks_lens {g m : Nat} {ls : List Int} (h : ls.length = m * g) {k : Nat} (hk : k ≤ m) : ∀ x ∈ chunks g ls k, x.length = g := by
  intro x hx
  obtain ⟨q, hq, rfl⟩ := List.mem_map.1 hx
  rw [List.mem_range] at hq
  exact chunk_len (chunk_bound h (by omega))
theorem chunks_flat {g : Nat} : ∀ {U : List (List Int)}, (∀ x ∈ U, x.length = g) → chunks g U.flatten U.length = U := by
  intro U
  induction U with
  | nil => intro _; rfl
  | cons x U ih =>
    intro h
    have hx := h x List.mem_cons_self
    have ih' := ih (fun y hy => h y (List.mem_cons_of_mem _ hy))
    unfold chunks at *
    rw [List.length_cons, List.range_succ_eq_map, List.map_cons, List.map_map, List.flatten_cons]
    congr 1
    · unfold chunk
      rw [Nat.zero_mul, List.drop_zero, ← hx, List.take_left]
    · rw [← ih']
      rw [ih']
      conv => rhs; rw [← ih']
      refine List.map_congr_left (fun q _ => ?_)
      show ((x ++ U.flatten).drop (Nat.succ q * g)).take g = (U.flatten.drop (q * g)).take g
      rw [Nat.succ_mul, Nat.add_comm, ← hx, List.drop_append, List.drop_eq_nil_of_le (Nat.le_add_right _ _), List.nil_append]
      simp
/-- Whether a group is there. -/
def hasC (g : Nat) (ls : List Int) (m : Nat) (gs : List Int) : Bool := decide (gs ∈ chunks g ls m)
/-- Tuples without repetitions. -/
def insT (acc : List Tup) (x : Tup) : List Tup := if acc.any (tEq · x) = true then acc else acc ++ [x]
def uqT (L : List Tup) : List Tup := L.foldl insT []
theorem uqT_snoc (L : List Tup) (x : Tup) : uqT (L ++ [x]) = insT (uqT L) x := by simp [uqT]
theorem tEq_refl (x : Tup) : tEq x x = true := by unfold tEq; simp
theorem tEq_trans {x y z : Tup} (h : tEq x y = true) (k : tEq y z = true) : tEq x z = true := by
  unfold tEq at *
  simp only [decide_eq_true_iff] at *
  exact ⟨h.1.trans k.1, h.2.1.trans k.2.1, h.2.2.trans k.2.2⟩
theorem uqT_any (L : List Tup) (x : Tup) : (uqT L).any (tEq · x) = L.any (tEq · x) := by
  induction L using snoc_ind with
  | h0 => rfl
  | h1 L y ih =>
    rw [uqT_snoc, List.any_append, ← ih]
    unfold insT
    split
    · rename_i hy
      cases h : tEq y x
      · simp [h]
      · rw [List.any_eq_true] at hy
        obtain ⟨s, hs, he⟩ := hy
        have : (uqT L).any (tEq · x) = true := List.any_eq_true.2 ⟨s, hs, tEq_trans he h⟩
        simp [this]
    · rw [List.any_append]
theorem uqT_len (L : List Tup) : (uqT L).length ≤ L.length := by
  induction L using snoc_ind with
  | h0 => exact Nat.le_refl _
  | h1 L x ih =>
    rw [uqT_snoc, List.length_append, List.length_singleton]
    unfold insT
    split
    · omega
    · rw [List.length_append, List.length_singleton]; omega
/-- The numbers of a tuple. -/
def tupL (g : Nat) (t : Tup) : List Int := ([t.a, t.b, t.c] : List Int).take g
theorem tupL_at {g : Nat} {ls : List Int} {h : U32L ls} {q : Nat} (hg : g = 1 ∨ g = 2 ∨ g = 3) (hl : q * g + g ≤ ls.length) : tupL g (tupAt g ls h q) = chunk g ls q := by
  unfold tupL chunk
  rcases hg with rfl | rfl | rfl
  · rw [drop_nth (by omega)]
    simp [tupAt]
  · rw [drop_nth (by omega), drop_nth (by omega)]
    simp [tupAt]
  · rw [drop_nth (by omega), drop_nth (by omega), drop_nth (by omega)]
    simp [tupAt]
theorem tEq_at {g : Nat} {ls : List Int} {h : U32L ls} {q r : Nat} (hg : g = 1 ∨ g = 2 ∨ g = 3) (h1 : q * g + g ≤ ls.length) (h2 : r * g + g ≤ ls.length) : tEq (tupAt g ls h q) (tupAt g ls h r) = decide (chunk g ls q = chunk g ls r) := by
  rw [← tupL_at (h := h) hg h1, ← tupL_at (h := h) hg h2, Bool.eq_iff_iff]
  unfold tEq tupL
  rw [decide_eq_true_iff, decide_eq_true_iff]
  rcases hg with rfl | rfl | rfl <;> simp [tupAt]
theorem tups_any {g m : Nat} {ls : List Int} {h : U32L ls} (hg : g = 1 ∨ g = 2 ∨ g = 3) (hl : ls.length = m * g) {k r : Nat} (hk : k ≤ m) (hr : r < m) :
    (tups g ls h k).any (tEq · (tupAt g ls h r)) = decide (chunk g ls r ∈ chunks g ls k) := by
  rw [Bool.eq_iff_iff, List.any_eq_true, decide_eq_true_iff]
  unfold tups chunks
  constructor
  · rintro ⟨s, hs, he⟩
    obtain ⟨q, hq, rfl⟩ := List.mem_map.1 hs
    rw [List.mem_range] at hq
    rw [tEq_at hg (chunk_bound hl (by omega)) (chunk_bound hl hr), decide_eq_true_iff] at he
    exact List.mem_map.2 ⟨q, List.mem_range.2 hq, he⟩
  · intro hm
    obtain ⟨q, hq, he⟩ := List.mem_map.1 hm
    rw [List.mem_range] at hq
    refine ⟨_, List.mem_map.2 ⟨q, List.mem_range.2 hq, rfl⟩, ?_⟩
    rw [tEq_at hg (chunk_bound hl (by omega)) (chunk_bound hl hr), decide_eq_true_iff]
    exact he
theorem uqT_tups {g m : Nat} {ls : List Int} {h : U32L ls} (hg : g = 1 ∨ g = 2 ∨ g = 3) (hl : ls.length = m * g) : ∀ k, k ≤ m → (uqT (tups g ls h k)).map (tupL g) = uqC (chunks g ls k)
  | 0, _ => rfl
  | k + 1, hk => by
    have ih := uqT_tups (h := h) hg hl k (by omega)
    rw [tups_succ, chunks_succ, uqT_snoc, uqC_snoc]
    unfold insT insC
    rw [uqT_any, tups_any hg hl (by omega) (by omega)]
    by_cases hc : chunk g ls k ∈ chunks g ls k
    · rw [if_pos (decide_eq_true hc), if_pos ((uqC_mem _ _).2 hc), ih]
    · rw [if_neg (by rw [decide_eq_false hc]; simp), if_neg (fun hh => hc ((uqC_mem _ _).1 hh)), List.map_append, ih]
      rw [List.map_cons, List.map_nil, tupL_at hg (chunk_bound hl (by omega))]
end Go.Proofs.YtngeldgohijheaaDoor

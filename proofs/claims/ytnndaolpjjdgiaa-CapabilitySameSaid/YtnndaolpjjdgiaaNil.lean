/- Rows of bytes that a walk may write -/
import Derived.Test.YtnndaolpjjdgiaaCat
import Derived.Test.YtnndaolpjjdgiaaApAt
namespace Go.Proofs.Ytnndaolpjjdgiaa
open Go.RowKit

theorem Typed.frozen {w : World} {j : Nat} {t : TypeId} (h : Typed w j t) (i : Nat) : w.frozen? ⟨j, i, none⟩ = false := by
  obtain ⟨cs, h⟩ := h
  exact Own.frozen h i
theorem Typed.setCell {w : World} {j : Nat} {t : TypeId} (h : Typed w j t) (pb po : Nat) (u : Value) : Typed (w.setCell ⟨pb, po, none⟩ u) j t := by
  obtain ⟨cs, h⟩ := h
  by_cases e : j = pb
  · subst e
    exact ⟨cs.setIfInBounds po u, Own.set_ h po u⟩
  · exact ⟨cs, (Below.heap_setCell w ⟨pb, po, none⟩ u j e).trans h⟩
/-- Bytes of whatever value. -/
def ReadB (w : World) (lo hi : Nat) (A : Option Addr) (n : Nat) : Prop := n = 0 ∨ ∃ b o, A = some ⟨b, o, none⟩ ∧ (lo ≤ b ∧ b < hi ∧ Typed w b 5) ∧ ∀ i, i < n → ∃ z, w.cell? ⟨b, o + i, none⟩ = some (.int .u8 z) ∧ 0 ≤ z ∧ z ≤ 255
theorem cell_set_any {w : World} {a p : Addr} {v u : Value} (h : w.cell? a = some v) : (w.setCell p u).cell? a = some (if p = a then u else v) := by
  by_cases e : p = a
  · subst e
    rw [if_pos rfl]
    exact World.cell?_setCell_same _ _ _ h
  · rw [if_neg e]
    exact (World.cell?_setCell_other _ _ _ _ e).trans h
theorem ReadB.set_ {w : World} {lo hi n : Nat} {A : Option Addr} (h : ReadB w lo hi A n) {pb po : Nat} {u : Value} (hp : (∃ t, t ≠ 5 ∧ Typed w pb t) ∨ ∃ y, u = .int .u8 y ∧ 0 ≤ y ∧ y ≤ 255) : ReadB (w.setCell ⟨pb, po, none⟩ u) lo hi A n := by
  rcases h with h0 | ⟨b, o, hA, ⟨h1, h2, h3⟩, hc⟩
  · exact .inl h0
  · refine .inr ⟨b, o, hA, ⟨h1, h2, h3.setCell pb po u⟩, fun i hi => ?_⟩
    obtain ⟨z, hz, hz0, hz1⟩ := hc i hi
    have hs := cell_set_any (p := ⟨pb, po, none⟩) (u := u) hz
    by_cases e : (⟨pb, po, none⟩ : Addr) = ⟨b, o + i, none⟩
    · rw [if_pos e] at hs
      rcases hp with ⟨t, ht, hty⟩ | ⟨y, rfl, hy⟩
      · injection e with e _ _
        exact absurd e (hty.ne h3 ht)
      · exact ⟨y, hs, hy⟩
    · rw [if_neg e] at hs
      exact ⟨z, hs, hz0, hz1⟩

/-- Bytes in rows that the walk may write. -/
def NilI (w4 wr : World) (lo hi : Nat) (rows : List (Option Addr × Nat)) : Prop :=
  Rest w4 wr (fun i => Typed w4 i 5 ∧ lo ≤ i ∧ i < hi) ∧ (∀ r ∈ rows, ReadB w4 lo hi r.1 r.2) ∧ ∀ r ∈ rows, ReadB wr lo hi r.1 r.2
theorem NilI.at_ {w4 wr : World} {lo hi n k : Nat} {A : Option Addr} {rows : List (Option Addr × Nat)} (h : NilI w4 wr lo hi rows) (hr : (A, n) ∈ rows) (hk : k < n) :
    ∃ b o x, A = some ⟨b, o, none⟩ ∧ (b < wr.heap.size ∧ b < hi) ∧ wr.cell? ⟨b, o + k, none⟩ = some (.int .u8 x) ∧ 0 ≤ x ∧ x ≤ 255 ∧ wr.frozen? ⟨b, o + k, none⟩ = false ∧
      ∀ y : Int, 0 ≤ y → y ≤ 255 → NilI w4 (wr.setCell ⟨b, o + k, none⟩ (.int .u8 y)) lo hi rows := by
  obtain ⟨hR, h4, hw⟩ := h
  rcases hw _ hr with h0 | ⟨b, o, hA, ⟨h1, h2, h3⟩, hc⟩
  · have h0' : n = 0 := h0
    omega
  · rcases h4 _ hr with h0 | ⟨b', o', hA', ⟨_, _, h3'⟩, _⟩
    · have h0' : n = 0 := h0
      omega
    · have hA1 : A = some ⟨b, o, none⟩ := hA
      have hA2 : A = some ⟨b', o', none⟩ := hA'
      rw [hA1] at hA2
      cases hA2
      obtain ⟨x, hx, hx0, hx1⟩ := hc k hk
      refine ⟨b, o, x, hA1, ⟨h3.lt, h2⟩, hx, hx0, hx1, h3.frozen _, fun y hy0 hy1 => ⟨?_, h4, fun r hr' => (hw r hr').set_ (.inr ⟨y, rfl, hy0, hy1⟩)⟩⟩
      exact hR.trans (Rest.setCell wr ⟨b, o + k, none⟩ (.int .u8 y)) (fun i _ e => by
        have e' : i = b := e
        subst e'
        exact ⟨h3', h1, h2⟩)
theorem readB_of {w : World} {B lo hi n : Nat} {A : Option Addr} {xs : List Int} (h : Bytes w B A n xs) (ht : ∀ a, A = some a → lo ≤ a.block ∧ a.block < hi ∧ Typed w a.block 5) : ReadB w lo hi A n := by
  rcases Nat.eq_zero_or_pos n with h0 | h0
  · exact .inl h0
  · obtain ⟨b, o, hA, _⟩ := h.at_ h0
    refine .inr ⟨b, o, hA, ht _ hA, fun i hi => ?_⟩
    obtain ⟨b', o', hA', _, hc, hx0, hx1⟩ := h.at_ hi
    rw [hA] at hA'
    cases hA'
    exact ⟨_, hc, hx0, hx1⟩
theorem ReadB.below {w w' : World} {lo hi n : Nat} {A : Option Addr} (h : ReadB w lo hi A n) (k : Below w.heap.size w w') : ReadB w' lo hi A n := by
  rcases h with h0 | ⟨b, o, hA, ⟨h1, h2, h3⟩, hc⟩
  · exact .inl h0
  · have hb := h3.lt
    have R := Rest.of_below k (fun _ => False)
    refine .inr ⟨b, o, hA, ⟨h1, h2, h3.rest R (fun e => e)⟩, fun i hi => ?_⟩
    obtain ⟨z, hz, hz0⟩ := hc i hi
    exact ⟨z, (World.cell?_of_block (a := ⟨b, o + i, none⟩) (R.block b hb (fun e => e))).trans hz, hz0⟩
theorem NilI.below {w4 wr wr' : World} {lo hi : Nat} {rows : List (Option Addr × Nat)} (h : NilI w4 wr lo hi rows) (k : Below wr.heap.size wr wr') : NilI w4 wr' lo hi rows :=
  ⟨h.1.trans (Rest.of_below k (fun _ => False)) (fun _ _ e => e.elim), h.2.1, fun r hr => (h.2.2 r hr).below k⟩
theorem Own.setFar {w : World} {g b o : Nat} {T : TypeId} {cs : Array Value} (h : Own w g T cs) (hb : g ≠ b) (u : Value) : Own (w.setCell ⟨b, o, none⟩ u) g T cs := h.keep (Below.heap_setCell w ⟨b, o, none⟩ u g hb)
end Go.Proofs.Ytnndaolpjjdgiaa

/- SegmentLengths: the walk -/
import Derived.Test.YtniheakafkakhabDoorSgO
import Derived.Test.YtniheakafkakhabDoorSgR
import Derived.Test.YtniheakafkakhabDoorSgL
namespace Go.Proofs.YtniheakafkakhabDoor
open Go.RowKit Go.Sort

theorem le_sumV (f : Sg → Nat) : ∀ {ss : List Sg} {s : Sg}, s ∈ ss → f s ≤ (ss.map f).sum
  | x :: ss, s, h => by
    rw [List.map_cons, List.sum_cons]
    rcases List.mem_cons.1 h with rfl | h
    · omega
    · have := le_sumV f h
      omega
theorem few_lenV {ss : List Sg} (h : fewB ss = true) : ss.length ≤ 50 ∧ ∀ s ∈ ss, s.n ≤ 600 := by
  unfold fewB at h
  have h := of_decide_eq_true h
  refine ⟨h.1, fun s hs => ?_⟩
  have h2 := h.2
  unfold fewTo at h2
  rw [List.take_length] at h2
  have := le_sumV (fun s => min s.n 1000) hs
  omega
theorem TypedV.frozen {w : World} {j : Nat} {t : TypeId} (h : Typed w j t) (i : Nat) : w.frozen? ⟨j, i, none⟩ = false := by
  obtain ⟨cs, h⟩ := h
  exact Own.frozen h i
theorem TypedV.setCell {w : World} {j : Nat} {t : TypeId} (h : Typed w j t) (pb po : Nat) (u : Value) : Typed (w.setCell ⟨pb, po, none⟩ u) j t := by
  obtain ⟨cs, h⟩ := h
  by_cases e : j = pb
  · subst e
    exact ⟨cs.setIfInBounds po u, Own.set_ h po u⟩
  · exact ⟨cs, (Below.heap_setCell w ⟨pb, po, none⟩ u j e).trans h⟩
theorem cell_set_anyV {w : World} {a p : Addr} {v u : Value} (h : w.cell? a = some v) : (w.setCell p u).cell? a = some (if p = a then u else v) := by
  by_cases e : p = a
  · subst e
    rw [if_pos rfl]
    exact World.cell?_setCell_same _ _ _ h
  · rw [if_neg e]
    exact (World.cell?_setCell_other _ _ _ _ e).trans h
/-- Numbers of whatever value, in blocks from lo on. -/
def ReadU (w : World) (lo : Nat) (A : Option Addr) (n : Nat) : Prop := n = 0 ∨ ∃ b o, A = some ⟨b, o, none⟩ ∧ (lo ≤ b ∧ Typed w b 40) ∧ ∀ i, i < n → ∃ z, w.cell? ⟨b, o + i, none⟩ = some (.int .u32 z)
/-- A row of segments whose numbers are of whatever value. -/
def MSeg (w : World) (lo : Nat) (A : Option Addr) (M : List Sg) : Prop :=
  (M = [] ∨ ∃ b o, A = some ⟨b, o, none⟩ ∧ Typed w b 31 ∧ ∀ i s, M[i]? = some s → w.cell? ⟨b, o + i * 2, none⟩ = some (.int .i64 s.k) ∧ w.cell? ⟨b, o + i * 2 + 1, none⟩ = some (.slice s.A s.n s.c)) ∧ ∀ s ∈ M, ReadU w lo s.A s.n
theorem MSeg.set_ {w : World} {lo : Nat} {A : Option Addr} {M : List Sg} (h : MSeg w lo A M) {pb po : Nat} (ht : Typed w pb 40) (z : Int) : MSeg (w.setCell ⟨pb, po, none⟩ (.int .u32 z)) lo A M := by
  obtain ⟨h1, h2⟩ := h
  refine ⟨?_, fun s hs => ?_⟩
  · rcases h1 with h0 | ⟨b, o, hA, hty, hc⟩
    · exact .inl h0
    · have hne := hty.ne ht seg_types
      have far : ∀ q, (w.setCell ⟨pb, po, none⟩ (.int .u32 z)).cell? ⟨b, q, none⟩ = w.cell? ⟨b, q, none⟩ := fun q => World.cell?_setCell_other _ _ _ _ (by simp only [ne_eq, Addr.mk.injEq]; omega)
      exact .inr ⟨b, o, hA, TypedV.setCell hty _ _ _, fun i s hi => ⟨(far _).trans (hc i s hi).1, (far _).trans (hc i s hi).2⟩⟩
  · rcases h2 s hs with h0 | ⟨b, o, hA, ⟨h1, h3⟩, hc⟩
    · exact .inl h0
    · refine .inr ⟨b, o, hA, ⟨h1, TypedV.setCell h3 _ _ _⟩, fun i hi => ?_⟩
      obtain ⟨y, hy⟩ := hc i hi
      have := cell_set_anyV (p := ⟨pb, po, none⟩) (u := .int .u32 z) hy
      split at this
      · exact ⟨_, this⟩
      · exact ⟨_, this⟩
theorem MSeg.below {w w' : World} {lo : Nat} {A : Option Addr} {M : List Sg} (h : MSeg w lo A M) (hb : Below w.heap.size w w') : MSeg w' lo A M := by
  obtain ⟨h1, h2⟩ := h
  refine ⟨?_, fun s hs => ?_⟩
  · rcases h1 with h0 | ⟨b, o, hA, hty, hc⟩
    · exact .inl h0
    · exact .inr ⟨b, o, hA, hty.below hb, fun i s hi => ⟨(hb.cell (p := ⟨b, _, none⟩) hty.lt).trans (hc i s hi).1, (hb.cell (p := ⟨b, _, none⟩) hty.lt).trans (hc i s hi).2⟩⟩
  · rcases h2 s hs with h0 | ⟨b, o, hA, ⟨h1, h3⟩, hc⟩
    · exact .inl h0
    · refine .inr ⟨b, o, hA, ⟨h1, h3.below hb⟩, fun i hi => ?_⟩
      obtain ⟨y, hy⟩ := hc i hi
      exact ⟨y, (hb.cell (p := ⟨b, _, none⟩) h3.lt).trans hy⟩
theorem SRow.mseg {w : World} {base n c : Nat} {A : Option Addr} {M : List Sg} (h : SRow w base (.slice A n c) M) : MSeg w base A M := by
  refine ⟨?_, fun s hs => ?_⟩
  · rcases h.1.2 with ⟨_, h1⟩ | ⟨g, cap, cur, hv, hb, hg, _⟩
    · exact .inl (List.length_eq_zero_iff.1 h1)
    · obtain ⟨A2, c2, hv2, hS⟩ := h.segs
      injection hv with hA _ _
      injection hv2 with hA2 _ _
      rcases hS.2.2 with h0 | ⟨b, o, hA3, _, hc⟩
      · exact .inl h0
      · have e : g = b := by
          rw [hA2, hA3] at hA
          injection hA with hA
          injection hA with hA _ _
          exact hA.symm
        subst e
        exact .inr ⟨g, o, hA2.trans hA3, ⟨cur, hg⟩, hc⟩
  · have hd := h.2 s hs
    rcases Nat.eq_zero_or_pos s.n with h0 | h0
    · exact .inl h0
    · rcases hd.1.2 with ⟨_, h1⟩ | ⟨g, cap, cur, hv, hb, hg, _⟩
      · omega
      · obtain ⟨b, o, hA3, _, _⟩ := hd.u32s.at_ h0
        injection hv with hA _ _
        have e : g = b := by
          rw [hA3] at hA
          injection hA with hA
          injection hA with hA _ _
          exact hA.symm
        subst e
        refine .inr ⟨g, o, hA3, ⟨hb, cur, hg⟩, fun i hi => ?_⟩
        obtain ⟨b', o', hA4, _, hcell⟩ := hd.u32s.at_ hi
        rw [hA3] at hA4
        injection hA4 with hA4
        injection hA4 with e1 e2 _
        rw [← e1, ← e2] at hcell
        exact ⟨_, hcell⟩
theorem lenS_eq : ∀ {M ss : List Sg}, M.map sgK = ss.map narK → (∀ s ∈ M, s.n = s.xs.length) → (∀ s ∈ ss, s.n = s.xs.length) → ∀ k, lenS M k = lenS ss k
  | [], [], _, _, _, k => rfl
  | [], _ :: _, h, _, _, _ => by simp at h
  | _ :: _, [], h, _, _, _ => by simp at h
  | m :: M, s :: ss, h, hM, hS, 0 => by simp [lenS]
  | m :: M, s :: ss, h, hM, hS, k + 1 => by
    rw [List.map_cons, List.map_cons, List.cons.injEq] at h
    have ih := lenS_eq h.2 (fun z hz => hM z (List.mem_cons_of_mem _ hz)) (fun z hz => hS z (List.mem_cons_of_mem _ hz)) k
    unfold lenS at ih ⊢
    rw [List.take_succ_cons, List.take_succ_cons, List.map_cons, List.map_cons, List.sum_cons, List.sum_cons, ih]
    have h1 := h.1
    unfold sgK narK at h1
    simp only [Prod.mk.injEq] at h1
    have e : m.n = s.n := by rw [hM m List.mem_cons_self, hS s List.mem_cons_self, h1.2, List.length_map]
    rw [h1.1, e]
theorem nar_le (x : Int) : nar x ≤ 65535 := by unfold nar; split <;> omega
theorem ok_eq : ∀ {M ss : List Sg}, M.map sgK = ss.map narK → (∀ s ∈ M, s.n = s.xs.length) → (∀ s ∈ ss, s.n = s.xs.length) → M.all (sgOk 2) = ss.all (sgOk 4)
  | [], [], _, _, _ => rfl
  | [], _ :: _, h, _, _ => by simp at h
  | _ :: _, [], h, _, _ => by simp at h
  | m :: M, s :: ss, h, hM, hS => by
    rw [List.map_cons, List.map_cons, List.cons.injEq] at h
    have ih := ok_eq h.2 (fun z hz => hM z (List.mem_cons_of_mem _ hz)) (fun z hz => hS z (List.mem_cons_of_mem _ hz))
    rw [List.all_cons, List.all_cons, ih]
    have h1 := h.1
    unfold sgK narK at h1
    simp only [Prod.mk.injEq] at h1
    have e : m.n = s.n := by rw [hM m List.mem_cons_self, hS s List.mem_cons_self, h1.2, List.length_map]
    have e2 : narB m.xs = true := by
      unfold narB
      rw [h1.2, List.all_eq_true]
      intro x hx
      obtain ⟨y, _, rfl⟩ := List.mem_map.1 hx
      exact decide_eq_true (nar_le y)
    have e3 : sgOk 2 m = sgOk 4 s := by
      unfold sgOk
      rw [h1.1, e, e2]
      simp
    rw [e3]
def GivesV (w : World) (f : Nat) (args : Array Value) (v : Value) : Prop := ∀ W, Below w.heap.size w W → Calls Tryd.prog f args W fun e w' => e = .returned v ∧ Below W.heap.size W w'
end Go.Proofs.YtniheakafkakhabDoor

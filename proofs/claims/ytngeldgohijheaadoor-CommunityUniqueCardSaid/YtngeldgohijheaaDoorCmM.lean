/- Maps keyed by tuples: what a look-up finds, what a store leaves -/
import Derived.Test.YtngeldgohijheaaDoorCmG
import Derived.Maps.OwnIn
import Derived.Maps.Views
import Derived.DeepKeys4
namespace Go.Proofs.YtngeldgohijheaaDoor
open Go.RowKit Go.Maps

set_option maxRecDepth 100000 in
theorem tup_under : Tryd.prog.underlying 70 = some (.array 3 24) := Tryd.underlying70
set_option maxRecDepth 100000 in
theorem tup_cellsOf : Tryd.prog.cellsOf 70 = 3 := by kernel_rfl
set_option maxRecDepth 100000 in
theorem u32_cellsOf : Tryd.prog.cellsOf 24 = 1 := by kernel_rfl
set_option maxRecDepth 100000 in
theorem laidOut9 : laidOutB Tryd.prog = true := by kernel_rfl
set_option maxRecDepth 100000 in
theorem tup_row : (70 : TypeId) < Tryd.prog.types.size := of_decide_eq_true (by kernel_rfl)
set_option maxRecDepth 100000 in
theorem tup_keyed : Keyed Tryd.prog 70 := Keyed.of_law (deep_law_laid laidOut9 (m := 2) (by omega) tup_row (by kernel_rfl) (by rw [tup_under]))
def tupV (t : Tup) : Value := .agg #[.int .u32 t.a, .int .u32 t.b, .int .u32 t.c]
theorem wf_u32_mk {x : Int} (h : 0 ≤ x ∧ x < 4294967296) : (Lit.int .u32 x).wf = true := by
  simp only [Lit.wf, Bool.and_eq_true, decide_eq_true_eq]
  have h1 : IntKind.u32.min = 0 := rfl
  have h2 : IntKind.u32.max = 4294967295 := rfl
  omega
set_option maxRecDepth 100000 in
theorem tup_key (t : Tup) : ∃ kl, keyOf Tryd.prog 70 (tupV t) = some kl := by
  obtain ⟨m, hm⟩ : ∃ m, Tryd.prog.types.size = m + 1 := ⟨_, (Nat.succ_pred (Nat.ne_of_gt (Nat.lt_of_le_of_lt (Nat.zero_le _) tup_row))).symm⟩
  have h1 : Tryd.prog.keyType 70 = true := by kernel_rfl
  have h2 : (tupV t).formed Tryd.prog 70 = true := by
    unfold tupV
    simp [Value.formed, tup_cellsOf]
  have w1 := wf_u32_mk t.ha
  have w2 := wf_u32_mk t.hb
  have w3 := wf_u32_mk t.hc
  unfold keyOf
  rw [tup_under]
  dsimp only
  rw [h1, h2]
  simp only [Bool.and_self, if_true]
  rw [hm]
  have e : ∀ x : Int, (Lit.int .u32 x).wf = true → Tryd.prog.keyLits (m + 1) 24 [.int .u32 x] = some [.int .u32 x] := fun x hx => by
    unfold Program.keyLits
    simp [Tryd.underlying24, hx]
  have e3 : Tryd.prog.keyLits (m + 1 + 1) 70 (tupV t).cells.toList = some [.int .u32 t.a, .int .u32 t.b, .int .u32 t.c] := by
    unfold Program.keyLits
    unfold tupV
    simp [tup_cellsOf, u32_cellsOf, Value.cells, List.range_succ, e _ w1, e _ w2, e _ w3]
  rw [e3]
  exact ⟨_, rfl⟩
noncomputable def kt (t : Tup) : Lit := (keyOf Tryd.prog 70 (tupV t)).getD (.bool false)
set_option maxRecDepth 100000 in
theorem kt_some (t : Tup) : keyOf Tryd.prog 70 (tupV t) = some (kt t) := by
  obtain ⟨kl, h⟩ := tup_key t
  unfold kt
  rw [h]
  rfl
def tEq (s t : Tup) : Bool := decide (s.a = t.a ∧ s.b = t.b ∧ s.c = t.c)
set_option maxRecDepth 100000 in
theorem kt_inj {s t : Tup} : kt s = kt t ↔ tEq s t = true := by
  unfold tEq
  rw [decide_eq_true_iff]
  constructor
  · intro h
    have := tup_keyed.inj (kt_some s) (h ▸ kt_some t)
    unfold tupV at this
    simp at this
    exact this
  · rintro ⟨h1, h2, h3⟩
    unfold kt tupV
    rw [h1, h2, h3]
set_option maxRecDepth 100000 in
theorem kt_isKey (t : Tup) : WideAt.IsKeyLit (kt t) := tup_keyed.key (kt_some t)
attribute [irreducible] kt
/-- The map holds just the tuples that came. -/
def MetD (D : DataW Unit) (pre : List Tup) : Prop := IsMap D ∧ ∀ t : Tup, D.atKey (kt t) (.lit (.bool false)) = .lit (.bool (pre.any (tEq · t)))
theorem MetD.nil : MetD (.map []) [] := ⟨⟨_, rfl⟩, fun _ => rfl⟩
theorem tEq_comm (s t : Tup) : tEq s t = tEq t s := by unfold tEq; rw [Bool.eq_iff_iff]; simp only [decide_eq_true_iff]; constructor <;> (rintro ⟨a, b, c⟩; exact ⟨a.symm, b.symm, c.symm⟩)
set_option maxRecDepth 100000 in
theorem MetD.put {D : DataW Unit} {pre : List Tup} (h : MetD D pre) (x : Tup) : MetD (D.put (kt x) (.lit (.bool true))) (pre ++ [x]) := by
  refine ⟨h.1.put _ _, fun t => ?_⟩
  rw [List.any_append]
  by_cases e : kt t = kt x
  · rw [e, atKey_put_same h.1 (kt_isKey x)]
    have := kt_inj.1 e
    rw [tEq_comm] at this
    simp [this]
  · rw [atKey_put_other e, h.2 t]
    have h1 : tEq x t = false := by
      rw [tEq_comm]
      cases hh : tEq t x
      · rfl
      · exact absurd (kt_inj.2 hh) e
    simp [h1]
set_option maxRecDepth 100000 in
theorem MetD.same {D : DataW Unit} {pre : List Tup} (h : MetD D pre) {x : Tup} (hx : pre.any (tEq · x) = true) : MetD D (pre ++ [x]) := by
  refine ⟨h.1, fun t => ?_⟩
  rw [h.2 t, List.any_append]
  cases h1 : tEq x t
  · simp [h1]
  · have : pre.any (tEq · t) = true := by
      rw [List.any_eq_true] at hx ⊢
      obtain ⟨s, hs, he⟩ := hx
      refine ⟨s, hs, ?_⟩
      unfold tEq at *
      simp only [decide_eq_true_iff] at *
      exact ⟨he.1.trans h1.1, he.2.1.trans h1.2.1, he.2.2.trans h1.2.2⟩
    simp [this]
set_option maxRecDepth 100000 in
theorem look_met {w : World} {b n : Nat} {D : DataW Unit} {pre : List Tup} (h : w.ownsMap Tryd.prog 70 (plainElem Tryd.prog 4) b n D) (hD : MetD D pre) (x : Tup) :
    (Instr.lookup 74 (.map (some b)) (tupV x) false).run Tryd.prog w = .ok (.bool (pre.any (tEq · x))) w := by
  obtain ⟨v, ps, hrun, hv⟩ := h.lookup tup_keyed Tryd.underlying74 (z := .bool false) (zd := .lit (.bool false)) (zp := []) (by kernel_rfl) (plainElem_bool Tryd.underlying4 false) (kt_some x)
  rw [hD.2 x] at hv
  unfold plainElem at hv
  rw [Tryd.underlying4] at hv
  cases v <;> simp at hv
  rw [hrun, hv.1]
end Go.Proofs.YtngeldgohijheaaDoor

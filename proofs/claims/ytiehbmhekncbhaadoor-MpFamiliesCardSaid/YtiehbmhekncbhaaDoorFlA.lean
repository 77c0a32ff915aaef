/- flag.classes, Class; peerageref10.Class -/
import Derived.Test.YtiehbmhekncbhaaDoorOwn
import Derived.Test.YtiehbmhekncbhaaDoorCat
import Derived.Maps.OwnSet
import Derived.Deep.Cut
namespace Go.Proofs.YtiehbmhekncbhaaDoor
open Go.RowKit Go.Maps

/-- The class of a type; 0 if it is not known. -/
def flagCls (k : Int) : Int := if k = 1 ∨ k = 2 ∨ k = 3 ∨ k = 5 ∨ k = 6 then 64 else if k = 4 ∨ k = 9 ∨ k = 10 ∨ k = 14 ∨ k = 15 then 128 else if k = 7 ∨ k = 8 ∨ k = 16 ∨ k = 17 ∨ k = 18 ∨ k = 32 then 192 else 0
def flagKnown (k : Int) : Bool := decide (flagCls k ≠ 0)
theorem flagCls_cases (k : Int) : flagCls k = 64 ∨ flagCls k = 128 ∨ flagCls k = 192 ∨ flagCls k = 0 := by
  unfold flagCls
  split
  · simp
  · split
    · simp
    · split <;> simp
theorem flag_split (k : Int) : (k = 1 ∨ k = 2 ∨ k = 3 ∨ k = 4 ∨ k = 5 ∨ k = 6 ∨ k = 7 ∨ k = 8 ∨ k = 9 ∨ k = 10 ∨ k = 14 ∨ k = 15 ∨ k = 16 ∨ k = 17 ∨ k = 18 ∨ k = 32) ∨ (flagCls k = 0 ∧ (k == 1) = false ∧ (k == 2) = false ∧ (k == 3) = false ∧ (k == 4) = false ∧ (k == 5) = false ∧ (k == 6) = false ∧ (k == 7) = false ∧ (k == 8) = false ∧ (k == 9) = false ∧ (k == 10) = false ∧ (k == 14) = false ∧ (k == 15) = false ∧ (k == 16) = false ∧ (k == 17) = false ∧ (k == 18) = false ∧ (k == 32) = false) := by
  by_cases h : k = 1 ∨ k = 2 ∨ k = 3 ∨ k = 4 ∨ k = 5 ∨ k = 6 ∨ k = 7 ∨ k = 8 ∨ k = 9 ∨ k = 10 ∨ k = 14 ∨ k = 15 ∨ k = 16 ∨ k = 17 ∨ k = 18 ∨ k = 32
  · left; simpa using h
  · right
    simp only [not_or] at h
    refine ⟨?_, by simpa using h⟩
    unfold flagCls
    rw [if_neg (by simp; omega), if_neg (by simp; omega), if_neg (by simp; omega)]

theorem wpList_insert_own {H : Type} {P : Program} (w : World) {ops : Array Oper} {rest : List Oper} {o : Oper} {a : Act} {Q : Exit → Act → World → Prop}
    (hg : o.guard = none) (m x v : Operand) (t : TypeId) (hop : o.op = Op.insert t m x v)
    (k e : TypeId) (K : Keyed P k) (ht : P.underlying t = some (.map k e)) (R : Value → Option (DataW H × List MemPlace)) (b n : Nat) (D : DataW H)
    (hm : a.eval m = .map (some b)) (hown : w.ownsMap P k R b n D) (hn : n < maxLen) (key val : Value) (kl : Lit) (hx : a.eval x = key) (hv : a.eval v = val) (hkey : keyOf P k key = some kl)
    (d : DataW H) (ps : List MemPlace) (hval : R val = some (d, ps))
    (hK : ∀ w', w'.ownsMap P k R b (n + 1) (D.put kl d) → w.grownBy w' (some b) → wpList P ops Q rest (a.put o.dst undef) w') :
    wpList P ops Q (o :: rest) a w := by
  refine wpList_plain hg fun K' hK' => ?_
  obtain ⟨w', hrun, r1, r2⟩ := hown.update K ht hn hkey hval
  unfold Oper.wp
  simp [execOp, hop, hm, hx, hv, hrun, Result.andThen]
  exact hK' _ _ (hK w' r1 r2)
set_option maxRecDepth 100000 in
theorem int_key : Keyed Tryd.prog 3 := int_keyed Tryd.underlying3
set_option maxRecDepth 100000 in
theorem int_zero (w : World) : (zeroValue 3).run Tryd.prog w = .ok (.int .i64 0) w := by kernel_rfl
def clsMap : DataW Unit := .map [(.int .i64 1, .lit (.int .i64 64)), (.int .i64 2, .lit (.int .i64 64)), (.int .i64 3, .lit (.int .i64 64)), (.int .i64 4, .lit (.int .i64 128)), (.int .i64 5, .lit (.int .i64 64)), (.int .i64 6, .lit (.int .i64 64)), (.int .i64 7, .lit (.int .i64 192)), (.int .i64 8, .lit (.int .i64 192)), (.int .i64 9, .lit (.int .i64 128)), (.int .i64 10, .lit (.int .i64 128)), (.int .i64 14, .lit (.int .i64 128)), (.int .i64 15, .lit (.int .i64 128)), (.int .i64 16, .lit (.int .i64 192)), (.int .i64 17, .lit (.int .i64 192)), (.int .i64 18, .lit (.int .i64 192)), (.int .i64 32, .lit (.int .i64 192))]
theorem clsMap_at (k : Int) : clsMap.atKey (.int .i64 k) (.lit (.int .i64 0)) = .lit (.int .i64 (flagCls k)) ∧ has clsMap (.int .i64 k) = flagKnown k := by
  rcases flag_split k with h | ⟨h0, e1, e2, e3, e4, e5, e6, e7, e8, e9, e10, e14, e15, e16, e17, e18, e32⟩
  · rcases h with rfl | rfl | rfl | rfl | rfl | rfl | rfl | rfl | rfl | rfl | rfl | rfl | rfl | rfl | rfl | rfl
    all_goals exact ⟨rfl, rfl⟩
  · unfold flagKnown
    rw [h0]
    have hs : ∀ j : Int, (k == j) = false → Lit.sameKey (.int .i64 j) (.int .i64 k) = false := by
      intro j hj
      have : ¬ j = k := fun e => by subst e; simp at hj
      simp [Lit.sameKey, this]
    simp [clsMap, DataW.atKey, has, hs _ e1, hs _ e2, hs _ e3, hs _ e4, hs _ e5, hs _ e6, hs _ e7, hs _ e8, hs _ e9, hs _ e10, hs _ e14, hs _ e15, hs _ e16, hs _ e17, hs _ e18, hs _ e32]

end Go.Proofs.YtiehbmhekncbhaaDoor

/- basic.rows: the map of rows -/
import Derived.Test.YtmcnpkfeipelgaaGreatDoorTen
import Derived.Test.YtmcnpkfeipelgaaGreatDoorPfxM
import Derived.Deep.RegionHeld3
import Derived.Deep.RegionLaw
import Derived.Laws.BytesArg
import Derived.Maps.OwnSet
import Derived.Deep.Cut
namespace Go.Proofs.YtmcnpkfeipelgaaGreatDoor
open Go.RowKit Go.Maps

/-- A function of the program as a value. -/
def fnv (n : Nat) : Value := .func (.func n) #[] #[]
/-- How many bytes a value of a type has; -1 for a type that is not here. -/
def bSize (k : Int) : Int := if k = 1 then 1 else if k = 3 ∨ k = 4 ∨ k = 5 ∨ k = 9 then 4 else if k = 6 then 0 else -1
def bKnown (k : Int) : Bool := decide (bSize k ≠ -1)
def bFits (k : Int) : Nat := if k = 1 then 142 else if k = 6 then 149 else 141
def bText (k : Int) : Nat := if k = 1 then 143 else if k = 3 then 144 else if k = 4 then 146 else if k = 5 then 148 else if k = 6 then 150 else 151
theorem b_split (k : Int) : (k = 1 ∨ k = 3 ∨ k = 4 ∨ k = 5 ∨ k = 6 ∨ k = 9) ∨ (bSize k = -1 ∧ (k == 1) = false ∧ (k == 3) = false ∧ (k == 4) = false ∧ (k == 5) = false ∧ (k == 6) = false ∧ (k == 9) = false) := by
  by_cases h : k = 1 ∨ k = 3 ∨ k = 4 ∨ k = 5 ∨ k = 6 ∨ k = 9
  · exact .inl h
  · right
    simp only [not_or] at h
    refine ⟨?_, by simpa using h⟩
    unfold bSize
    rw [if_neg (by omega), if_neg (by omega), if_neg (by omega)]
def bNil : Array Value := #[.int .i64 0, .nilFunc, .nilFunc]
/-- The row of a type; the zero row for one that is not here. -/
def bRow (k : Int) : Array Value := if bKnown k then #[.int .i64 (bSize k), fnv (bFits k), fnv (bText k)] else bNil
def heldE (v : Value) : Option (DataW Value × List MemPlace) := some (.held v, [])
def rMap : DataW Value := .map [(.int .i64 1, .held (.agg (bRow 1))), (.int .i64 3, .held (.agg (bRow 3))), (.int .i64 4, .held (.agg (bRow 4))), (.int .i64 5, .held (.agg (bRow 5))), (.int .i64 6, .held (.agg (bRow 6))), (.int .i64 9, .held (.agg (bRow 9)))]
set_option maxRecDepth 100000 in
theorem brow_zero (w : World) : (zeroValue 151).run Tryz.prog w = .ok (.agg bNil) w := by kernel_rfl
set_option maxRecDepth 100000 in
theorem bint_key : Keyed Tryz.prog 3 := int_keyed Tryz.underlying3
theorem rMap_at (k : Int) : rMap.atKey (.int .i64 k) (.held (.agg bNil)) = .held (.agg (bRow k)) ∧ has rMap (.int .i64 k) = bKnown k := by
  rcases b_split k with h | ⟨h0, e1, e3, e4, e5, e6, e9⟩
  · rcases h with rfl | rfl | rfl | rfl | rfl | rfl
    all_goals exact ⟨rfl, rfl⟩
  · have hk : bKnown k = false := by unfold bKnown; rw [h0]; rfl
    have hs : ∀ j : Int, (k == j) = false → Lit.sameKey (.int .i64 j) (.int .i64 k) = false := by
      intro j hj
      have : ¬ j = k := fun e => by subst e; simp at hj
      simp [Lit.sameKey, this]
    unfold bRow
    rw [hk]
    simp [rMap, DataW.atKey, has, hs _ e1, hs _ e3, hs _ e4, hs _ e5, hs _ e6, hs _ e9]
theorem wpList_insert_b {H : Type} {P : Program} (w : World) {ops : Array Oper} {rest : List Oper} {o : Oper} {a : Act} {Q : Exit → Act → World → Prop}
    (hg : o.guard = none) (m x v : Operand) (t : TypeId) (hop : o.op = Op.insert t m x v)
    (k e : TypeId) (K : Keyed P k) (ht : P.underlying t = some (.map k e)) (R : Value → Option (DataW H × List MemPlace)) (b n : Nat) (D : DataW H)
    (hm : a.eval m = .map (some b)) (hown : w.ownsMap P k R b n D) (hn : n < maxLen) (key val : Value) (kl : Lit) (hx : a.eval x = key) (hv : a.eval v = val) (hkey : keyOf P k key = some kl)
    (d : DataW H) (ps : List MemPlace) (hval : R val = some (d, ps))
    (hK : ∀ w', w'.ownsMap P k R b (n + 1) (D.put kl d) → w.grownBy w' (some b) → wpList P ops Q rest (a.put o.dst undef) w') :
    wpList P ops Q (o :: rest) a w := by
  refine wpList_plain hg fun K' hK' => ?_
  obtain ⟨w', hrun, r1, r2⟩ := hown.update K ht hn hkey hval
  unfold Oper.wp
  simp [execOp, hop, hm, hx, hv, hrun, Result.andThen]
  exact hK' _ _ (hK w' r1 r2)
set_option maxRecDepth 100000 in
set_option maxHeartbeats 1600000 in
theorem rows_any (w : World) : Calls Tryz.prog 127 #[] w fun e w' => ∃ b, e = .returned (.map (some b)) ∧ w'.ownsMap Tryz.prog 3 heldE b 6 rMap ∧ Below w.heap.size w w' := by
  have hmm := @run_makeMap Tryz.prog
  have h0 := World.ownsMap_made (H := Value) w Tryz.prog 3 heldE
  have g0 : w.grownBy (w.alloc (.map #[] 0)) (some w.heap.size) := World.grownBy_alloc w _ _
  go_enter Tryz.func127, Tryz.ntmps127
  go_wp2_with (refine wpList_insert_b _ rfl _ _ _ 153 rfl 3 151 bint_key Tryz.underlying153 heldE w.heap.size _ _ rfl h0 (by unfold maxLen; omega) _ _ _ rfl rfl (keyOf_int_mk Tryz.underlying3 rfl) _ [] rfl ?_; intro wn hn rn; have gn := only_trans g0 rn; clear h0 g0 rn; have h0 := hn; have g0 := gn; clear hn gn)
  go_ret
  exact ⟨_, rfl, h0, below_of_only (Below.refl _ _) g0 (Nat.le_refl _) (Nat.le_refl _)⟩
theorem brow_at {v : Value} {k : Int} {ps : List MemPlace} (h : heldE v = some (rMap.atKey (.int .i64 k) (.held (.agg bNil)), ps)) : v = .agg (bRow k) := by
  rw [(rMap_at k).1] at h
  unfold heldE at h
  injection h with h
  injection h with h _
  injection h
end Go.Proofs.YtmcnpkfeipelgaaGreatDoor

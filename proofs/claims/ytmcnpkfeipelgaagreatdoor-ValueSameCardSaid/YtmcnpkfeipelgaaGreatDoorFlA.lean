/- flag.classes, Class; peerageref10.Class -/
import Derived.Test.YtmcnpkfeipelgaaGreatDoorOwn
import Derived.Test.YtmcnpkfeipelgaaGreatDoorCat
import Derived.Maps.OwnSet
import Derived.Deep.Cut
namespace Go.Proofs.YtmcnpkfeipelgaaGreatDoor
open Go.RowKit Go.Maps

/-- The class of a type; 0 if it is not known. -/
def flagCls (k : Int) : Int := if k = 1 ∨ k = 2 ∨ k = 3 ∨ k = 5 ∨ k = 6 then 64 else if k = 4 ∨ k = 9 ∨ k = 10 ∨ k = 14 ∨ k = 15 then 128 else if k = 7 ∨ k = 8 ∨ k = 16 ∨ k = 17 ∨ k = 18 ∨ k = 32 then 192 else 0
def flagKnown (k : Int) : Bool := decide (flagCls k ≠ 0)
theorem flagCls_cases (k : Int) : flagCls k = 64 ∨ flagCls k = 128 ∨ flagCls k = 192 ∨ flagCls k = 0 := by
  unfold flagCls
  split
  · simp
  · split
    · simp
    · split <;> simp
theorem flag_split (k : Int) : (k = 1 ∨ k = 2 ∨ k = 3 ∨ k = 4 ∨ k = 5 ∨ k = 6 ∨ k = 7 ∨ k = 8 ∨ k = 9 ∨ k = 10 ∨ k = 14 ∨ k = 15 ∨ k = 16 ∨ k = 17 ∨ k = 18 ∨ k = 32) ∨ (flagCls k = 0 ∧ (k == 1) = false ∧ (k == 2) = false ∧ (k == 3) = false ∧ (k == 4) = false ∧ (k == 5) = false ∧ (k == 6) = false ∧ (k == 7) = false ∧ (k == 8) = false ∧ (k == 9) = false ∧ (k == 10) = false ∧ (k == 14) = false ∧ (k == 15) = false ∧ (k == 16) = false ∧ (k == 17) = false ∧ (k == 18) = false ∧ (k == 32) = false) := by
  by_cases h : k = 1 ∨ k = 2 ∨ k = 3 ∨ k = 4 ∨ k = 5 ∨ k = 6 ∨ k = 7 ∨ k = 8 ∨ k = 9 ∨ k = 10 ∨ k = 14 ∨ k = 15 ∨ k = 16 ∨ k = 17 ∨ k = 18 ∨ k = 32
  · left; simpa using h
  · right
    simp only [not_or] at h
    refine ⟨?_, by simpa using h⟩
    unfold flagCls
    rw [if_neg (by simp; omega), if_neg (by simp; omega), if_neg (by simp; omega)]

set_option maxRecDepth 100000 in
theorem rclass_any (k : Int) (w : World) : Calls Tryz.prog 9 #[.int .i64 k] w fun e w' => e = .returned (.tuple #[.int .i64 (flagCls k), .bool (flagKnown k)]) ∧ w = w' := by
  rcases flag_split k with h | ⟨h0, e1, e2, e3, e4, e5, e6, e7, e8, e9, e10, e14, e15, e16, e17, e18, e32⟩
  · rcases h with rfl | rfl | rfl | rfl | rfl | rfl | rfl | rfl | rfl | rfl | rfl | rfl | rfl | rfl | rfl | rfl
    all_goals
      go_enter Tryz.func9, Tryz.ntmps9
      go_wp2
      go_ret2
      exact ⟨rfl, rfl⟩
  · have H0 := Lib.hid h0
    clear h0
    go_enter Tryz.func9, Tryz.ntmps9
    go_wp2
    go_ret2
    exact ⟨by unfold flagKnown; rw [H0.out]; rfl, rfl⟩

theorem wpList_insert_own {H : Type} {P : Program} (w : World) {ops : Array Oper} {rest : List Oper} {o : Oper} {a : Act} {Q : Exit → Act → World → Prop}
    (hg : o.guard = none) (m x v : Operand) (t : TypeId) (hop : o.op = Op.insert t m x v)
    (k e : TypeId) (K : Keyed P k) (ht : P.underlying t = some (.map k e)) (R : Value → Option (DataW H × List MemPlace)) (b n : Nat) (D : DataW H)
    (hm : a.eval m = .map (some b)) (hown : w.ownsMap P k R b n D) (hn : n < maxLen) (key val : Value) (kl : Lit) (hx : a.eval x = key) (hv : a.eval v = val) (hkey : keyOf P k key = some kl)
    (d : DataW H) (ps : List MemPlace) (hval : R val = some (d, ps))
    (hK : ∀ w', w'.ownsMap P k R b (n + 1) (D.put kl d) → w.grownBy w' (some b) → wpList P ops Q rest (a.put o.dst undef) w') :
    wpList P ops Q (o :: rest) a w := by
  refine wpList_plain hg fun K' hK' => ?_
  obtain ⟨w', hrun, r1, r2⟩ := hown.update K ht hn hkey hval
  unfold Oper.wp
  simp [execOp, hop, hm, hx, hv, hrun, Result.andThen]
  exact hK' _ _ (hK w' r1 r2)
set_option maxRecDepth 100000 in
theorem int_key : Keyed Tryz.prog 3 := int_keyed Tryz.underlying3
set_option maxRecDepth 100000 in
theorem int_zero (w : World) : (zeroValue 3).run Tryz.prog w = .ok (.int .i64 0) w := by kernel_rfl
def clsMap : DataW Unit := .map [(.int .i64 1, .lit (.int .i64 64)), (.int .i64 2, .lit (.int .i64 64)), (.int .i64 3, .lit (.int .i64 64)), (.int .i64 4, .lit (.int .i64 128)), (.int .i64 5, .lit (.int .i64 64)), (.int .i64 6, .lit (.int .i64 64)), (.int .i64 7, .lit (.int .i64 192)), (.int .i64 8, .lit (.int .i64 192)), (.int .i64 9, .lit (.int .i64 128)), (.int .i64 10, .lit (.int .i64 128)), (.int .i64 14, .lit (.int .i64 128)), (.int .i64 15, .lit (.int .i64 128)), (.int .i64 16, .lit (.int .i64 192)), (.int .i64 17, .lit (.int .i64 192)), (.int .i64 18, .lit (.int .i64 192)), (.int .i64 32, .lit (.int .i64 192))]
theorem clsMap_at (k : Int) : clsMap.atKey (.int .i64 k) (.lit (.int .i64 0)) = .lit (.int .i64 (flagCls k)) ∧ has clsMap (.int .i64 k) = flagKnown k := by
  rcases flag_split k with h | ⟨h0, e1, e2, e3, e4, e5, e6, e7, e8, e9, e10, e14, e15, e16, e17, e18, e32⟩
  · rcases h with rfl | rfl | rfl | rfl | rfl | rfl | rfl | rfl | rfl | rfl | rfl | rfl | rfl | rfl | rfl | rfl
    all_goals exact ⟨rfl, rfl⟩
  · unfold flagKnown
    rw [h0]
    have hs : ∀ j : Int, (k == j) = false → Lit.sameKey (.int .i64 j) (.int .i64 k) = false := by
      intro j hj
      have : ¬ j = k := fun e => by subst e; simp at hj
      simp [Lit.sameKey, this]
    simp [clsMap, DataW.atKey, has, hs _ e1, hs _ e2, hs _ e3, hs _ e4, hs _ e5, hs _ e6, hs _ e7, hs _ e8, hs _ e9, hs _ e10, hs _ e14, hs _ e15, hs _ e16, hs _ e17, hs _ e18, hs _ e32]

set_option maxRecDepth 100000 in
set_option maxHeartbeats 1600000 in
theorem classes_any (w : World) : Calls Tryz.prog 106 #[] w fun e w' => ∃ b, e = .returned (.map (some b)) ∧ w'.ownsMap Tryz.prog 3 (plainElem Tryz.prog 3) b 16 clsMap ∧ Below w.heap.size w w' := by
  have hmm := @run_makeMap Tryz.prog
  have w64 : (Lit.int .i64 64).wf = true := rfl
  have w128 : (Lit.int .i64 128).wf = true := rfl
  have w192 : (Lit.int .i64 192).wf = true := rfl
  have h0 := World.ownsMap_made (H := Unit) w Tryz.prog 3 (plainElem Tryz.prog 3)
  have g0 : w.grownBy (w.alloc (.map #[] 0)) (some w.heap.size) := World.grownBy_alloc w _ _
  go_enter Tryz.func106, Tryz.ntmps106
  go_upto_region 1 with (fail)
  refine wp_region_lit ?_
  go_step
  go_simp
  go_step
  refine wpList_insert_own _ rfl _ _ _ 138 rfl 3 3 int_key Tryz.underlying138 _ w.heap.size 0 _ rfl h0 (by unfold maxLen; omega) _ _ _ rfl rfl (keyOf_int_mk Tryz.underlying3 rfl) _ [] (plainElem_int Tryz.underlying3 w64) ?_
  intro w1_ h1 r1
  have g1 := only_trans g0 r1
  clear h0 g0 r1
  refine wpList_insert_own _ rfl _ _ _ 138 rfl 3 3 int_key Tryz.underlying138 _ w.heap.size 1 _ rfl h1 (by unfold maxLen; omega) _ _ _ rfl rfl (keyOf_int_mk Tryz.underlying3 rfl) _ [] (plainElem_int Tryz.underlying3 w64) ?_
  intro w2_ h2 r2
  have g2 := only_trans g1 r2
  clear h1 g1 r2
  refine wpList_insert_own _ rfl _ _ _ 138 rfl 3 3 int_key Tryz.underlying138 _ w.heap.size 2 _ rfl h2 (by unfold maxLen; omega) _ _ _ rfl rfl (keyOf_int_mk Tryz.underlying3 rfl) _ [] (plainElem_int Tryz.underlying3 w64) ?_
  intro w3_ h3 r3
  have g3 := only_trans g2 r3
  clear h2 g2 r3
  refine wpList_insert_own _ rfl _ _ _ 138 rfl 3 3 int_key Tryz.underlying138 _ w.heap.size 3 _ rfl h3 (by unfold maxLen; omega) _ _ _ rfl rfl (keyOf_int_mk Tryz.underlying3 rfl) _ [] (plainElem_int Tryz.underlying3 w64) ?_
  intro w4_ h4 r4
  have g4 := only_trans g3 r4
  clear h3 g3 r4
  refine wpList_insert_own _ rfl _ _ _ 138 rfl 3 3 int_key Tryz.underlying138 _ w.heap.size 4 _ rfl h4 (by unfold maxLen; omega) _ _ _ rfl rfl (keyOf_int_mk Tryz.underlying3 rfl) _ [] (plainElem_int Tryz.underlying3 w64) ?_
  intro w5_ h5 r5
  have g5 := only_trans g4 r5
  clear h4 g4 r5
  refine wpList_insert_own _ rfl _ _ _ 138 rfl 3 3 int_key Tryz.underlying138 _ w.heap.size 5 _ rfl h5 (by unfold maxLen; omega) _ _ _ rfl rfl (keyOf_int_mk Tryz.underlying3 rfl) _ [] (plainElem_int Tryz.underlying3 w128) ?_
  intro w6_ h6 r6
  have g6 := only_trans g5 r6
  clear h5 g5 r6
  refine wpList_insert_own _ rfl _ _ _ 138 rfl 3 3 int_key Tryz.underlying138 _ w.heap.size 6 _ rfl h6 (by unfold maxLen; omega) _ _ _ rfl rfl (keyOf_int_mk Tryz.underlying3 rfl) _ [] (plainElem_int Tryz.underlying3 w128) ?_
  intro w7_ h7 r7
  have g7 := only_trans g6 r7
  clear h6 g6 r7
  refine wpList_insert_own _ rfl _ _ _ 138 rfl 3 3 int_key Tryz.underlying138 _ w.heap.size 7 _ rfl h7 (by unfold maxLen; omega) _ _ _ rfl rfl (keyOf_int_mk Tryz.underlying3 rfl) _ [] (plainElem_int Tryz.underlying3 w128) ?_
  intro w8_ h8 r8
  have g8 := only_trans g7 r8
  clear h7 g7 r8
  refine wpList_insert_own _ rfl _ _ _ 138 rfl 3 3 int_key Tryz.underlying138 _ w.heap.size 8 _ rfl h8 (by unfold maxLen; omega) _ _ _ rfl rfl (keyOf_int_mk Tryz.underlying3 rfl) _ [] (plainElem_int Tryz.underlying3 w128) ?_
  intro w9_ h9 r9
  have g9 := only_trans g8 r9
  clear h8 g8 r9
  refine wpList_insert_own _ rfl _ _ _ 138 rfl 3 3 int_key Tryz.underlying138 _ w.heap.size 9 _ rfl h9 (by unfold maxLen; omega) _ _ _ rfl rfl (keyOf_int_mk Tryz.underlying3 rfl) _ [] (plainElem_int Tryz.underlying3 w128) ?_
  intro w10_ h10 r10
  have g10 := only_trans g9 r10
  clear h9 g9 r10
  refine wpList_insert_own _ rfl _ _ _ 138 rfl 3 3 int_key Tryz.underlying138 _ w.heap.size 10 _ rfl h10 (by unfold maxLen; omega) _ _ _ rfl rfl (keyOf_int_mk Tryz.underlying3 rfl) _ [] (plainElem_int Tryz.underlying3 w192) ?_
  intro w11_ h11 r11
  have g11 := only_trans g10 r11
  clear h10 g10 r11
  refine wpList_insert_own _ rfl _ _ _ 138 rfl 3 3 int_key Tryz.underlying138 _ w.heap.size 11 _ rfl h11 (by unfold maxLen; omega) _ _ _ rfl rfl (keyOf_int_mk Tryz.underlying3 rfl) _ [] (plainElem_int Tryz.underlying3 w192) ?_
  intro w12_ h12 r12
  have g12 := only_trans g11 r12
  clear h11 g11 r12
  refine wpList_insert_own _ rfl _ _ _ 138 rfl 3 3 int_key Tryz.underlying138 _ w.heap.size 12 _ rfl h12 (by unfold maxLen; omega) _ _ _ rfl rfl (keyOf_int_mk Tryz.underlying3 rfl) _ [] (plainElem_int Tryz.underlying3 w192) ?_
  intro w13_ h13 r13
  have g13 := only_trans g12 r13
  clear h12 g12 r13
  refine wpList_insert_own _ rfl _ _ _ 138 rfl 3 3 int_key Tryz.underlying138 _ w.heap.size 13 _ rfl h13 (by unfold maxLen; omega) _ _ _ rfl rfl (keyOf_int_mk Tryz.underlying3 rfl) _ [] (plainElem_int Tryz.underlying3 w192) ?_
  intro w14_ h14 r14
  have g14 := only_trans g13 r14
  clear h13 g13 r14
  refine wpList_insert_own _ rfl _ _ _ 138 rfl 3 3 int_key Tryz.underlying138 _ w.heap.size 14 _ rfl h14 (by unfold maxLen; omega) _ _ _ rfl rfl (keyOf_int_mk Tryz.underlying3 rfl) _ [] (plainElem_int Tryz.underlying3 w192) ?_
  intro w15_ h15 r15
  have g15 := only_trans g14 r15
  clear h14 g14 r15
  refine wpList_insert_own _ rfl _ _ _ 138 rfl 3 3 int_key Tryz.underlying138 _ w.heap.size 15 _ rfl h15 (by unfold maxLen; omega) _ _ _ rfl rfl (keyOf_int_mk Tryz.underlying3 rfl) _ [] (plainElem_int Tryz.underlying3 w192) ?_
  intro w16_ h16 r16
  have g16 := only_trans g15 r16
  clear h15 g15 r16
  go_wp2
  go_ret
  exact ⟨_, rfl, h16, below_of_only (Below.refl _ _) g16 (Nat.le_refl _) (Nat.le_refl _)⟩

set_option maxRecDepth 100000 in
theorem class_any (k : Int) (w : World) (hk : (Lit.int .i64 k).wf = true) : Calls Tryz.prog 56 #[.int .i64 k] w fun e w' => e = .returned (.tuple #[.int .i64 (flagCls k), .bool (flagKnown k)]) ∧ Below w.heap.size w w' := by
  have HA := Lib.hid (clsMap_at k)
  go_enter Tryz.func56, Tryz.ntmps56
  go_wp2_with fail
  refine (classes_any _).mono ?_
  rintro e w1 ⟨b, rfl, hown, hb⟩
  go_wp2_with (at_lookup; refine wpList_lookup_own_ok_int _ rfl _ _ 138 rfl 3 3 .i64 int_key Tryz.underlying138 Tryz.underlying3 (int_zero _) b 16 clsMap rfl hown _ _ rfl (keyOf_int_mk Tryz.underlying3 hk) ?_; intro c hat hwc)
  go_ret2
  refine ⟨?_, hb⟩
  obtain ⟨h1, h2⟩ := HA.out
  rw [h1] at hat
  have e1 : flagCls k = c := by injection hat with hat; injection hat
  show Ending.returned (.tuple #[.int .i64 c, .bool (has clsMap (.int .i64 k))]) = _
  rw [h2, e1]
end Go.Proofs.YtmcnpkfeipelgaaGreatDoor

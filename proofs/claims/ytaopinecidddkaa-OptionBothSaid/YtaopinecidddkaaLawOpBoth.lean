/- peeragelaw05.OptionBoth returns true for every input, and its arguments read afterwards as they read before. No condition. -/
import Derived.Test.YtaopinecidddkaaOpD
import Derived.Test.YtaopinecidddkaaLeaf
import Derived.Test.YtaopinecidddkaaStruct
namespace Go.Proofs.Ytaopinecidddkaa.optionBoth
open Go.ChangeShapes Go.WideShapes Go.ChangeAt Go.RowKit
set_option maxRecDepth 100000 in
theorem own : ownKnob Try.prog.godebug = none := by kernel_rfl
set_option maxRecDepth 100000 in
theorem laidOut : laidOutB Try.prog = true := by kernel_rfl
set_option maxRecDepth 100000 in
theorem lifted (os : Os) (started : os.Started) (H : Type) (enc : TypeId × Value → H) :
    ReturnsInHanded {} Try.checked os 7 .any (Rows.optionBothSpec.pre6 enc Try.prog Try.f7 Rows.optionBothRow.domain false) (Rows.optionBothSpec.post enc Try.prog Try.f7 false true false false) := by
  refine returnsInHanded_of_change (C := Try.checked) own started (by kernel_rfl) Try.func7
    (ChangeSpec.witness6 (enc := enc) (C := Try.checked) false ⟨#[], #[.agg #[.bool false, .bool false, .bool false, .bool false, .bool false, .bool false], .agg #[.bool false, .bool false, .bool false, .bool false, .bool false, .bool false]], []⟩ 8 (by kernel_rfl) (by kernel_rfl) (by kernel_rfl) (by kernel_rfl)) ?_
  intro W base args ds gs before hval0 hW hcnd _
  have hval : ∀ (j : Nat) t v, Try.f7.params[j]? = some t → args[j]? = some v → Value.okWide Try.prog W .any base t v := hval0
  have hW' := hW
  obtain ⟨p, q, hA0, hV, rfl, hfz, hnd⟩ := hW
  have hA : DataW.TrodAll enc Try.prog W 0 (fun _ => true) true Try.f7.params.toList args.toList ds p := hA0
  rw [Try.params7] at hA hval
  obtain ⟨v0, vs0, d0, ds0, p0, q0, hargs, rfl, rfl, h0, r0⟩ := trodAll_cons hA
  obtain ⟨v1, vs1, d1, ds1, p1, q1, rfl, rfl, rfl, h1, r1⟩ := trodAll_cons r0
  obtain ⟨rfl, rfl, rfl⟩ := trodAll_nil r1
  obtain rfl : args = #[v0, v1] := by cases args; simp_all
  obtain ⟨rfl, rfl⟩ := trodVars_none hV
  have k0 := h0
  have lt0 : ∀ x ∈ p0, x.block < W.heap.size := by obtain ⟨m, hm⟩ := k0; exact DataW.trod_lt m _ _ _ hm
  obtain ⟨C0, rfl, hz0⟩ := okWide_struct Try.underlying43 (hval 0 43 v0 rfl rfl)
  obtain ⟨fu0, ht0⟩ := h0
  obtain ⟨a0_0, e0_0⟩ := leaf_bool (n := 5) (i := 0) (l := 4) (by kernel_rfl) Try.underlying4 ht0
  obtain ⟨a0_1, e0_1⟩ := leaf_bool (n := 5) (i := 1) (l := 4) (by kernel_rfl) Try.underlying4 ht0
  obtain ⟨a0_2, e0_2⟩ := leaf_bool (n := 5) (i := 2) (l := 4) (by kernel_rfl) Try.underlying4 ht0
  obtain ⟨a0_3, e0_3⟩ := leaf_bool (n := 5) (i := 3) (l := 4) (by kernel_rfl) Try.underlying4 ht0
  obtain ⟨a0_4, e0_4⟩ := leaf_bool (n := 5) (i := 4) (l := 4) (by kernel_rfl) Try.underlying4 ht0
  obtain ⟨a0_5, e0_5⟩ := leaf_bool (n := 5) (i := 5) (l := 4) (by kernel_rfl) Try.underlying4 ht0
  obtain rfl := arr6 (hz0.trans (by kernel_rfl)) e0_0 e0_1 e0_2 e0_3 e0_4 e0_5
  have k1 := h1
  have lt1 : ∀ x ∈ p1, x.block < W.heap.size := by obtain ⟨m, hm⟩ := k1; exact DataW.trod_lt m _ _ _ hm
  obtain ⟨C1, rfl, hz1⟩ := okWide_struct Try.underlying43 (hval 1 43 v1 rfl rfl)
  obtain ⟨fu1, ht1⟩ := h1
  obtain ⟨a1_0, e1_0⟩ := leaf_bool (n := 5) (i := 0) (l := 4) (by kernel_rfl) Try.underlying4 ht1
  obtain ⟨a1_1, e1_1⟩ := leaf_bool (n := 5) (i := 1) (l := 4) (by kernel_rfl) Try.underlying4 ht1
  obtain ⟨a1_2, e1_2⟩ := leaf_bool (n := 5) (i := 2) (l := 4) (by kernel_rfl) Try.underlying4 ht1
  obtain ⟨a1_3, e1_3⟩ := leaf_bool (n := 5) (i := 3) (l := 4) (by kernel_rfl) Try.underlying4 ht1
  obtain ⟨a1_4, e1_4⟩ := leaf_bool (n := 5) (i := 4) (l := 4) (by kernel_rfl) Try.underlying4 ht1
  obtain ⟨a1_5, e1_5⟩ := leaf_bool (n := 5) (i := 5) (l := 4) (by kernel_rfl) Try.underlying4 ht1
  obtain rfl := arr6 (hz1.trans (by kernel_rfl)) e1_0 e1_1 e1_2 e1_3 e1_4 e1_5
  clear hA0 hval0
  refine (obl_walk a0_0 a0_1 a0_2 a0_3 a0_4 a0_5 a1_0 a1_1 a1_2 a1_3 a1_4 a1_5 W).mono fun e W' ⟨he, bel⟩ => ?_
  subst he
  exact ⟨_, rfl, _, _, _, [], _, [], hW', trodAll_mk1 (shut_bool Try.underlying4 _), (trodAll_cons_mk (Below.trod laidOut (by kernel_rfl) (of_decide_eq_true (by kernel_rfl)) k0 bel lt0) (trodAll_cons_mk (Below.trod laidOut (by kernel_rfl) (of_decide_eq_true (by kernel_rfl)) k1 bel lt1) trodAll_mk0)), rfl, bel.frame _, fun h => by cases h⟩
theorem over : Rows.optionBothRow.holds Try.pinned (OpenSpec.ofChange Rows.optionBothSpec) :=
  OpenClaim.holds_of_wide 7 Try.f7 rfl rfl rfl rfl rfl rfl rfl ⟨rfl, rfl, rfl, rfl, rfl⟩ rfl rfl rfl rfl rfl (by kernel_rfl) Try.func7 (by kernel_rfl)
    (of_decide_eq_true (by kernel_rfl)) (by unfold Func.isWrapper; first | (rw [if_pos (by decide +kernel)]; kernel_rfl) | (rw [if_neg (by decide +kernel)]; exact ⟨rfl, rfl⟩))
    (fun os started H enc _ => lifted os started H enc)
theorem proved : Rows.OptionBothSaid := over
end Go.Proofs.Ytaopinecidddkaa.optionBoth

/- peeragelaw05.OptionFamilies returns true for every input, and its arguments read afterwards as they read before. No condition. -/
import Derived.Test.YtaopinecidddkaaOpE
import Derived.Test.YtaopinecidddkaaLeaf
import Derived.Test.YtaopinecidddkaaStruct
namespace Go.Proofs.Ytaopinecidddkaa.optionFamilies
open Go.ChangeShapes Go.WideShapes Go.ChangeAt Go.RowKit
set_option maxRecDepth 100000 in
theorem own : ownKnob Try.prog.godebug = none := by kernel_rfl
set_option maxRecDepth 100000 in
theorem laidOut : laidOutB Try.prog = true := by kernel_rfl
set_option maxRecDepth 100000 in
theorem lifted (os : Os) (started : os.Started) (H : Type) (enc : TypeId × Value → H) :
    ReturnsInHanded {} Try.checked os 6 .any (Rows.optionFamiliesSpec.pre6 enc Try.prog Try.f6 Rows.optionFamiliesRow.domain false) (Rows.optionFamiliesSpec.post enc Try.prog Try.f6 false true false false) := by
  refine returnsInHanded_of_change (C := Try.checked) own started (by kernel_rfl) Try.func6
    (ChangeSpec.witness6 (enc := enc) (C := Try.checked) false ⟨#[], #[.agg #[.bool false, .bool false, .bool false, .bool false, .bool false, .bool false], .int .i64 0], []⟩ 8 (by kernel_rfl) (by kernel_rfl) (by kernel_rfl) (by kernel_rfl)) ?_
  intro W base args ds gs before hval0 hW hcnd _
  have hval : ∀ (j : Nat) t v, Try.f6.params[j]? = some t → args[j]? = some v → Value.okWide Try.prog W .any base t v := hval0
  have hW' := hW
  obtain ⟨p, q, hA0, hV, rfl, hfz, hnd⟩ := hW
  have hA : DataW.TrodAll enc Try.prog W 0 (fun _ => true) true Try.f6.params.toList args.toList ds p := hA0
  rw [Try.params6] at hA hval
  obtain ⟨v0, vs0, d0, ds0, p0, q0, hargs, rfl, rfl, h0, r0⟩ := trodAll_cons hA
  obtain ⟨v1, vs1, d1, ds1, p1, q1, rfl, rfl, rfl, h1, r1⟩ := trodAll_cons r0
  obtain ⟨rfl, rfl, rfl⟩ := trodAll_nil r1
  obtain rfl : args = #[v0, v1] := by cases args; simp_all
  obtain ⟨rfl, rfl⟩ := trodVars_none hV
  have k0 := h0
  have lt0 : ∀ x ∈ p0, x.block < W.heap.size := by obtain ⟨m, hm⟩ := k0; exact DataW.trod_lt m _ _ _ hm
  obtain ⟨C0, rfl, hz0⟩ := okWide_struct Try.underlying43 (hval 0 43 v0 rfl rfl)
  obtain ⟨fu0, ht0⟩ := h0
  obtain ⟨a0_0, e0_0⟩ := leaf_bool (n := 5) (i := 0) (l := 4) (by kernel_rfl) Try.underlying4 ht0
  obtain ⟨a0_1, e0_1⟩ := leaf_bool (n := 5) (i := 1) (l := 4) (by kernel_rfl) Try.underlying4 ht0
  obtain ⟨a0_2, e0_2⟩ := leaf_bool (n := 5) (i := 2) (l := 4) (by kernel_rfl) Try.underlying4 ht0
  obtain ⟨a0_3, e0_3⟩ := leaf_bool (n := 5) (i := 3) (l := 4) (by kernel_rfl) Try.underlying4 ht0
  obtain ⟨a0_4, e0_4⟩ := leaf_bool (n := 5) (i := 4) (l := 4) (by kernel_rfl) Try.underlying4 ht0
  obtain ⟨a0_5, e0_5⟩ := leaf_bool (n := 5) (i := 5) (l := 4) (by kernel_rfl) Try.underlying4 ht0
  obtain rfl := arr6 (hz0.trans (by kernel_rfl)) e0_0 e0_1 e0_2 e0_3 e0_4 e0_5
  have k1 := h1
  have lt1 : ∀ x ∈ p1, x.block < W.heap.size := by obtain ⟨m, hm⟩ := k1; exact DataW.trod_lt m _ _ _ hm
  obtain ⟨a1, rfl, rfl, rfl, w1⟩ := open_int Try.underlying3 (hval 1 3 v1 rfl rfl) h1
  clear hA0 hval0
  refine (ofam_walk a0_0 a0_1 a0_2 a0_3 a0_4 a0_5 a1 W).mono fun e W' ⟨he, bel⟩ => ?_
  subst he
  exact ⟨_, rfl, _, _, _, [], _, [], hW', trodAll_mk1 (shut_bool Try.underlying4 _), (trodAll_cons_mk (Below.trod laidOut (by kernel_rfl) (of_decide_eq_true (by kernel_rfl)) k0 bel lt0) (trodAll_cons_mk (Below.trod laidOut (by kernel_rfl) (of_decide_eq_true (by kernel_rfl)) k1 bel lt1) trodAll_mk0)), rfl, bel.frame _, fun h => by cases h⟩
theorem over : Rows.optionFamiliesRow.holds Try.pinned (OpenSpec.ofChange Rows.optionFamiliesSpec) :=
  OpenClaim.holds_of_wide 6 Try.f6 rfl rfl rfl rfl rfl rfl rfl ⟨rfl, rfl, rfl, rfl, rfl⟩ rfl rfl rfl rfl rfl (by kernel_rfl) Try.func6 (by kernel_rfl)
    (of_decide_eq_true (by kernel_rfl)) (by unfold Func.isWrapper; first | (rw [if_pos (by decide +kernel)]; kernel_rfl) | (rw [if_neg (by decide +kernel)]; exact ⟨rfl, rfl⟩))
    (fun os started H enc _ => lifted os started H enc)
theorem proved : Rows.OptionFamiliesSaid := over
end Go.Proofs.Ytaopinecidddkaa.optionFamilies

/- peerageref11.Text -/
import Derived.Test.YtiehbmhekncbhaaDoorFnC
namespace Go.Proofs.YtiehbmhekncbhaaDoor
open Go.RowKit Go.Sort

set_option maxRecDepth 100000 in
theorem rvtext_no (k c s t : Int) (A : Option Addr) (n cp : Nat) (w : World) (hk : vdOk k c s n t = false) :
    Calls Tryd.prog 45 #[.agg #[.int .i64 k, .int .i64 c, .int .i64 s, .slice A n cp, .int .i64 t]] w fun e w' => e = .returned (.string ⟨#[]⟩) ∧ Below w.heap.size w w' := by
  have hb := bl_alloc (bl_refl w) (.cells #[.int .i64 k, .int .i64 c, .int .i64 s, .slice A n cp, .int .i64 t] 51)
  have HK := Lib.hid hk
  clear hk
  go_enter Tryd.func45, Tryd.ntmps45
  go_wp2_with fail
  refine (rproper_any k c s t A n cp _).mono ?_
  rw [HK.out]
  rintro e w1 ⟨rfl, hb1⟩
  go_wp2
  go_ret
  exact ⟨rfl, bl_trans hb hb1⟩
set_option maxRecDepth 100000 in
set_option maxHeartbeats 1600000 in
theorem rvtext_few (k c s t : Int) (A : Option Addr) (n cp : Nat) (w : World) (h1 : t ≤ 9223372036854775807) (hk : vdOk k c s n t = true) (hk4 : k ≠ 4) :
    Calls Tryd.prog 45 #[.agg #[.int .i64 k, .int .i64 c, .int .i64 s, .slice A n cp, .int .i64 t]] w fun e w' => e = .returned (.string (vtext k c s [] t)) ∧ Below w.heap.size w w' := by
  have hf := vdOk_facts hk
  have h0 := hf.1
  have HK := Lib.hid hk
  have s2 := decB_size h1
  have hcases : (k = 0) ∨ (k = 1) ∨ (k = 2) ∨ (k = 3 ∧ s = 1) ∨ (k = 3 ∧ s = 2) := by omega
  clear hf hk
  have hb := bl_alloc (bl_refl w) (.cells #[.int .i64 k, .int .i64 c, .int .i64 s, .slice A n cp, .int .i64 t] 51)
  have o0 := Own.new w 51 #[.int .i64 k, .int .i64 c, .int .i64 s, .slice A n cp, .int .i64 t]
  have n4 : ¬ 9223372036854775807 < 11 + (decB t).size := by omega
  have n5 : ¬ 9223372036854775807 < 12 + (decB t).size := by omega
  have n6 : ¬ 9223372036854775807 < 14 + (decB t).size := by omega
  go_enter Tryd.func45, Tryd.ntmps45
  go_wp2_with fail
  refine (rproper_any k c s t A n cp _).mono ?_
  rw [HK.out]
  rintro e w1 ⟨rfl, hb1⟩
  have o1 := o0.step hb1
  obtain ⟨c0, c1, c2, c3, c4⟩ := vd_cells o1
  have hb2 := bl_trans hb hb1
  have hlt := o1.lt
  clear hb hb1 o0 s2
  rcases hcases with rfl | rfl | rfl | ⟨rfl, rfl⟩ | ⟨rfl, rfl⟩
  · go_wp2
    go_ret
    exact ⟨rfl, bl_alloc hb2 _⟩
  all_goals
    go_wp2_with fail
    refine (rdecimal_any t h0 h1 _).mono ?_
    rintro e w3 ⟨rfl, hb3⟩
    go_wp2
    go_ret
    first
      | exact ⟨rfl, bl_trans (bl_alloc hb2 _) hb3⟩
      | exact ⟨rfl, bl_trans (bl_alloc (bl_alloc hb2 _) _) hb3⟩
end Go.Proofs.YtiehbmhekncbhaaDoor

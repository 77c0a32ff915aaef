/- refresh.Text -/
import Derived.Test.YtiehbmhekncbhaaDoorRfK
import Derived.Test.YtiehbmhekncbhaaDoorDec
namespace Go.Proofs.YtiehbmhekncbhaaDoor
open Go.RowKit Go.Sort

def subT (b : Int) : ByteArray := if b = 0 then ⟨#[114, 101, 102, 114, 101, 115, 104]⟩ else if b = 1 then ⟨#[98, 101, 103, 105, 110]⟩ else if b = 2 then ⟨#[101, 110, 100]⟩ else ⟨#[115, 117, 98, 32]⟩ ++ decB b
def famT (a c : Int) : ByteArray := if famOf a c = 1 then ⟨#[105, 112, 118, 52]⟩ else if famOf a c = 2 then ⟨#[105, 112, 118, 54]⟩ else decB a ++ ⟨#[47]⟩ ++ decB c
/-- The text of a refresh. -/
def rfT (a b c : Int) : ByteArray := subT b ++ ⟨#[32]⟩ ++ famT a c
theorem subT_size {b : Int} (h : b ≤ 255) : (subT b).size ≤ 30 := by
  have := decB_size (n := b) (by omega)
  unfold subT
  split
  · decide
  · split
    · decide
    · split
      · decide
      · rw [ByteArray.size_append]
        show 4 + (decB b).size ≤ 30
        omega
theorem famT_size {a c : Int} (h : a ≤ 65535) (h2 : c ≤ 255) : (famT a c).size ≤ 50 := by
  have := decB_size (n := a) (by omega)
  have := decB_size (n := c) (by omega)
  unfold famT
  split
  · decide
  · split
    · decide
    · simp only [ByteArray.size_append]
      show (decB a).size + 1 + (decB c).size ≤ 50
      omega
set_option maxRecDepth 100000 in
theorem subtext_any (b : Int) (w : World) (ht : Tens w) (h0 : 0 ≤ b) (h1 : b ≤ 255) :
    Calls Tryd.prog 101 #[.int .i64 b] w fun e w' => e = .returned (.string (subT b)) ∧ Below w.heap.size w w' := by
  by_cases h3 : b = 0 ∨ b = 1 ∨ b = 2
  · rcases h3 with rfl | rfl | rfl
    all_goals
      go_enter Tryd.func101, Tryd.ntmps101
      go_wp2
      go_ret
      exact ⟨rfl, bl_refl w⟩
  · have s1 := decB_size (n := b) (by omega)
    have q0 : (b == 0) = false := by simp; omega
    have q1 : (b == 1) = false := by simp; omega
    have q2 : (b == 2) = false := by simp; omega
    have n1 : ¬ 9223372036854775807 < 4 + (decB b).size := by omega
    have hT : Hid (subT b = ⟨#[115, 117, 98, 32]⟩ ++ decB b) := Lib.hid (by unfold subT; rw [if_neg (by omega), if_neg (by omega), if_neg (by omega)])
    clear h3
    go_enter Tryd.func101, Tryd.ntmps101
    go_wp2_with fail
    refine (itoa_any b h0 (by omega) _ ht).mono ?_
    rintro e w1 ⟨rfl, hb1⟩
    go_wp2
    go_ret
    refine ⟨?_, hb1⟩
    rw [hT.out]
    rfl
set_option maxRecDepth 100000 in
set_option maxHeartbeats 800000 in
theorem famtext_any (a b c : Int) (w : World) (hf : Fams w) (ht : Tens w) (h0 : 0 ≤ a) (h1 : a ≤ 65535) (h2 : 0 ≤ c) (h3 : c ≤ 255) :
    Calls Tryd.prog 102 #[.agg #[.int .i64 a, .int .i64 b, .int .i64 c]] w fun e w' => e = .returned (.string (famT a c)) ∧ Below w.heap.size w w' := by
  have hb0 := bl_alloc (bl_refl w) (.cells #[.int .i64 a, .int .i64 b, .int .i64 c] 70)
  have hf1 := hf.alloc (.cells #[.int .i64 a, .int .i64 b, .int .i64 c] 70)
  have o0 := Own.new w 70 #[.int .i64 a, .int .i64 b, .int .i64 c]
  have s1 := decB_size (n := a) (by omega)
  have s2 := decB_size (n := c) (by omega)
  have n1 : ¬ 9223372036854775807 < (decB a).size + 1 := by omega
  have n2 : ¬ 9223372036854775807 < (decB a).size + 1 + (decB c).size := by omega
  have hcs := famOf_cases a c
  rcases hcs with h | h | h
  all_goals
    have HF := Lib.hid h
    clear h
    go_enter Tryd.func102, Tryd.ntmps102
    go_wp2_with fail
    refine (rffamily_any a b c _ hf1 h0 h1 h2 h3).mono ?_
    rw [HF.out]
    rintro e wa ⟨rfl, hba⟩
    have hb1 := bl_trans hb0 hba
    have o1 := o0.step hba
    have ht1 := ht.below hb1
    clear hb0 hf1 o0 hba
  · go_wp2_with fail
    have ha := Lib.hid (rg_of (w := wa) (fun W hW => itoa_any a h0 (by omega) W (ht1.below hW)))
    have hc := Lib.hid (rg_of (w := wa) (fun W hW => itoa_any c h2 (by omega) W (ht1.below hW)))
    have q0 := cell_regrown (o1.cell (i := 0) (v := .int .i64 a) rfl)
    have q2 := cell_regrown (o1.cell (i := 2) (v := .int .i64 c) rfl)
    refine wp_region_quiet_below (by kernel_rfl) (by kernel_rfl) ?_
    repeat (go_big_quiet_step (with_reducible first | exact ha.out _ _ | exact hc.out _ _))
    refine wpQuiet_nil ?_
    rintro _ ⟨⟨dq, osq⟩, rfl⟩
    have hb2 := bl_trans hb1 (below_regrown wa dq osq)
    generalize grow (redrawn wa dq) osq = w2 at *
    go_wp2
    go_ret
    refine ⟨?_, hb2⟩
    unfold famT
    rw [HF.out]
    rfl
  all_goals
    go_wp2
    go_ret
    refine ⟨?_, hb1⟩
    unfold famT
    rw [HF.out]
    rfl
set_option maxRecDepth 100000 in
set_option maxHeartbeats 800000 in
theorem rftext_any (a b c : Int) (w : World) (hf : Fams w) (ht : Tens w) (hk : rfOk a b c = true) :
    Calls Tryd.prog 59 #[.agg #[.int .i64 a, .int .i64 b, .int .i64 c]] w fun e w' => e = .returned (.string (rfT a b c)) ∧ Below w.heap.size w w' := by
  obtain ⟨h0, h1, h2, h3, h4, h5⟩ := rfOk_bounds hk
  have HK := Lib.hid hk
  have hb0 := bl_alloc (bl_refl w) (.cells #[.int .i64 a, .int .i64 b, .int .i64 c] 70)
  have o0 := Own.new w 70 #[.int .i64 a, .int .i64 b, .int .i64 c]
  have s1 := subT_size (b := b) h3
  have s2 := famT_size (a := a) (c := c) h1 h5
  have n1 : ¬ 9223372036854775807 < (subT b).size + 1 := by omega
  have n2 : ¬ 9223372036854775807 < (subT b).size + 1 + (famT a c).size := by omega
  clear hk
  go_enter Tryd.func59, Tryd.ntmps59
  go_wp2_with fail
  refine (rfvalid_any a b c _).mono ?_
  rw [HK.out]
  rintro e wa ⟨rfl, hba⟩
  have hb1 := bl_trans hb0 hba
  have o1 := o0.step hba
  have ht1 := ht.below hb1
  have hf1 := hf.below hb1
  clear hb0 o0 hba
  go_wp2_with fail
  have ha := Lib.hid (rg_of (w := wa) (fun W hW => subtext_any b W (ht1.below hW) h2 h3))
  have hc := Lib.hid (rg_of (w := wa) (fun W hW => famtext_any a b c W (hf1.below hW) (ht1.below hW) h0 h1 h4 h5))
  have q1 := cell_regrown (o1.cell (i := 1) (v := .int .i64 b) rfl)
  refine wp_region_quiet_below (by kernel_rfl) (by kernel_rfl) ?_
  repeat (first
    | (refine wpQuiet_load_row (by rfl) 70 _ rfl w.heap.size rfl 70 #[.int .i64 a, .int .i64 b, .int .i64 c] (.struct (Tryd.prog.fieldsOf 70)) o1.rg (by kernel_rfl) rfl (rfh_info _ _ _) ?_; go_simp)
    | go_big_quiet_step (with_reducible first | exact ha.out _ _ | exact hc.out _ _))
  refine wpQuiet_nil ?_
  rintro ⟨dq, osq⟩
  have hb2 := bl_trans hb1 (below_regrown wa dq osq)
  generalize grow (redrawn wa dq) osq = w2 at *
  go_wp2
  go_ret
  exact ⟨rfl, hb2⟩
end Go.Proofs.YtiehbmhekncbhaaDoor

/- peerageref19.Text, peerageref19.Bytes -/
import Derived.Test.YtiehbmhekncbhaaDoorRfT
namespace Go.Proofs.YtiehbmhekncbhaaDoor
open Go.RowKit Go.Sort

def lits3 : Array Value := #[.string ⟨#[114, 101, 102, 114, 101, 115, 104]⟩, .string ⟨#[98, 101, 103, 105, 110]⟩, .string ⟨#[101, 110, 100]⟩]
theorem rftT_1 (S : ByteArray) : S ++ ⟨#[32, 105, 112, 118, 52]⟩ = S ++ ⟨#[32]⟩ ++ ⟨#[105, 112, 118, 52]⟩ := by
  rw [ByteArray.append_assoc]; rfl
theorem rftT_2 (S : ByteArray) : S ++ ⟨#[32, 105, 112, 118, 54]⟩ = S ++ ⟨#[32]⟩ ++ ⟨#[105, 112, 118, 54]⟩ := by
  rw [ByteArray.append_assoc]; rfl
/-- What stands behind the sub's text: r6 to r11. -/
theorem rrftext_parts (a c : Int) (S : ByteArray) : (famOf a c = 1 → S ++ ⟨#[32, 105, 112, 118, 52]⟩ = S ++ ⟨#[32]⟩ ++ famT a c) ∧ (famOf a c = 2 → S ++ ⟨#[32, 105, 112, 118, 54]⟩ = S ++ ⟨#[32]⟩ ++ famT a c) ∧ (famOf a c = 0 → S ++ ⟨#[32]⟩ ++ decB a ++ ⟨#[47]⟩ ++ decB c = S ++ ⟨#[32]⟩ ++ famT a c) := by
  unfold famT
  refine ⟨fun h => ?_, fun h => ?_, fun h => ?_⟩
  · rw [h]; exact rftT_1 S
  · rw [h]; exact rftT_2 S
  · rw [h, if_neg (by decide), if_neg (by decide)]
    simp only [ByteArray.append_assoc]
set_option maxRecDepth 100000 in
set_option maxHeartbeats 1600000 in
theorem rrftext_any (a b c : Int) (w : World) (hk : rfOk a b c = true) :
    Calls Tryd.prog 60 #[.agg #[.int .i64 a, .int .i64 b, .int .i64 c]] w fun e w' => e = .returned (.string (rfT a b c)) ∧ Below w.heap.size w w' := by
  obtain ⟨h0, h1, h2, h3, h4, h5⟩ := rfOk_bounds hk
  have HK := Lib.hid hk
  have hb0 := bl_alloc (bl_refl w) (.cells #[.int .i64 a, .int .i64 b, .int .i64 c] 68)
  have o0 := Own.new w 68 #[.int .i64 a, .int .i64 b, .int .i64 c]
  have s0 := decB_size (n := b) (by omega)
  have s1 := subT_size (b := b) h3
  have s3 := decB_size (n := a) (by omega)
  have s4 := decB_size (n := c) (by omega)
  have n0 : ¬ 9223372036854775807 < 4 + (decB b).size := by omega
  clear hk
  go_enter Tryd.func60, Tryd.ntmps60
  go_wp2_with fail
  refine (rrfvalid_any a b c _).mono ?_
  rw [HK.out]
  rintro e w1 ⟨rfl, hb1⟩
  have o1 := o0.step hb1
  have hb2 := bl_trans hb0 hb1
  obtain ⟨c0, c1, c2⟩ := own_thr o1
  go_wp2_with fail
  refine (rdecimal_any b h2 (by omega) _).mono ?_
  rintro e w2 ⟨rfl, hb3⟩
  have o2 := o1.step hb3
  have hb4 := bl_trans hb2 hb3
  have hlt := o2.lt
  clear o0 o1 hb0 hb1 hb2 hb3 c0 c1 c2
  obtain ⟨c0, c1, c2⟩ := own_thr o2
  have m0 : ¬ 9223372036854775807 < (subT b).size + 5 := by omega
  have m1 : ¬ 9223372036854775807 < (subT b).size + 1 := by omega
  have m2 : ¬ 9223372036854775807 < (subT b).size + 1 + (decB a).size := by omega
  have m3 : ¬ 9223372036854775807 < (subT b).size + 1 + (decB a).size + 1 := by omega
  have m4 : ¬ 9223372036854775807 < (subT b).size + 1 + (decB a).size + 1 + (decB c).size := by omega
  have hP := Lib.hid (rrftext_parts a c (subT b))
  have hT : Hid (rfT a b c = subT b ++ ⟨#[32]⟩ ++ famT a c) := Lib.hid rfl
  have hcases : b = 0 ∨ b = 1 ∨ b = 2 ∨ 3 ≤ b := by omega
  rcases hcases with rfl | rfl | rfl | hb3
  · go_wp2_with fail
    have o3 := o2.alloc (.cells lits3 9)
    have hb5 := bl_alloc hb4 (.cells lits3 9)
    unfold lits3 at o3 hb5
    generalize w2.alloc (.cells #[.string ⟨#[114, 101, 102, 114, 101, 115, 104]⟩, .string ⟨#[98, 101, 103, 105, 110]⟩, .string ⟨#[101, 110, 100]⟩] 9) = w3 at *
    have hS : Hid ((⟨#[114, 101, 102, 114, 101, 115, 104]⟩ : ByteArray) = subT 0) := Lib.hid rfl
    rw [hS.out]
    clear hS c0 c1 c2 hlt o2 hb4 s0 s1 s3 s4 n0
    refine (rrffamily_any a _ c _ h0 h1 h4 h5).mono ?_
    rintro e w4 ⟨rfl, hb6⟩
    have o4 := o3.step hb6
    have hb7 := bl_trans hb5 hb6
    obtain ⟨c0, c1, c2⟩ := own_thr o4
    clear o3 hb5 hb6
    rcases famOf_cases a c with h | h | h
    all_goals
      have HF := Lib.hid h
      clear h
      rw [HF.out]
    · go_wp2_with fail
      have ha := Lib.hid (rg_of (w := w4) (fun W _ => rdecimal_any a h0 (by omega) W))
      have hc := Lib.hid (rg_of (w := w4) (fun W _ => rdecimal_any c h4 (by omega) W))
      have q0 := cell_regrown c0
      have q2 := cell_regrown c2
      refine wp_region_quiet_below (by kernel_rfl) (by kernel_rfl) ?_
      repeat (go_big_quiet_step (with_reducible first | exact ha.out _ _ | exact hc.out _ _))
      refine wpQuiet_nil ?_
      rintro _ ⟨⟨dq, osq⟩, rfl⟩
      have hb8 := bl_trans hb7 (below_regrown w4 dq osq)
      generalize grow (redrawn w4 dq) osq = w5 at *
      go_wp2
      go_ret
      refine ⟨?_, hb8⟩
      rw [hT.out, ← hP.out.2.2 HF.out]
      rfl
    · go_wp2
      go_ret
      refine ⟨?_, hb7⟩
      rw [hT.out, ← hP.out.1 HF.out]
      rfl
    · go_wp2
      go_ret
      refine ⟨?_, hb7⟩
      rw [hT.out, ← hP.out.2.1 HF.out]
      rfl
  · go_wp2_with fail
    have o3 := o2.alloc (.cells lits3 9)
    have hb5 := bl_alloc hb4 (.cells lits3 9)
    unfold lits3 at o3 hb5
    generalize w2.alloc (.cells #[.string ⟨#[114, 101, 102, 114, 101, 115, 104]⟩, .string ⟨#[98, 101, 103, 105, 110]⟩, .string ⟨#[101, 110, 100]⟩] 9) = w3 at *
    have hS : Hid ((⟨#[98, 101, 103, 105, 110]⟩ : ByteArray) = subT 1) := Lib.hid rfl
    rw [hS.out]
    clear hS c0 c1 c2 hlt o2 hb4 s0 s1 s3 s4 n0
    refine (rrffamily_any a _ c _ h0 h1 h4 h5).mono ?_
    rintro e w4 ⟨rfl, hb6⟩
    have o4 := o3.step hb6
    have hb7 := bl_trans hb5 hb6
    obtain ⟨c0, c1, c2⟩ := own_thr o4
    clear o3 hb5 hb6
    rcases famOf_cases a c with h | h | h
    all_goals
      have HF := Lib.hid h
      clear h
      rw [HF.out]
    · go_wp2_with fail
      have ha := Lib.hid (rg_of (w := w4) (fun W _ => rdecimal_any a h0 (by omega) W))
      have hc := Lib.hid (rg_of (w := w4) (fun W _ => rdecimal_any c h4 (by omega) W))
      have q0 := cell_regrown c0
      have q2 := cell_regrown c2
      refine wp_region_quiet_below (by kernel_rfl) (by kernel_rfl) ?_
      repeat (go_big_quiet_step (with_reducible first | exact ha.out _ _ | exact hc.out _ _))
      refine wpQuiet_nil ?_
      rintro _ ⟨⟨dq, osq⟩, rfl⟩
      have hb8 := bl_trans hb7 (below_regrown w4 dq osq)
      generalize grow (redrawn w4 dq) osq = w5 at *
      go_wp2
      go_ret
      refine ⟨?_, hb8⟩
      rw [hT.out, ← hP.out.2.2 HF.out]
      rfl
    · go_wp2
      go_ret
      refine ⟨?_, hb7⟩
      rw [hT.out, ← hP.out.1 HF.out]
      rfl
    · go_wp2
      go_ret
      refine ⟨?_, hb7⟩
      rw [hT.out, ← hP.out.2.1 HF.out]
      rfl
  · go_wp2_with fail
    have o3 := o2.alloc (.cells lits3 9)
    have hb5 := bl_alloc hb4 (.cells lits3 9)
    unfold lits3 at o3 hb5
    generalize w2.alloc (.cells #[.string ⟨#[114, 101, 102, 114, 101, 115, 104]⟩, .string ⟨#[98, 101, 103, 105, 110]⟩, .string ⟨#[101, 110, 100]⟩] 9) = w3 at *
    have hS : Hid ((⟨#[101, 110, 100]⟩ : ByteArray) = subT 2) := Lib.hid rfl
    rw [hS.out]
    clear hS c0 c1 c2 hlt o2 hb4 s0 s1 s3 s4 n0
    refine (rrffamily_any a _ c _ h0 h1 h4 h5).mono ?_
    rintro e w4 ⟨rfl, hb6⟩
    have o4 := o3.step hb6
    have hb7 := bl_trans hb5 hb6
    obtain ⟨c0, c1, c2⟩ := own_thr o4
    clear o3 hb5 hb6
    rcases famOf_cases a c with h | h | h
    all_goals
      have HF := Lib.hid h
      clear h
      rw [HF.out]
    · go_wp2_with fail
      have ha := Lib.hid (rg_of (w := w4) (fun W _ => rdecimal_any a h0 (by omega) W))
      have hc := Lib.hid (rg_of (w := w4) (fun W _ => rdecimal_any c h4 (by omega) W))
      have q0 := cell_regrown c0
      have q2 := cell_regrown c2
      refine wp_region_quiet_below (by kernel_rfl) (by kernel_rfl) ?_
      repeat (go_big_quiet_step (with_reducible first | exact ha.out _ _ | exact hc.out _ _))
      refine wpQuiet_nil ?_
      rintro _ ⟨⟨dq, osq⟩, rfl⟩
      have hb8 := bl_trans hb7 (below_regrown w4 dq osq)
      generalize grow (redrawn w4 dq) osq = w5 at *
      go_wp2
      go_ret
      refine ⟨?_, hb8⟩
      rw [hT.out, ← hP.out.2.2 HF.out]
      rfl
    · go_wp2
      go_ret
      refine ⟨?_, hb7⟩
      rw [hT.out, ← hP.out.1 HF.out]
      rfl
    · go_wp2
      go_ret
      refine ⟨?_, hb7⟩
      rw [hT.out, ← hP.out.2.1 HF.out]
      rfl
  · have hq : decide (b < 3) = false := by simp; omega
    go_wp2_with fail
    have o3 := o2
    have hb5 := hb4
    generalize w2 = w3 at *
    have hS : Hid ((⟨#[115, 117, 98, 32]⟩ : ByteArray) ++ decB b = subT b) := Lib.hid (by unfold subT; rw [if_neg (by omega), if_neg (by omega), if_neg (by omega)])
    rw [hS.out]
    clear hS c0 c1 c2 hlt o2 hb4 s0 s1 s3 s4 n0
    refine (rrffamily_any a _ c _ h0 h1 h4 h5).mono ?_
    rintro e w4 ⟨rfl, hb6⟩
    have o4 := o3.step hb6
    have hb7 := bl_trans hb5 hb6
    obtain ⟨c0, c1, c2⟩ := own_thr o4
    clear o3 hb5 hb6
    rcases famOf_cases a c with h | h | h
    all_goals
      have HF := Lib.hid h
      clear h
      rw [HF.out]
    · go_wp2_with fail
      have ha := Lib.hid (rg_of (w := w4) (fun W _ => rdecimal_any a h0 (by omega) W))
      have hc := Lib.hid (rg_of (w := w4) (fun W _ => rdecimal_any c h4 (by omega) W))
      have q0 := cell_regrown c0
      have q2 := cell_regrown c2
      refine wp_region_quiet_below (by kernel_rfl) (by kernel_rfl) ?_
      repeat (go_big_quiet_step (with_reducible first | exact ha.out _ _ | exact hc.out _ _))
      refine wpQuiet_nil ?_
      rintro _ ⟨⟨dq, osq⟩, rfl⟩
      have hb8 := bl_trans hb7 (below_regrown w4 dq osq)
      generalize grow (redrawn w4 dq) osq = w5 at *
      go_wp2
      go_ret
      refine ⟨?_, hb8⟩
      rw [hT.out, ← hP.out.2.2 HF.out]
      rfl
    · go_wp2
      go_ret
      refine ⟨?_, hb7⟩
      rw [hT.out, ← hP.out.1 HF.out]
      rfl
    · go_wp2
      go_ret
      refine ⟨?_, hb7⟩
      rw [hT.out, ← hP.out.2.1 HF.out]
      rfl
end Go.Proofs.YtiehbmhekncbhaaDoor

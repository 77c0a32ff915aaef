/- finding.Text at Notify -/
import Derived.Test.YtmcmhljonkijjaaDoorFnB
namespace Go.Proofs.YtmcmhljonkijjaaDoor
open Go.RowKit Go.Sort

theorem vNote_size {c s : Int} (hc : c ≤ 6) (hs : s ≤ 255) : (vNote c s).size ≤ 50 := by
  have h1 := decB_size (n := c) (by omega)
  have h2 := decB_size (n := s) (by omega)
  unfold vNote
  simp only [ByteArray.size_append]
  show 7 + (decB c).size + 1 + (decB s).size ≤ 50
  omega
set_option maxRecDepth 100000 in
set_option maxHeartbeats 1600000 in
theorem ftext_note (c s t : Int) (A : Option Addr) (n cp : Nat) (xs : List Int) (w : World) (ht : Tens w) (hx : Bytes w w.heap.size A n xs) (hn : n ≤ 1000000) (h1 : t ≤ 9223372036854775807) (hk : vdOk 4 c s n t = true) :
    Calls Tryd.prog 45 #[.agg #[.int .i64 4, .int .i64 c, .int .i64 s, .slice A n cp, .int .i64 t]] w fun e w' => e = .returned (.string (vtext 4 c s xs t)) ∧ Below w.heap.size w w' := by
  have hf := vdOk_facts hk
  have h0 := hf.1
  have hcs : 1 ≤ c ∧ c ≤ 6 ∧ 0 ≤ s ∧ s ≤ 255 := by omega
  obtain ⟨hc1, hc2, hs1, hs2⟩ := hcs
  have HK := Lib.hid hk
  have HX := Lib.hid hx
  have z1 := decB_size h1
  have z2 := decB_size (n := c) (by omega)
  have z3 := decB_size (n := s) (by omega)
  have z4 := vNote_size hc2 hs2
  have z5 : (hexB xs).size ≤ 2000000 := by rw [hexB_size]; have := hx.1; omega
  clear hf hk hx
  have hb := bl_alloc (bl_refl w) (.cells #[.int .i64 4, .int .i64 c, .int .i64 s, .slice A n cp, .int .i64 t] 40)
  have o0 := Own.new w 40 #[.int .i64 4, .int .i64 c, .int .i64 s, .slice A n cp, .int .i64 t]
  have n1 : ¬ 9223372036854775807 < 7 + (decB c).size := by omega
  have n2 : ¬ 9223372036854775807 < 7 + (decB c).size + 1 := by omega
  have n3 : ¬ 9223372036854775807 < 7 + (decB c).size + 1 + (decB s).size := by omega
  go_enter Tryd.func45, Tryd.ntmps45
  go_wp2_with fail
  refine (fproper_any 4 c s t A n cp _).mono ?_
  rw [HK.out]
  rintro e w1 ⟨rfl, hb1⟩
  have o1 := o0.step hb1
  obtain ⟨c0, c1, c2, c3, c4⟩ := vd_cells o1
  have hb2 := bl_trans hb hb1
  have ht1 := ht.below hb2
  clear hb hb1 o0
  go_wp2_with fail
  have hc := Lib.hid (rg_of (w := w1) (fun W hW => itoa_any c (by omega) (by omega) W (ht1.below hW)))
  have hs := Lib.hid (rg_of (w := w1) (fun W hW => itoa_any s hs1 (by omega) W (ht1.below hW)))
  have q1 := cell_regrown c1
  have q2 := cell_regrown c2
  refine wp_region_quiet_below (by kernel_rfl) (by kernel_rfl) ?_
  repeat (go_big_quiet_step (first | exact hc.out _ _ | exact hs.out _ _))
  refine wpQuiet_nil ?_
  rintro _ ⟨⟨dq, osq⟩, rfl⟩
  have hg := below_regrown w1 dq osq
  have o2 := o1.step hg
  have hb3 := bl_trans hb2 hg
  generalize grow (redrawn w1 dq) osq = w2 at *
  clear c0 c1 c2 c3 c4 q1 q2 hc hs o1 ht1 hb2 hg n1 n2 n3
  obtain ⟨c0, c1, c2, c3, c4⟩ := vd_cells o2
  have ht2 := ht.below hb3
  have hx2 := (HX.out.below hb3).more hb3.size
  have hN : Hid (⟨#[110, 111, 116, 105, 102, 121, 32]⟩ ++ decB c ++ ⟨#[32]⟩ ++ decB s = vNote c s) := Lib.hid rfl
  rw [hN.out]
  generalize hV : vNote c s = V at *
  have HV := Lib.hid hV
  clear hV hN
  by_cases hn0 : n = 0
  · have hxs : xs = [] := List.length_eq_zero_iff.1 (by rw [← HX.out.1]; exact hn0)
    subst hn0 hxs
    have m1 : ¬ 9223372036854775807 < V.size + 4 := by omega
    have m2 : ¬ 9223372036854775807 < V.size + 4 + (decB t).size := by omega
    go_wp2_with fail
    refine (itoa_any t h0 h1 _ ht2).mono ?_
    rintro e w3 ⟨rfl, hb4⟩
    go_wp2
    go_ret
    refine ⟨?_, bl_trans hb3 hb4⟩
    unfold vtext vAt
    rw [HV.out]
    rfl
  · have m0 : ¬ 9223372036854775807 < 1 + (hexB xs).size := by omega
    have m1 : ¬ 9223372036854775807 < V.size + (1 + (hexB xs).size) := by omega
    have m2 : ¬ 9223372036854775807 < V.size + (1 + (hexB xs).size) + 4 := by omega
    have m3 : ¬ 9223372036854775807 < V.size + (1 + (hexB xs).size) + 4 + (decB t).size := by omega
    have hn1 : (0 : Int) < (n : Int) := by omega
    have hxs : Hid (xs ≠ []) := Lib.hid (by rintro rfl; exact hn0 (by rw [HX.out.1]; rfl))
    go_wp2_with fail
    refine (hex_any A n cp xs _ hx2 hn).mono ?_
    rintro e w3 ⟨rfl, hb4⟩
    obtain ⟨d0, d1, d2, d3, d4⟩ := vd_cells (o2.step hb4)
    have ht3 := ht2.below hb4
    go_wp2_with fail
    refine (itoa_any t h0 h1 _ ht3).mono ?_
    rintro e w4 ⟨rfl, hb5⟩
    go_wp2
    go_ret
    refine ⟨?_, bl_trans (bl_trans hb3 hb4) hb5⟩
    unfold vtext vAt
    rw [HV.out, if_neg (show ¬ (4 : Int) = 0 by decide), if_neg (show ¬ (4 : Int) = 1 by decide), if_neg (show ¬ (4 : Int) = 2 by decide), if_neg (show ¬ (4 : Int) = 3 by decide), if_neg hxs.out]
    rfl
theorem vtext_nil {k c s t : Int} {n : Nat} {xs : List Int} (hk : vdOk k c s n t = true) (h4 : k ≠ 4) : vtext k c s xs t = vtext k c s [] t := by
  have := vdOk_facts hk
  unfold vtext
  split
  · rfl
  · split
    · rfl
    · split
      · rfl
      · have h3 : k = 3 := by omega
        rw [if_pos h3, if_pos h3]
set_option maxRecDepth 100000 in
theorem ftext_any (k c s t : Int) (A : Option Addr) (n cp : Nat) (xs : List Int) (w : World) (ht : Tens w) (hx : Bytes w w.heap.size A n xs) (hn : n ≤ 1000000) (h1 : t ≤ 9223372036854775807) :
    Calls Tryd.prog 45 #[.agg #[.int .i64 k, .int .i64 c, .int .i64 s, .slice A n cp, .int .i64 t]] w fun e w' => e = .returned (.string (if vdOk k c s n t = true then vtext k c s xs t else ⟨#[]⟩)) ∧ Below w.heap.size w w' := by
  by_cases hk : vdOk k c s n t = true
  · rw [if_pos hk]
    by_cases h4 : k = 4
    · subst h4
      exact ftext_note c s t A n cp xs w ht hx hn h1 hk
    · rw [vtext_nil hk h4]
      exact ftext_few k c s t A n cp w ht h1 hk h4
  · rw [if_neg hk]
    exact ftext_no k c s t A n cp w (by simpa using hk)
end Go.Proofs.YtmcmhljonkijjaaDoor

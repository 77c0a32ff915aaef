/- peerageref11.Text at Notify; both texts -/
import Derived.Test.YtiehbmhekncbhaaDoorFnD
namespace Go.Proofs.YtiehbmhekncbhaaDoor
open Go.RowKit Go.Sort

def lits5 : Array Value := #[.string ⟨#[97, 99, 99, 101, 112, 116]⟩, .string ⟨#[100, 105, 115, 99, 97, 114, 100]⟩, .string ⟨#[119, 105, 116, 104, 100, 114, 97, 119]⟩, .string ⟨#[114, 101, 115, 101, 116]⟩, .string ⟨#[110, 111, 116, 105, 102, 121]⟩]
theorem vNote_ref (c s : Int) : (⟨#[110, 111, 116, 105, 102, 121]⟩ : ByteArray) ++ ⟨#[32]⟩ ++ decB c ++ ⟨#[32]⟩ ++ decB s = vNote c s := rfl
set_option maxRecDepth 100000 in
set_option maxHeartbeats 1600000 in
theorem rvtext_note (c s t : Int) (A : Option Addr) (n cp : Nat) (xs : List Int) (w : World) (hx : Bytes w w.heap.size A n xs) (hn : n ≤ 1000000) (h1 : t ≤ 9223372036854775807) (hk : vdOk 4 c s n t = true) :
    Calls Tryd.prog 45 #[.agg #[.int .i64 4, .int .i64 c, .int .i64 s, .slice A n cp, .int .i64 t]] w fun e w' => e = .returned (.string (vtext 4 c s xs t)) ∧ Below w.heap.size w w' := by
  have hf := vdOk_facts hk
  have h0 := hf.1
  have hcs : 1 ≤ c ∧ c ≤ 6 ∧ 0 ≤ s ∧ s ≤ 255 := by omega
  obtain ⟨hc1, hc2, hs1, hs2⟩ := hcs
  have HK := Lib.hid hk
  have HX := Lib.hid hx
  have z1 := decB_size h1
  have z2 := decB_size (n := c) (by omega)
  have z3 := decB_size (n := s) (by omega)
  have z4 := vNote_size hc2 hs2
  have z5 : (hexB xs).size ≤ 2000000 := by rw [hexB_size]; have := hx.1; omega
  clear hf hk hx
  have hb := bl_alloc (bl_refl w) (.cells #[.int .i64 4, .int .i64 c, .int .i64 s, .slice A n cp, .int .i64 t] 51)
  have o0 := Own.new w 51 #[.int .i64 4, .int .i64 c, .int .i64 s, .slice A n cp, .int .i64 t]
  have n1 : ¬ 9223372036854775807 < 7 + (decB c).size := by omega
  have n2 : ¬ 9223372036854775807 < 7 + (decB c).size + 1 := by omega
  have n3 : ¬ 9223372036854775807 < 7 + (decB c).size + 1 + (decB s).size := by omega
  go_enter Tryd.func45, Tryd.ntmps45
  go_wp2_with fail
  refine (rproper_any 4 c s t A n cp _).mono ?_
  rw [HK.out]
  rintro e w1 ⟨rfl, hb1⟩
  have o1 := o0.step hb1
  obtain ⟨c0, c1, c2, c3, c4⟩ := vd_cells o1
  have hb2 := bl_trans hb hb1
  have hlt := o1.lt
  clear hb hb1 o0
  go_wp2_with fail
  have o1' := o1.alloc (.cells lits5 9)
  have hb2' := bl_alloc hb2 (.cells lits5 9)
  unfold lits5 at o1' hb2'
  clear c0 c1 c2 c3 c4 hlt o1 hb2
  generalize w1.alloc (.cells #[.string ⟨#[97, 99, 99, 101, 112, 116]⟩, .string ⟨#[100, 105, 115, 99, 97, 114, 100]⟩, .string ⟨#[119, 105, 116, 104, 100, 114, 97, 119]⟩, .string ⟨#[114, 101, 115, 101, 116]⟩, .string ⟨#[110, 111, 116, 105, 102, 121]⟩] 9) = w2 at *
  have hc := Lib.hid (rg_of (w := w2) (fun W _ => rdecimal_any c (by omega) (by omega) W))
  have hs := Lib.hid (rg_of (w := w2) (fun W _ => rdecimal_any s hs1 (by omega) W))
  have q1 := cell_regrown (vd_cells o1').2.1
  have q2 := cell_regrown (vd_cells o1').2.2.1
  refine wp_region_quiet_below (by kernel_rfl) (by kernel_rfl) ?_
  repeat (go_big_quiet_step (first | exact hc.out _ _ | exact hs.out _ _))
  refine wpQuiet_nil ?_
  rintro _ ⟨⟨dq, osq⟩, rfl⟩
  have hg := below_regrown w2 dq osq
  have o2 := o1'.step hg
  have hb3 := bl_trans hb2' hg
  generalize grow (redrawn w2 dq) osq = w3 at *
  clear q1 q2 hc hs o1' hb2' hg n1 n2 n3
  obtain ⟨c0, c1, c2, c3, c4⟩ := vd_cells o2
  have hx2 := (HX.out.below hb3).more hb3.size
  have hN := Lib.hid (vNote_ref c s)
  rw [hN.out]
  generalize hV : vNote c s = V at *
  have HV := Lib.hid hV
  clear hV hN
  by_cases hn0 : n = 0
  · have hxs : xs = [] := List.length_eq_zero_iff.1 (by rw [← HX.out.1]; exact hn0)
    subst hn0 hxs
    have m1 : ¬ 9223372036854775807 < V.size + 4 := by omega
    have m2 : ¬ 9223372036854775807 < V.size + 4 + (decB t).size := by omega
    go_wp2_with fail
    refine (rdecimal_any t h0 h1 _).mono ?_
    rintro e w4 ⟨rfl, hb4⟩
    go_wp2
    go_ret
    refine ⟨?_, bl_trans hb3 hb4⟩
    unfold vtext vAt
    rw [HV.out]
    rfl
  · have m0 : ¬ 9223372036854775807 < V.size + 1 := by omega
    have m1 : ¬ 9223372036854775807 < V.size + 1 + (hexB xs).size := by omega
    have m2 : ¬ 9223372036854775807 < V.size + 1 + (hexB xs).size + 4 := by omega
    have m3 : ¬ 9223372036854775807 < V.size + 1 + (hexB xs).size + 4 + (decB t).size := by omega
    have hn1 : (0 : Int) < (n : Int) := by omega
    have hxs : Hid (xs ≠ []) := Lib.hid (by rintro rfl; exact hn0 (by rw [HX.out.1]; rfl))
    go_wp2_with fail
    refine (rhex_any A n cp xs _ hx2 hn).mono ?_
    rintro e w4 ⟨rfl, hb4⟩
    obtain ⟨d0, d1, d2, d3, d4⟩ := vd_cells (o2.step hb4)
    go_wp2_with fail
    refine (rdecimal_any t h0 h1 _).mono ?_
    rintro e w5 ⟨rfl, hb5⟩
    go_wp2
    go_ret
    refine ⟨?_, bl_trans (bl_trans hb3 hb4) hb5⟩
    unfold vtext vAt
    rw [HV.out, if_neg (show ¬ (4 : Int) = 0 by decide), if_neg (show ¬ (4 : Int) = 1 by decide), if_neg (show ¬ (4 : Int) = 2 by decide), if_neg (show ¬ (4 : Int) = 3 by decide), if_neg hxs.out, ← ByteArray.append_assoc]
    rfl
set_option maxRecDepth 100000 in
theorem rvtext_any (k c s t : Int) (A : Option Addr) (n cp : Nat) (xs : List Int) (w : World) (hx : Bytes w w.heap.size A n xs) (hn : n ≤ 1000000) (h1 : t ≤ 9223372036854775807) :
    Calls Tryd.prog 45 #[.agg #[.int .i64 k, .int .i64 c, .int .i64 s, .slice A n cp, .int .i64 t]] w fun e w' => e = .returned (.string (if vdOk k c s n t = true then vtext k c s xs t else ⟨#[]⟩)) ∧ Below w.heap.size w w' := by
  by_cases hk : vdOk k c s n t = true
  · rw [if_pos hk]
    by_cases h4 : k = 4
    · subst h4
      exact rvtext_note c s t A n cp xs w hx hn h1 hk
    · rw [vtext_nil hk h4]
      exact rvtext_few k c s t A n cp w h1 hk h4
  · rw [if_neg hk]
    exact rvtext_no k c s t A n cp w (by simpa using hk)
theorem dec_3 : Lib.decDigits 3 = [51] := by rw [Lib.decDigits_one (by omega)]; rfl
theorem dec_5 : Lib.decDigits 5 = [53] := by rw [Lib.decDigits_one (by omega)]; rfl
theorem dec_30 : Lib.decDigits 30 = [51, 48] := by rw [Lib.decDigits_two (by omega) (by omega)]; rfl
theorem ex11_text : vtext 4 3 5 [1, 2] 30 = ⟨#[110, 111, 116, 105, 102, 121, 32, 51, 32, 53, 32, 48, 49, 48, 50, 32, 97, 116, 32, 51, 48]⟩ := by
  have h1 : decB 3 = ⟨#[51]⟩ := congrArg (fun l : List UInt8 => ByteArray.mk l.toArray) dec_3
  have h2 : decB 5 = ⟨#[53]⟩ := congrArg (fun l : List UInt8 => ByteArray.mk l.toArray) dec_5
  have h3 : decB 30 = ⟨#[51, 48]⟩ := congrArg (fun l : List UInt8 => ByteArray.mk l.toArray) dec_30
  unfold vtext vAt vNote
  rw [h1, h2, h3]
  decide +kernel
set_option maxRecDepth 100000 in
/-- alive of layer 11. -/
theorem alive11_any (w : World) (ht : Tens w) : Calls Tryd.prog 37 #[] w fun e w' => e = .returned (.bool true) ∧ Below w.heap.size w w' := by
  have hb := bl_alloc (bl_refl w) (.cells #[.int .u8 1, .int .u8 2] 5)
  have hy := Bytes.of_owned (xs := [1, 2]) (Own.new w 5 #[.int .u8 1, .int .u8 2]) (by decide) (Own.new w 5 #[.int .u8 1, .int .u8 2]).lt
  have ht1 := ht.below hb
  have HE := Lib.hid ex11_text
  go_enter Tryd.func37, Tryd.ntmps37
  go_wp2_with fail
  refine (ftext_any 4 3 5 30 _ 2 2 [1, 2] _ ht1 hy (by omega) (by omega)).mono ?_
  rw [if_pos (by decide), HE.out]
  rintro e w1 ⟨rfl, hb1⟩
  go_wp2
  go_ret
  exact ⟨rfl, bl_trans hb hb1⟩
end Go.Proofs.YtiehbmhekncbhaaDoor

/- RefreshForms -/
import Derived.Test.YtiehbmhekncbhaaDoorRfU
namespace Go.Proofs.YtiehbmhekncbhaaDoor
open Go.RowKit Go.Sort

theorem rfForm_lit {a b c : Int} (h0 : 0 ≤ a) (h1 : a ≤ 65535) : rfForm a b c = [a / 256, a % 256, b, c] := by
  have := rfForm_back (x0 := a / 256) (x1 := a % 256) (x2 := b) (x3 := c) (by omega) (by omega) (by omega) (by omega)
  rwa [show a / 256 * 256 + a % 256 = a by omega] at this
set_option maxRecDepth 100000 in
set_option maxHeartbeats 800000 in
theorem rrfbytes_yes (a b c : Int) (w : World) (hk : rfOk a b c = true) :
    Calls Tryd.prog 57 #[.agg #[.int .i64 a, .int .i64 b, .int .i64 c]] w fun e w' => ∃ g, e = .returned (.tuple #[.slice (some ⟨g, 0, none⟩) 4 4, .bool true]) ∧ w.heap.size ≤ g ∧ Own w' g 5 ((rfForm a b c).map (Value.int .u8)).toArray ∧ Below w.heap.size w w' := by
  obtain ⟨h0, h1, h2, h3, h4, h5⟩ := rfOk_bounds hk
  have HK := Lib.hid hk
  have HL := Lib.hid (rfForm_lit (b := b) (c := c) h0 h1)
  have w1 : IntKind.u8.wrap (a / 256) = a / 256 := by rw [IntKind.wrap_u8]; omega
  have w2 : IntKind.u8.wrap (a % 256) = a % 256 := by rw [IntKind.wrap_u8]; omega
  have w3 : IntKind.u8.wrap b = b := by rw [IntKind.wrap_u8]; omega
  have w4 : IntKind.u8.wrap c = c := by rw [IntKind.wrap_u8]; omega
  have hb0 := bl_alloc (bl_refl w) (.cells #[.int .i64 a, .int .i64 b, .int .i64 c] 68)
  have o0 := Own.new w 68 #[.int .i64 a, .int .i64 b, .int .i64 c]
  clear hk
  go_enter Tryd.func57, Tryd.ntmps57
  go_wp2_with fail
  refine (rrfvalid_any a b c _).mono ?_
  rw [HK.out]
  rintro e wa ⟨rfl, hba⟩
  obtain ⟨c0, c1, c2⟩ := own_thr (o0.step hba)
  have hb1 := bl_trans hb0 hba
  have og := Own.new wa 5 #[.int .u8 (a / 256), .int .u8 (a % 256), .int .u8 b, .int .u8 c]
  go_wp2
  go_ret2
  refine ⟨_, rfl, hb1.size, ?_, bl_alloc hb1 _⟩
  rw [HL.out]
  exact og
set_option maxRecDepth 100000 in
theorem rrfbytes_no (a b c : Int) (w : World) (hk : rfOk a b c = false) :
    Calls Tryd.prog 57 #[.agg #[.int .i64 a, .int .i64 b, .int .i64 c]] w fun e w' => e = .returned (.tuple #[.slice none 0 0, .bool false]) ∧ Below w.heap.size w w' := by
  have HK := Lib.hid hk
  have hb0 := bl_alloc (bl_refl w) (.cells #[.int .i64 a, .int .i64 b, .int .i64 c] 68)
  clear hk
  go_enter Tryd.func57, Tryd.ntmps57
  go_wp2_with fail
  refine (rrfvalid_any a b c _).mono ?_
  rw [HK.out]
  rintro e wa ⟨rfl, hba⟩
  go_wp2
  go_ret2
  exact ⟨rfl, bl_trans hb0 hba⟩
set_option maxRecDepth 100000 in
theorem rftext_no (a b c : Int) (w : World) (hk : rfOk a b c = false) :
    Calls Tryd.prog 59 #[.agg #[.int .i64 a, .int .i64 b, .int .i64 c]] w fun e w' => e = .returned (.string ⟨#[]⟩) ∧ Below w.heap.size w w' := by
  have HK := Lib.hid hk
  have hb0 := bl_alloc (bl_refl w) (.cells #[.int .i64 a, .int .i64 b, .int .i64 c] 70)
  clear hk
  go_enter Tryd.func59, Tryd.ntmps59
  go_wp2_with fail
  refine (rfvalid_any a b c _).mono ?_
  rw [HK.out]
  rintro e wa ⟨rfl, hba⟩
  go_wp2
  go_ret
  exact ⟨rfl, bl_trans hb0 hba⟩
set_option maxRecDepth 100000 in
theorem rrftext_no (a b c : Int) (w : World) (hk : rfOk a b c = false) :
    Calls Tryd.prog 60 #[.agg #[.int .i64 a, .int .i64 b, .int .i64 c]] w fun e w' => e = .returned (.string ⟨#[]⟩) ∧ Below w.heap.size w w' := by
  have HK := Lib.hid hk
  have hb0 := bl_alloc (bl_refl w) (.cells #[.int .i64 a, .int .i64 b, .int .i64 c] 68)
  clear hk
  go_enter Tryd.func60, Tryd.ntmps60
  go_wp2_with fail
  refine (rrfvalid_any a b c _).mono ?_
  rw [HK.out]
  rintro e wa ⟨rfl, hba⟩
  go_wp2
  go_ret
  exact ⟨rfl, bl_trans hb0 hba⟩
set_option maxRecDepth 100000 in
/-- Equal bytes compared in a region that draws its order. -/
theorem bytesEq_rg {w : World} (A A' : Option Addr) (n n' c c' : Nat) (xs : List Int) (hx : Bytes w w.heap.size A n xs) (hy : Bytes w w.heap.size A' n' xs) (hn : n ≤ 1000000000) (hn' : n' ≤ 1000000000) (d : Nat) (os : Array Obj) :
    Calls Tryd.prog 31 #[.slice A n c, .slice A' n' c'] (grow (redrawn w d) os) fun e w'' => e = .returned (.bool true) ∧ ∃ p : Regrown, w'' = grow (redrawn w p.d) p.os :=
  rg_of (w := w) (fun W hW => (bytesEq_any A A' n n' c c' xs xs W w.heap.size w.heap.size (hx.below hW) (hy.below hW) hn hn').mono (fun e w' h => ⟨by rw [h.1]; simp, by obtain ⟨m, rfl⟩ := h.2; exact bl_drewN (bl_refl W) m⟩)) d os
set_option maxRecDepth 100000 in
set_option maxHeartbeats 1600000 in
theorem rfforms_no (a b c : Int) (w : World) (hft : Tens w ∧ Fams w) (hk : rfOk a b c = false) :
    Calls Tryd.prog 13 #[.agg #[.int .i64 a, .int .i64 b, .int .i64 c]] w fun e w' => e = .returned (.bool true) ∧ Below w.heap.size w w' := by
  obtain ⟨ht, hf⟩ := hft
  have HK := Lib.hid hk
  have hb0 := bl_alloc (bl_refl w) (.cells #[.int .i64 a, .int .i64 b, .int .i64 c] 68)
  have o0 := Own.new w 68 #[.int .i64 a, .int .i64 b, .int .i64 c]
  clear hk
  go_enter Tryd.func13, Tryd.ntmps13
  go_wp2_with fail
  refine (rfbytes_no a b c _ HK.out).mono ?_
  rintro e w1 ⟨rfl, hb1⟩
  have o1 := o0.step hb1
  have hb2 := bl_trans hb0 hb1
  obtain ⟨c0, c1, c2⟩ := own_thr o1
  go_wp2_with fail
  refine (rrfbytes_no a b c _ HK.out).mono ?_
  rintro e w2 ⟨rfl, hb3⟩
  have o2 := o1.step hb3
  have hb4 := bl_trans hb2 hb3
  clear o0 o1 hb0 hb1 hb2 hb3 c0 c1 c2
  go_wp2_with fail
  have a1 := Lib.hid (rg_of (w := w2) (v := .bool false) (fun W _ => by have := rfvalid_any a b c W; rw [HK.out] at this; exact this))
  have a2 := Lib.hid (bytesEq_rg (w := w2) none none 0 0 0 0 [] (Bytes.nil _ _ _) (Bytes.nil _ _ _) (by omega) (by omega))
  have a3 := Lib.hid (rg_of (w := w2) (fun W _ => rftext_no a b c W HK.out))
  have a4 := Lib.hid (rg_of (w := w2) (fun W _ => rrftext_no a b c W HK.out))
  refine wp_region_quiet_below (by kernel_rfl) (by kernel_rfl) ?_
  repeat (first
    | (refine wpQuiet_load_row (by rfl) 68 _ rfl w.heap.size rfl 68 #[.int .i64 a, .int .i64 b, .int .i64 c] (.struct (Tryd.prog.fieldsOf 68)) o2.rg (by kernel_rfl) rfl (rrfh_info _ _ _) ?_; go_simp)
    | go_big_quiet_step (with_reducible first | exact a1.out _ _ | exact a2.out _ _ | exact a3.out _ _ | exact a4.out _ _))
  refine wpQuiet_nil ?_
  rintro ⟨dq, osq⟩
  have hb5 := bl_trans hb4 (below_regrown w2 dq osq)
  generalize grow (redrawn w2 dq) osq = w3 at *
  clear a1 a2 a3 a4 hb4 o2
  go_wp2_with fail
  refine (rfparse_no none 0 0 _ (by omega)).mono ?_
  rintro e w4 ⟨rfl, hb6⟩
  have hb7 := bl_alloc (bl_trans hb5 hb6) (.cells #[.int .i64 0, .int .i64 0, .int .i64 0] 70)
  go_wp2_with fail
  refine (alive19_any _ (hf.below hb7)).mono ?_
  rintro e w5 ⟨rfl, hb8⟩
  go_wp2
  go_ret
  exact ⟨rfl, bl_trans hb7 hb8⟩
set_option maxRecDepth 100000 in
set_option maxHeartbeats 1600000 in
theorem rfforms_yes (a b c : Int) (w : World) (hft : Tens w ∧ Fams w) (hk : rfOk a b c = true) :
    Calls Tryd.prog 13 #[.agg #[.int .i64 a, .int .i64 b, .int .i64 c]] w fun e w' => e = .returned (.bool true) ∧ Below w.heap.size w w' := by
  obtain ⟨ht, hf⟩ := hft
  obtain ⟨h0, h1, h2, h3, h4, h5⟩ := rfOk_bounds hk
  have HK := Lib.hid hk
  have HL := Lib.hid (rfForm_lit (b := b) (c := c) h0 h1)
  have hr : ∀ x ∈ rfForm a b c, 0 ≤ x ∧ x ≤ 255 := by rw [HL.out]; intro x hx; simp at hx; omega
  have HN := Lib.hid (show nth (rfForm a b c) 0 * 256 + nth (rfForm a b c) 1 = a ∧ nth (rfForm a b c) 2 = b ∧ nth (rfForm a b c) 3 = c by rw [HL.out]; simp [nth]; omega)
  have hlen := Lib.hid (rfForm_len a b c)
  have hb0 := bl_alloc (bl_refl w) (.cells #[.int .i64 a, .int .i64 b, .int .i64 c] 68)
  have o0 := Own.new w 68 #[.int .i64 a, .int .i64 b, .int .i64 c]
  have heq := rf_eql_same a b c
  clear hk
  go_enter Tryd.func13, Tryd.ntmps13
  go_wp2_with fail
  refine (rfbytes_yes a b c _ HK.out).mono ?_
  rintro e w1 ⟨g, rfl, hg, hog, hb1⟩
  have o1 := o0.step hb1
  have hb2 := bl_trans hb0 hb1
  obtain ⟨c0, c1, c2⟩ := own_thr o1
  go_wp2_with fail
  refine (rrfbytes_yes a b c _ HK.out).mono ?_
  rintro e w2 ⟨j, rfl, hj, hoj, hb3⟩
  have o2 := o1.step hb3
  have hog2 := hog.step hb3
  have hb4 := bl_trans hb2 hb3
  have hy1 := Bytes.of_owned hog2 hr hog2.lt
  have hy2 := Bytes.of_owned hoj hr hoj.lt
  rw [hlen.out] at hy1 hy2
  clear o0 o1 hb0 hb1 hb2 hb3 c0 c1 c2 hg hj hog hoj hog2
  have ht2 := ht.below hb4
  have hf2 := hf.below hb4
  go_wp2_with fail
  have a1 := Lib.hid (rg_of (w := w2) (v := .bool true) (fun W _ => by have := rfvalid_any a b c W; rw [HK.out] at this; exact this))
  have a2 := Lib.hid (bytesEq_rg (w := w2) (some ⟨g, 0, none⟩) (some ⟨j, 0, none⟩) 4 4 4 4 _ hy1 hy2 (by omega) (by omega))
  have a3 := Lib.hid (rg_of (w := w2) (fun W hW => rftext_any a b c W (hf2.below hW) (ht2.below hW) HK.out))
  have a4 := Lib.hid (rg_of (w := w2) (fun W _ => rrftext_any a b c W HK.out))
  refine wp_region_quiet_below (by kernel_rfl) (by kernel_rfl) ?_
  repeat (first
    | (refine wpQuiet_load_row (by rfl) 68 _ rfl w.heap.size rfl 68 #[.int .i64 a, .int .i64 b, .int .i64 c] (.struct (Tryd.prog.fieldsOf 68)) o2.rg (by kernel_rfl) rfl (rrfh_info _ _ _) ?_; go_simp)
    | go_big_quiet_step (with_reducible first | exact a1.out _ _ | exact a2.out _ _ | exact a3.out _ _ | exact a4.out _ _))
  refine wpQuiet_nil ?_
  rintro ⟨dq, osq⟩
  have hgw := below_regrown w2 dq osq
  have o3 := o2.step hgw
  have hy3 := (hy1.below hgw).more hgw.size
  have hb5 := bl_trans hb4 hgw
  generalize grow (redrawn w2 dq) osq = w3 at *
  clear a1 a2 a3 a4 hb4 o2 hgw hy1 hy2 ht2 hf2
  go_wp2_with fail
  refine (rfparse_yes _ 4 (rfForm a b c) _ hy3).mono ?_
  rw [HN.out.1, HN.out.2.1, HN.out.2.2]
  rintro e w4 ⟨rfl, hb6⟩
  have o4 := (o3.step hb6).alloc (.cells #[.int .i64 a, .int .i64 b, .int .i64 c] 70)
  have o5 := Own.new w4 70 #[.int .i64 a, .int .i64 b, .int .i64 c]
  have hb7 := bl_alloc (bl_trans hb5 hb6) (.cells #[.int .i64 a, .int .i64 b, .int .i64 c] 70)
  go_wp2_with fail
  refine (alive19_any _ (hf.below hb7)).mono ?_
  rintro e w5 ⟨rfl, hb8⟩
  obtain ⟨c0, c1, c2⟩ := own_thr (o4.step hb8)
  obtain ⟨d0, d1, d2⟩ := own_thr (o5.step hb8)
  go_wp2
  go_ret
  exact ⟨rfl, bl_trans hb7 hb8⟩
set_option maxRecDepth 100000 in
theorem rfforms_all (a b c : Int) (w : World) (hft : Tens w ∧ Fams w) :
    Calls Tryd.prog 13 #[.agg #[.int .i64 a, .int .i64 b, .int .i64 c]] w fun e w' => e = .returned (.bool true) ∧ Below w.heap.size w w' := by
  by_cases hk : rfOk a b c = true
  · exact rfforms_yes a b c w hft hk
  · exact rfforms_no a b c w hft (by simpa using hk)
end Go.Proofs.YtiehbmhekncbhaaDoor

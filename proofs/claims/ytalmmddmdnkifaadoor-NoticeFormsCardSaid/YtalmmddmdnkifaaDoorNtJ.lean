/- NoticeForms: the walk -/
import Derived.Test.YtalmmddmdnkifaaDoorNtF
namespace Go.Proofs.YtalmmddmdnkifaaDoor
open Go.RowKit Go.Sort

theorem bytes_len {w : World} {B g m n : Nat} {zs : List Int} (h : Bytes w B (some ⟨g, 0, none⟩) m zs) (hn : m = n) : Bytes w B (some ⟨g, 0, none⟩) n zs := hn ▸ h
set_option maxRecDepth 100000 in
theorem ntforms_early (c s : Int) (A : Option Addr) (n cp : Nat) (w : World) (ht : Tens w) (hN : NNames w) (hm : n ≤ maxLen) (h : 600 < n) :
    Calls Tryd.prog 7 #[.agg #[.int .i64 c, .int .i64 s, .slice A n cp]] w fun e w' => e = .returned (.bool true) ∧ Below w.heap.size w w' := by
  unfold maxLen at hm
  have hb := bl_alloc (bl_refl w) (.cells #[.int .i64 c, .int .i64 s, .slice A n cp] 24)
  have d1 : decide ((600 : Int) < (n : Int)) = true := by simp; omega
  clear h
  go_enter Tryd.func7, Tryd.ntmps7
  go_wp2_with fail
  refine (alive18_any _ (ht.below hb) (hN.below hb)).mono ?_
  rintro e w1 ⟨rfl, hb1⟩
  go_wp2
  go_ret
  exact ⟨rfl, bl_trans hb hb1⟩
set_option maxRecDepth 100000 in
set_option maxHeartbeats 1600000 in
theorem ntforms_no (c s : Int) (A : Option Addr) (n cp : Nat) (w : World) (ht : Tens w) (hN : NNames w) (h : n ≤ 600) (hk : ntOk c s n = false) :
    Calls Tryd.prog 7 #[.agg #[.int .i64 c, .int .i64 s, .slice A n cp]] w fun e w' => e = .returned (.bool true) ∧ Below w.heap.size w w' := by
  have hb := bl_alloc (bl_refl w) (.cells #[.int .i64 c, .int .i64 s, .slice A n cp] 24)
  have o1 := Own.new w 24 #[.int .i64 c, .int .i64 s, .slice A n cp]
  have d1 : decide ((600 : Int) < (n : Int)) = false := by simp; omega
  have HK := Lib.hid hk
  clear hk
  go_enter Tryd.func7, Tryd.ntmps7
  go_wp2_with fail
  refine (ntbytes_no c s A n cp _ HK.out).mono ?_
  rintro e w1 ⟨rfl, hb1⟩
  have u1 := o1.step hb1
  have hb2 := bl_trans hb hb1
  obtain ⟨d0, d1', d2⟩ := nt_cells u1
  clear hb hb1 o1
  go_wp2_with fail
  refine (rntbytes_no c s A n cp _ HK.out).mono ?_
  rintro e w2 ⟨rfl, hb3⟩
  have v1 := u1.step hb3
  have hb4 := bl_trans hb2 hb3
  clear hb2 hb3 u1 d0 d1' d2
  go_wp2_with fail
  have a1 := Lib.hid (rg_of (w := w2) (v := .bool false) (fun W _ => (ntvalid_any c s A n cp W).mono (fun e w' h => ⟨by rw [h.1, HK.out], h.2⟩)))
  have a2 := Lib.hid (rg_of (w := w2) (v := .bool true) (fun W _ => (bytesEq_same none none 0 0 0 0 [] W W.heap.size W.heap.size (Bytes.nil _ _ _) (Bytes.nil _ _ _) (by omega) (by omega)).mono (fun e w' h => ⟨h.1, by obtain ⟨j, rfl⟩ := h.2; exact bl_drewN (bl_refl W) j⟩)))
  have a3 := Lib.hid (rg_of (w := w2) (fun W _ => nttext_no c s A n cp W HK.out))
  have a4 := Lib.hid (rg_of (w := w2) (fun W _ => rnttext_no c s A n cp W HK.out))
  refine wp_region_quiet_below (by kernel_rfl) (by kernel_rfl) ?_
  repeat (first
    | go_big_quiet_skip
    | (refine wpQuiet_load_row (by rfl) 24 _ rfl w.heap.size rfl 24 #[.int .i64 c, .int .i64 s, .slice A n cp] (.struct (Tryd.prog.fieldsOf 24)) v1.rg (by kernel_rfl) rfl (rnt_info _ _ _) ?_; go_simp)
    | go_big_quiet_step (with_reducible first | exact a1.out _ _ | exact a2.out _ _ | exact a3.out _ _ | exact a4.out _ _))
  refine wpQuiet_nil ?_
  rintro ⟨dq, osq⟩
  have hg := below_regrown w2 dq osq
  have v2 := v1.step hg
  have hb5 := bl_trans hb4 hg
  generalize grow (redrawn w2 dq) osq = w3 at *
  clear a1 a2 a3 a4 v1 hb4 hg
  go_wp2_with fail
  refine (ntparse_no none 0 0 _ (.inl (by omega))).mono ?_
  rintro e w4 ⟨rfl, hb6⟩
  have hb7 := bl_trans hb5 hb6
  have hb8 := bl_alloc hb7 (.cells #[.int .i64 0, .int .i64 0, .slice none 0 0] 29)
  go_wp2_with fail
  refine (alive18_any _ (ht.below hb8) (hN.below hb8)).mono ?_
  rintro e w5 ⟨rfl, hb9⟩
  go_wp2
  go_ret
  exact ⟨rfl, bl_trans hb8 hb9⟩
set_option maxRecDepth 100000 in
set_option maxHeartbeats 1600000 in
theorem ntforms_yes (c s : Int) (A : Option Addr) (n cp : Nat) (xs : List Int) (w : World) (ht : Tens w) (hN : NNames w) (hx : Bytes w w.heap.size A n xs) (h : n ≤ 600) (hk : ntOk c s n = true) :
    Calls Tryd.prog 7 #[.agg #[.int .i64 c, .int .i64 s, .slice A n cp]] w fun e w' => e = .returned (.bool true) ∧ Below w.heap.size w w' := by
  have hb := bl_alloc (bl_refl w) (.cells #[.int .i64 c, .int .i64 s, .slice A n cp] 24)
  have o1 := Own.new w 24 #[.int .i64 c, .int .i64 s, .slice A n cp]
  have d1 : decide ((600 : Int) < (n : Int)) = false := by simp; omega
  obtain ⟨hc, hs, _⟩ := ntOk_iff.1 hk
  have hFr := Lib.hid (ntForm_range hc hs hx.2.1)
  have hFl := Lib.hid (show (ntForm c s xs).length = n + 2 by rw [ntForm_len, ← hx.1])
  have hF0 := Lib.hid (show nth (ntForm c s xs) 0 = c ∧ nth (ntForm c s xs) 1 = s ∧ (ntForm c s xs).drop 2 = xs from ⟨rfl, rfl, rfl⟩)
  have HK := Lib.hid hk
  have HX := Lib.hid hx
  clear hk hc hs hx
  go_enter Tryd.func7, Tryd.ntmps7
  go_wp2_with fail
  refine (ntbytes_yes c s A n cp xs _ ((HX.out.below hb).more hb.size) HK.out).mono ?_
  rintro e w1 ⟨g, rfl, hg, ho1, hb1⟩
  have u1 := o1.step hb1
  have hb2 := bl_trans hb hb1
  obtain ⟨e0, e1, e2⟩ := nt_cells u1
  clear hb hb1 o1
  go_wp2_with fail
  refine (rntbytes_yes c s A n cp xs _ ((HX.out.below hb2).more hb2.size) HK.out).mono ?_
  rintro e w2 ⟨v, rfl, ho2, hb3⟩
  obtain ⟨A2, c2, rfl, _, hs2⟩ := own_val ho2
  have hB2 := Lib.hid (show Bytes w2 w2.heap.size A2 (n + 2) (ntForm c s xs) from ⟨hFl.out.symm, hFr.out, hs2⟩)
  have ho3 := ho1.step hb3
  have hB1 := Lib.hid (bytes_len (Bytes.of_owned ho3 hFr.out ho3.lt) hFl.out)
  have v1 := u1.step hb3
  have hb4 := bl_trans hb2 hb3
  have HX4 := Lib.hid ((HX.out.below hb4).more hb4.size)
  have ht4 := ht.below hb4
  have hN4 := hN.below hb4
  clear hb2 hb3 u1 e0 e1 e2 ho2 hs2 ho1
  go_wp2_with fail
  have a1 := Lib.hid (rg_of (w := w2) (v := .bool true) (fun W _ => (ntvalid_any c s A n cp W).mono (fun e w' h => ⟨by rw [h.1, HK.out], h.2⟩)))
  have a2 := Lib.hid (rg_of (w := w2) (v := .bool true) (fun W hW => (bytesEq_same (some ⟨g, 0, none⟩) A2 (n + 2) (n + 2) (n + 2) c2 _ W _ _ ((hB1.out.below hW).more hW.size) ((hB2.out.below hW).more hW.size) (by omega) (by omega)).mono (fun e w' h => ⟨h.1, by obtain ⟨j, rfl⟩ := h.2; exact bl_drewN (bl_refl W) j⟩)))
  have a3 := Lib.hid (rg_of (w := w2) (fun W hW => nttext_yes c s A n cp xs W (ht4.below hW) (hN4.below hW) ((HX4.out.below hW).more hW.size) HK.out))
  have a4 := Lib.hid (rg_of (w := w2) (fun W hW => rnttext_yes c s A n cp xs W ((HX4.out.below hW).more hW.size) HK.out))
  generalize ntText c s xs = T at *
  refine wp_region_quiet_below (by kernel_rfl) (by kernel_rfl) ?_
  repeat (first
    | go_big_quiet_skip
    | (refine wpQuiet_load_row (by rfl) 24 _ rfl w.heap.size rfl 24 #[.int .i64 c, .int .i64 s, .slice A n cp] (.struct (Tryd.prog.fieldsOf 24)) v1.rg (by kernel_rfl) rfl (rnt_info _ _ _) ?_; go_simp)
    | go_big_quiet_step (with_reducible first | exact a1.out _ _ | exact a2.out _ _ | exact a3.out _ _ | exact a4.out _ _))
  refine wpQuiet_nil ?_
  rintro ⟨dq, osq⟩
  have hg := below_regrown w2 dq osq
  have v2 := v1.step hg
  have ho5 := ho3.step hg
  have hb5 := bl_trans hb4 hg
  generalize grow (redrawn w2 dq) osq = w3 at *
  have hB5 := Lib.hid (bytes_len (Bytes.of_owned ho5 hFr.out ho5.lt) hFl.out)
  clear a1 a2 a3 a4 v1 hb4 hg ho3 hB1 hB2
  go_wp2_with fail
  refine (ntparse_yes (some ⟨g, 0, none⟩) (n + 2) (n + 2) _ _ hB5.out (by omega) (by omega) (Nat.le_refl _)).mono ?_
  rw [hF0.out.1, hF0.out.2.1, hF0.out.2.2, show n + 2 - 2 = n by omega]
  rintro e w4 ⟨j, rfl, hj, ho6, hb6⟩
  have hb7 := bl_trans hb5 hb6
  have hb8 := bl_alloc hb7 (.cells #[.int .i64 c, .int .i64 s, .slice (some ⟨j, 0, none⟩) n n] 29)
  have oP := Own.new w4 29 #[.int .i64 c, .int .i64 s, .slice (some ⟨j, 0, none⟩) n n]
  have v3 := (v2.step hb6).alloc (.cells #[.int .i64 c, .int .i64 s, .slice (some ⟨j, 0, none⟩) n n] 29)
  have ho7 := ho6.alloc (.cells #[.int .i64 c, .int .i64 s, .slice (some ⟨j, 0, none⟩) n n] 29)
  clear hb5 hb6 hb7 v2 ho6 ho5 hB5
  go_wp2_with fail
  refine (alive18_any _ (ht.below hb8) (hN.below hb8)).mono ?_
  rintro e w5 ⟨rfl, hb9⟩
  obtain ⟨d0, d1', d2⟩ := nt_cells (oP.step hb9)
  obtain ⟨f0, f1, f2⟩ := nt_cells (v3.step hb9)
  have hb10 := bl_trans hb8 hb9
  have ho8 := ho7.step hb9
  have hP := Lib.hid (bytes_len (Bytes.of_owned ho8 HX.out.2.1 ho8.lt) HX.out.1.symm)
  have hX9 := Lib.hid ((HX.out.below hb10).more hb10.size)
  clear hb8 hb9 oP v3 ho7
  go_wp2_with fail
  refine (rntsame_any c s _ n n xs c s A n cp xs _ hP.out hX9.out).mono ?_
  rw [show ntSame c s xs c s xs = true by simp [ntSame]]
  rintro e w6 ⟨rfl, hb11⟩
  go_wp2
  go_ret
  exact ⟨rfl, bl_trans hb10 hb11⟩
set_option maxRecDepth 100000 in
theorem ntforms_all (c s : Int) (A : Option Addr) (n cp : Nat) (xs : List Int) (w : World) (ht : Tens w) (hN : NNames w) (hx : Bytes w w.heap.size A n xs) (hm : n ≤ maxLen) :
    Calls Tryd.prog 7 #[.agg #[.int .i64 c, .int .i64 s, .slice A n cp]] w fun e w' => e = .returned (.bool true) ∧ Below w.heap.size w w' := by
  by_cases h : 600 < n
  · exact ntforms_early c s A n cp w ht hN hm h
  · cases hk : ntOk c s n with
    | false => exact ntforms_no c s A n cp w ht hN (by omega) hk
    | true => exact ntforms_yes c s A n cp xs w ht hN hx (by omega) hk
end Go.Proofs.YtalmmddmdnkifaaDoor

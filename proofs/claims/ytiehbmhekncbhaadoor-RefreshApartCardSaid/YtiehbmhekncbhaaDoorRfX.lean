/- RefreshApart -/
import Derived.Test.YtiehbmhekncbhaaDoorRfW
namespace Go.Proofs.YtiehbmhekncbhaaDoor
open Go.RowKit Go.Sort

set_option maxRecDepth 100000 in
theorem rrf_eqIn (a b c x y z : Int) (W : World) : (Op.equalIn 10000 68 (.agg #[.int .i64 a, .int .i64 b, .int .i64 c]) (.agg #[.int .i64 x, .int .i64 y, .int .i64 z])).run Tryd.prog W = Result.ok (decide (a = x) && (decide (b = y) && decide (c = z))) W := by
  have hz := Tryd.underlying3
  rw [run_equalIn_agg W 9999 68 _ _ rrfh_desc (by kernel_rfl)]
  have hf : (Tryd.prog.fieldsOf 68).toList.map (fun x => (x.name, x.type, x.offset)) = [("AFI", 3, 0), ("Sub", 3, 1), ("SAFI", 3, 2)] := by kernel_rfl
  obtain ⟨f1, f2, f3, e, ⟨n1, t1, o1⟩, ⟨n2, t2, o2⟩, n3, t3, o3⟩ := three_fields hf
  have q : ∀ (x y : Int) W, (Op.equalIn 9999 3 (.int .i64 x) (.int .i64 y)).run Tryd.prog W = Result.ok (x == y) W := fun x y W => by rw [run_equalIn_int W 9998 3 .i64 .i64 _ _ hz]
  have p0 : ∀ (a b c : Int) W, (Go.part 3 #[.int .i64 a, .int .i64 b, .int .i64 c] 0).run Tryd.prog W = Result.ok (.int .i64 a) W := fun _ _ _ W => by kernel_rfl
  have p1 : ∀ (a b c : Int) W, (Go.part 3 #[.int .i64 a, .int .i64 b, .int .i64 c] 1).run Tryd.prog W = Result.ok (.int .i64 b) W := fun _ _ _ W => by kernel_rfl
  have p2 : ∀ (a b c : Int) W, (Go.part 3 #[.int .i64 a, .int .i64 b, .int .i64 c] 2).run Tryd.prog W = Result.ok (.int .i64 c) W := fun _ _ _ W => by kernel_rfl
  rw [e]
  simp only [Op.eqFields, n1, t1, o1, n2, t2, o2, n3, t3, o3]
  simp only [show ("AFI" ≠ "_") = True by decide, show ("Sub" ≠ "_") = True by decide, show ("SAFI" ≠ "_") = True by decide, if_true, Sem.run_bind, p0, Result.andThen_ok, q]
  by_cases h1 : a = x
  · by_cases h2 : b = y
    · by_cases h3 : c = z
      · subst h1 h2 h3
        simp [p1, p2, q]
      · subst h1 h2
        simp [h3, p1, p2, q]
    · subst h1
      simp [h2, p1, q]
  · simp [h1]
set_option maxRecDepth 100000 in
theorem rrf_eql (a b c x y z : Int) (W : World) : (binOp .eql 68 (.agg #[.int .i64 a, .int .i64 b, .int .i64 c]) (.agg #[.int .i64 x, .int .i64 y, .int .i64 z])).run Tryd.prog W = Result.ok (.bool (decide (a = x) && (decide (b = y) && decide (c = z)))) W := by
  rw [run_eql_struct W, rrf_eqIn]; rfl

set_option maxRecDepth 100000 in
theorem rrf_eql_same (a b c : Int) (W : World) : (binOp .eql 68 (.agg #[.int .i64 a, .int .i64 b, .int .i64 c]) (.agg #[.int .i64 a, .int .i64 b, .int .i64 c])).run Tryd.prog W = Result.ok (.bool true) W := by
  rw [rrf_eql]; simp
set_option maxRecDepth 100000 in
theorem rrf_eql_not (a b c x y z : Int) (h : ¬ (a = x ∧ b = y ∧ c = z)) (W : World) : (binOp .eql 68 (.agg #[.int .i64 a, .int .i64 b, .int .i64 c]) (.agg #[.int .i64 x, .int .i64 y, .int .i64 z])).run Tryd.prog W = Result.ok (.bool false) W := by
  have e : (decide (a = x) && (decide (b = y) && decide (c = z))) = false := by simpa using h
  rw [rrf_eql, e]
set_option maxRecDepth 100000 in
theorem bytesNe_rg {w : World} (A A' : Option Addr) (n n' c c' : Nat) (xs ys : List Int) (hx : Bytes w w.heap.size A n xs) (hy : Bytes w w.heap.size A' n' ys) (hne : xs ≠ ys) (hn : n ≤ 1000000000) (hn' : n' ≤ 1000000000) (d : Nat) (os : Array Obj) :
    Calls Tryd.prog 31 #[.slice A n c, .slice A' n' c'] (grow (redrawn w d) os) fun e w'' => e = .returned (.bool false) ∧ ∃ p : Regrown, w'' = grow (redrawn w p.d) p.os :=
  rg_of (w := w) (fun W hW => (bytesEq_any A A' n n' c c' xs ys W w.heap.size w.heap.size (hx.below hW) (hy.below hW) hn hn').mono (fun e w' h => ⟨by rw [h.1]; simp [hne], by obtain ⟨m, rfl⟩ := h.2; exact bl_drewN (bl_refl W) m⟩)) d os
set_option maxRecDepth 100000 in
theorem rfapart_no (a b c x y z : Int) (w : World) (hft : Tens w ∧ Fams w) (hk : ¬ (rfOk a b c = true ∧ rfOk x y z = true)) :
    Calls Tryd.prog 14 #[.agg #[.int .i64 a, .int .i64 b, .int .i64 c], .agg #[.int .i64 x, .int .i64 y, .int .i64 z]] w fun e w' => e = .returned (.bool true) ∧ Below w.heap.size w w' := by
  obtain ⟨_, hf⟩ := hft
  have hb0 := bl_alloc (bl_alloc (bl_refl w) (.cells #[.int .i64 a, .int .i64 b, .int .i64 c] 68)) (.cells #[.int .i64 x, .int .i64 y, .int .i64 z] 68)
  have o2 := Own.new (w.alloc (.cells #[.int .i64 a, .int .i64 b, .int .i64 c] 68)) 68 #[.int .i64 x, .int .i64 y, .int .i64 z]
  rw [show (w.alloc (.cells #[.int .i64 a, .int .i64 b, .int .i64 c] 68)).heap.size = w.heap.size + 1 by simp] at o2
  by_cases h1 : rfOk a b c = true
  · have h2 : rfOk x y z = false := by simpa [h1] using hk
    have H1 := Lib.hid h1
    have H2 := Lib.hid h2
    clear hk h1 h2
    go_enter Tryd.func14, Tryd.ntmps14
    go_wp2_with fail
    refine (rrfvalid_any a b c _).mono ?_
    rw [H1.out]
    rintro e w1 ⟨rfl, hb1⟩
    obtain ⟨d0, d1, d2⟩ := own_thr (o2.step hb1)
    have hb2 := bl_trans hb0 hb1
    go_wp2_with fail
    refine (rrfvalid_any x y z _).mono ?_
    rw [H2.out]
    rintro e w2 ⟨rfl, hb3⟩
    have hb4 := bl_trans hb2 hb3
    go_wp2_with fail
    refine (alive19_any _ (hf.below hb4)).mono ?_
    rintro e w3 ⟨rfl, hb5⟩
    go_wp2
    go_ret
    exact ⟨rfl, bl_trans hb4 hb5⟩
  · have h2 : rfOk a b c = false := by simpa using h1
    have H2 := Lib.hid h2
    clear hk h1 h2
    go_enter Tryd.func14, Tryd.ntmps14
    go_wp2_with fail
    refine (rrfvalid_any a b c _).mono ?_
    rw [H2.out]
    rintro e w1 ⟨rfl, hb1⟩
    have hb2 := bl_trans hb0 hb1
    go_wp2_with fail
    refine (alive19_any _ (hf.below hb2)).mono ?_
    rintro e w3 ⟨rfl, hb5⟩
    go_wp2
    go_ret
    exact ⟨rfl, bl_trans hb2 hb5⟩
set_option maxRecDepth 100000 in
set_option maxHeartbeats 1600000 in
theorem rfapart_yes (a b c x y z : Int) (w : World) (hft : Tens w ∧ Fams w) (hk : rfOk a b c = true) (hk' : rfOk x y z = true) :
    Calls Tryd.prog 14 #[.agg #[.int .i64 a, .int .i64 b, .int .i64 c], .agg #[.int .i64 x, .int .i64 y, .int .i64 z]] w fun e w' => e = .returned (.bool true) ∧ Below w.heap.size w w' := by
  obtain ⟨ht, hf⟩ := hft
  have HK := Lib.hid hk
  have HK' := Lib.hid hk'
  have hlen := Lib.hid (rfForm_len a b c)
  have hlen' := Lib.hid (rfForm_len x y z)
  have hr : ∀ q ∈ rfForm a b c, 0 ≤ q ∧ q ≤ 255 := by
    obtain ⟨h0, h1, h2, h3, h4, h5⟩ := rfOk_bounds hk
    rw [rfForm_lit h0 h1]; intro q hq; simp at hq; omega
  have hr' : ∀ q ∈ rfForm x y z, 0 ≤ q ∧ q ≤ 255 := by
    obtain ⟨h0, h1, h2, h3, h4, h5⟩ := rfOk_bounds hk'
    rw [rfForm_lit h0 h1]; intro q hq; simp at hq; omega
  have hb0 := bl_alloc (bl_alloc (bl_refl w) (.cells #[.int .i64 a, .int .i64 b, .int .i64 c] 68)) (.cells #[.int .i64 x, .int .i64 y, .int .i64 z] 68)
  have o1 := (Own.new w 68 #[.int .i64 a, .int .i64 b, .int .i64 c]).alloc (.cells #[.int .i64 x, .int .i64 y, .int .i64 z] 68)
  have o2 := Own.new (w.alloc (.cells #[.int .i64 a, .int .i64 b, .int .i64 c] 68)) 68 #[.int .i64 x, .int .i64 y, .int .i64 z]
  rw [show (w.alloc (.cells #[.int .i64 a, .int .i64 b, .int .i64 c] 68)).heap.size = w.heap.size + 1 by simp] at o2
  clear hk hk'
  go_enter Tryd.func14, Tryd.ntmps14
  go_wp2_with fail
  refine (rrfvalid_any a b c _).mono ?_
  rw [HK.out]
  rintro e w1 ⟨rfl, hb1⟩
  have q1 := o1.step hb1
  have q2 := o2.step hb1
  obtain ⟨d0, d1, d2⟩ := own_thr q2
  have hb2 := bl_trans hb0 hb1
  go_wp2_with fail
  refine (rrfvalid_any x y z _).mono ?_
  rw [HK'.out]
  rintro e w2 ⟨rfl, hb3⟩
  have u1 := q1.step hb3
  have u2 := q2.step hb3
  have hb4 := bl_trans hb2 hb3
  clear o1 o2 q1 q2 d0 d1 d2 hb0 hb1 hb2 hb3
  obtain ⟨c0, c1, c2⟩ := own_thr u1
  go_wp2_with fail
  refine (rfbytes_yes a b c _ HK.out).mono ?_
  rintro e w3 ⟨g, rfl, hg, hog, hb5⟩
  have v1 := u1.step hb5
  have v2 := u2.step hb5
  have hb6 := bl_trans hb4 hb5
  obtain ⟨d0, d1, d2⟩ := own_thr v2
  clear c0 c1 c2 hb4 hb5 u1 u2 hg
  go_wp2_with fail
  refine (rfbytes_yes x y z _ HK'.out).mono ?_
  rintro e w4 ⟨j, rfl, hj, hoj, hb7⟩
  have s1 := v1.step hb7
  have s2 := v2.step hb7
  have hog2 := hog.step hb7
  have hb8 := bl_trans hb6 hb7
  have hy1 := Bytes.of_owned hog2 hr hog2.lt
  have hy2 := Bytes.of_owned hoj hr' hoj.lt
  rw [hlen.out] at hy1
  rw [hlen'.out] at hy2
  clear d0 d1 d2 hb6 hb7 v1 v2 hj hog hoj hog2
  have ht4 := ht.below hb8
  have hf4 := hf.below hb8
  go_wp2_with fail
  generalize w.heap.size + 1 = g2 at s2 ⊢
  have a1 := Lib.hid (rg_of (w := w4) (fun W hW => alive19_any W (hf4.below hW)))
  have a3 := Lib.hid (rg_of (w := w4) (fun W hW => rftext_any a b c W (hf4.below hW) (ht4.below hW) HK.out))
  have a4 := Lib.hid (rg_of (w := w4) (fun W hW => rftext_any x y z W (hf4.below hW) (ht4.below hW) HK'.out))
  by_cases heq : a = x ∧ b = y ∧ c = z
  · obtain ⟨rfl, rfl, rfl⟩ := heq
    have a2 := Lib.hid (bytesEq_rg (w := w4) (some ⟨g, 0, none⟩) (some ⟨j, 0, none⟩) 4 4 4 4 _ hy1 hy2 (by omega) (by omega))
    have hql := rrf_eql_same a b c
    refine wp_region_quiet_below (by kernel_rfl) (by kernel_rfl) ?_
    repeat (first
      | (refine wpQuiet_load_row (by rfl) 68 _ rfl w.heap.size rfl 68 #[.int .i64 a, .int .i64 b, .int .i64 c] (.struct (Tryd.prog.fieldsOf 68)) s1.rg (by kernel_rfl) rfl (rrfh_info _ _ _) ?_; go_simp)
      | (refine wpQuiet_load_row (by rfl) 68 _ rfl g2 rfl 68 #[.int .i64 a, .int .i64 b, .int .i64 c] (.struct (Tryd.prog.fieldsOf 68)) s2.rg (by kernel_rfl) rfl (rrfh_info _ _ _) ?_; go_simp)
      | go_big_quiet_step (with_reducible first | exact a1.out _ _ | exact a2.out _ _ | exact a3.out _ _))
    refine wpQuiet_nil ?_
    rintro ⟨dq, osq⟩
    have hb9 := bl_trans hb8 (below_regrown w4 dq osq)
    generalize grow (redrawn w4 dq) osq = w5 at *
    go_wp2
    go_ret
    exact ⟨rfl, hb9⟩
  · have hnf : Hid (rfForm a b c ≠ rfForm x y z) := Lib.hid (fun h => heq (rfForm_inj HK.out HK'.out h))
    have hnt : rfT a b c ≠ rfT x y z := fun h => heq (rfT_inj HK.out HK'.out h)
    have a2 := Lib.hid (bytesNe_rg (w := w4) (some ⟨g, 0, none⟩) (some ⟨j, 0, none⟩) 4 4 4 4 _ _ hy1 hy2 hnf.out (by omega) (by omega))
    have hql := rrf_eql_not a b c x y z heq
    have hnl : ((rfT a b c).toList == (rfT x y z).toList) = false := by
      rw [beq_eq_false_iff_ne]
      exact fun h => hnt ((toList_iff2 _ _).1 h)
    clear heq hnt
    generalize rfT a b c = T1 at *
    generalize rfT x y z = T2 at *
    refine wp_region_quiet_below (by kernel_rfl) (by kernel_rfl) ?_
    repeat (first
      | (refine wpQuiet_load_row (by rfl) 68 _ rfl w.heap.size rfl 68 #[.int .i64 a, .int .i64 b, .int .i64 c] (.struct (Tryd.prog.fieldsOf 68)) s1.rg (by kernel_rfl) rfl (rrfh_info _ _ _) ?_; go_simp)
      | (refine wpQuiet_load_row (by rfl) 68 _ rfl g2 rfl 68 #[.int .i64 x, .int .i64 y, .int .i64 z] (.struct (Tryd.prog.fieldsOf 68)) s2.rg (by kernel_rfl) rfl (rrfh_info _ _ _) ?_; go_simp)
      | go_big_quiet_step (with_reducible first | exact a1.out _ _ | exact a2.out _ _ | exact a3.out _ _ | exact a4.out _ _))
    refine wpQuiet_nil ?_
    rintro ⟨dq, osq⟩
    have hb9 := bl_trans hb8 (below_regrown w4 dq osq)
    generalize grow (redrawn w4 dq) osq = w5 at *
    go_wp2
    go_ret
    exact ⟨rfl, hb9⟩
set_option maxRecDepth 100000 in
theorem rfapart_all (a b c x y z : Int) (w : World) (hft : Tens w ∧ Fams w) :
    Calls Tryd.prog 14 #[.agg #[.int .i64 a, .int .i64 b, .int .i64 c], .agg #[.int .i64 x, .int .i64 y, .int .i64 z]] w fun e w' => e = .returned (.bool true) ∧ Below w.heap.size w w' := by
  by_cases hk : rfOk a b c = true ∧ rfOk x y z = true
  · exact rfapart_yes a b c x y z w hft hk.1 hk.2
  · exact rfapart_no a b c x y z w hft hk
end Go.Proofs.YtiehbmhekncbhaaDoor

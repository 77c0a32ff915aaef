/- refresh.Useful, peerageref19.Useful -/
import Derived.Test.YtejdpfhdjndefaaDoorRfE
namespace Go.Proofs.YtejdpfhdjndefaaDoor
open Go.RowKit Extern.Stop

theorem and_nine {W : World} {a b c d e f g h i : Addr} {x y z t u v q r s : Value} (h1 : W.cell? a = some x) (h2 : W.cell? b = some y) (h3 : W.cell? c = some z) (h4 : W.cell? d = some t) (h5 : W.cell? e = some u) (h6 : W.cell? f = some v) (h7 : W.cell? g = some q) (h8 : W.cell? h = some r) (h9 : W.cell? i = some s) :
    W.cell? a = some x ∧ W.cell? b = some y ∧ W.cell? c = some z ∧ W.cell? d = some t ∧ W.cell? e = some u ∧ W.cell? f = some v ∧ W.cell? g = some q ∧ W.cell? h = some r ∧ W.cell? i = some s := ⟨h1, h2, h3, h4, h5, h6, h7, h8, h9⟩
/-- The cells of options in one block and of three ints in another. -/
theorem own_nine {W : World} {g k : Nat} {T U : TypeId} {a0 a1 a2 a3 a4 a5 : Bool} {a b c : Int} (o : Own W g T #[.bool a0, .bool a1, .bool a2, .bool a3, .bool a4, .bool a5]) (p : Own W k U #[.int .i64 a, .int .i64 b, .int .i64 c]) :
    W.cell? ⟨g, 0, none⟩ = some (.bool a0) ∧ W.cell? ⟨g, 1, none⟩ = some (.bool a1) ∧ W.cell? ⟨g, 2, none⟩ = some (.bool a2) ∧ W.cell? ⟨g, 3, none⟩ = some (.bool a3) ∧ W.cell? ⟨g, 4, none⟩ = some (.bool a4) ∧ W.cell? ⟨g, 5, none⟩ = some (.bool a5) ∧ W.cell? ⟨k, 0, none⟩ = some (.int .i64 a) ∧ W.cell? ⟨k, 1, none⟩ = some (.int .i64 b) ∧ W.cell? ⟨k, 2, none⟩ = some (.int .i64 c) :=
  ⟨o.cell rfl, o.cell rfl, o.cell rfl, o.cell rfl, o.cell rfl, o.cell rfl, p.cell rfl, p.cell rfl, p.cell rfl⟩
/-- Whether a refresh is useful. -/
def rfUse (a3 : Bool) (a b c : Int) : Bool := rfOk a b c && decide (b ≤ 2) && famIn a3 (famOf a c)
theorem rfOk_bounds {a b c : Int} (h : rfOk a b c = true) : 0 ≤ a ∧ a ≤ 65535 ∧ 0 ≤ b ∧ b ≤ 255 ∧ 0 ≤ c ∧ c ≤ 255 := by
  simp only [rfOk, Bool.and_eq_true, decide_eq_true_eq] at h
  omega
set_option maxRecDepth 100000 in
theorem ofam_agg (a0 a1 a2 a3 a4 a5 : Bool) (w : World) :
    Calls Tryd.prog 34 #[.agg #[.bool a0, .bool a1, .bool a2, .bool a3, .bool a4, .bool a5]] w fun e w' => e = .returned (.slice (some ⟨w.heap.size + 1, 0, none⟩) (famsOf a3).length (famsOf a3).length) ∧ Own w' (w.heap.size + 1) 3 ((famsOf a3).map (Value.int .i64)).toArray ∧ Below w.heap.size w w' := ofamilies_any a0 a1 a2 a3 a4 a5 w
set_option maxRecDepth 100000 in
set_option maxHeartbeats 1600000 in
theorem useful_any (a0 a1 a2 a3 a4 a5 : Bool) (a b c : Int) (w : World) (ht : Fams w) :
    Calls Tryd.prog 32 #[opts a0 a1 a2 a3 a4 a5, .agg #[.int .i64 a, .int .i64 b, .int .i64 c]] w fun e w' => e = .returned (.bool (rfUse a3 a b c)) ∧ Below w.heap.size w w' := by
  have HV := Lib.hid (show rfUse a3 a b c = (rfOk a b c && decide (b ≤ 2) && famIn a3 (famOf a c)) from rfl)
  generalize rfUse a3 a b c = R at HV ⊢
  unfold opts
  have hb0 := bl_alloc (bl_alloc (bl_refl w) (.cells #[.bool a0, .bool a1, .bool a2, .bool a3, .bool a4, .bool a5] 23)) (.cells #[.int .i64 a, .int .i64 b, .int .i64 c] 52)
  have o1 := (Own.new w 23 #[.bool a0, .bool a1, .bool a2, .bool a3, .bool a4, .bool a5]).alloc (.cells #[.int .i64 a, .int .i64 b, .int .i64 c] 52)
  have o2 := Own.new (w.alloc (.cells #[.bool a0, .bool a1, .bool a2, .bool a3, .bool a4, .bool a5] 23)) 52 #[.int .i64 a, .int .i64 b, .int .i64 c]
  rw [show (w.alloc (.cells #[.bool a0, .bool a1, .bool a2, .bool a3, .bool a4, .bool a5] 23)).heap.size = w.heap.size + 1 by simp] at o2
  have ht1 := (ht.alloc (.cells #[.bool a0, .bool a1, .bool a2, .bool a3, .bool a4, .bool a5] 23)).alloc (.cells #[.int .i64 a, .int .i64 b, .int .i64 c] 52)
  go_enter Tryd.func32, Tryd.ntmps32
  go_wp2_with fail
  generalize (w.alloc (.cells #[.bool a0, .bool a1, .bool a2, .bool a3, .bool a4, .bool a5] 23)).alloc (.cells #[.int .i64 a, .int .i64 b, .int .i64 c] 52) = V at o1 o2 ht1 hb0 ⊢
  have HS0 := own_nine o1.drew o2.drew
  by_cases hk : rfOk a b c = true
  · have HB := Lib.hid (rfOk_bounds hk)
    have HK := Lib.hid hk
    clear hk
    by_cases h2 : b ≤ 2
    · have e2 : decide (b ≤ 2) = true := by simpa using h2
      clear h2
      go_region_held3 (fun W => W.cell? ⟨w.heap.size, 0, none⟩ = some (.bool a0) ∧ W.cell? ⟨w.heap.size, 1, none⟩ = some (.bool a1) ∧ W.cell? ⟨w.heap.size, 2, none⟩ = some (.bool a2) ∧ W.cell? ⟨w.heap.size, 3, none⟩ = some (.bool a3) ∧ W.cell? ⟨w.heap.size, 4, none⟩ = some (.bool a4) ∧ W.cell? ⟨w.heap.size, 5, none⟩ = some (.bool a5) ∧ W.cell? ⟨w.heap.size + 1, 0, none⟩ = some (.int .i64 a) ∧ W.cell? ⟨w.heap.size + 1, 1, none⟩ = some (.int .i64 b) ∧ W.cell? ⟨w.heap.size + 1, 2, none⟩ = some (.int .i64 c)) (with_reducible first | exact HS0 | exact HS1 | exact HS2 | exact HS3 | exact HS4) ((first
        | (go_at_call 40; (with_reducible refine (rfvalid_any a b c _).mono ?_); rw [HK.out]; rintro e w1 ⟨rfl, hb1⟩; have g1 := o1.drew.step hb1; have g2 := o2.drew.step hb1; have ht2 := Fams.below (w := V.drew) ht1 hb1; have hb2 := bl_trans hb0.drew hb1; have HS1 := own_nine g1 g2)
        | (go_at_call 34; (with_reducible refine (ofam_agg a0 a1 a2 a3 a4 a5 _).mono ?_); rintro e w2 ⟨rfl, of1, hb3⟩; have k1 := g1.step hb3; have k2 := g2.step hb3; have ht3 := ht2.below hb3; have hb4 := bl_trans hb2 hb3; have HS2 := own_nine k1 k2)
        | (go_at_call 55; (with_reducible refine (rffamily_any a b c _ ht3 HB.out.1 HB.out.2.1 HB.out.2.2.2.2.1 HB.out.2.2.2.2.2).mono ?_); rintro e w3 ⟨rfl, hb5⟩; have m1 := k1.step hb5; have m2 := k2.step hb5; have of2 := of1.step hb5; have hb6 := bl_trans hb4 hb5; have HS3 := own_nine m1 m2)
        | (go_at_call 33; (with_reducible refine (icontains_any a3 _ (famOf a c) _ of2).mono ?_); rintro e w' ⟨rfl, rfl⟩)))
      go_wp2
      go_ret
      exact ⟨by rw [HV.out, HK.out, e2]; rfl, hb6⟩
    · have e2 : decide (b ≤ 2) = false := by simpa using h2
      clear h2
      refine wp_region_noPanic ?_
      refine wp_region_held_drew (S := fun W => W.cell? ⟨w.heap.size, 0, none⟩ = some (.bool a0) ∧ W.cell? ⟨w.heap.size, 1, none⟩ = some (.bool a1) ∧ W.cell? ⟨w.heap.size, 2, none⟩ = some (.bool a2) ∧ W.cell? ⟨w.heap.size, 3, none⟩ = some (.bool a3) ∧ W.cell? ⟨w.heap.size, 4, none⟩ = some (.bool a4) ∧ W.cell? ⟨w.heap.size, 5, none⟩ = some (.bool a5) ∧ W.cell? ⟨w.heap.size + 1, 0, none⟩ = some (.int .i64 a) ∧ W.cell? ⟨w.heap.size + 1, 1, none⟩ = some (.int .i64 b) ∧ W.cell? ⟨w.heap.size + 1, 2, none⟩ = some (.int .i64 c)) (by kernel_rfl) HS0 (fun hHeld => ?_)
      refine wpAnyH_take (i := 0) (v := ?_) rfl (by kernel_rfl) (by kernel_rfl) (by kernel_rfl) (fun _ _ _ h => h) (Or.inl ⟨by rfl, ?_⟩) (by assumption) ?_
      rotate_left
      · (intro W hSw; obtain ⟨s0, s1, s2, s3, s4, s5, s6, s7, s8⟩ := hSw; go_simp; try with_reducible rfl)
      simp only [Act.put, List.getElem_toArray, List.getElem_cons_zero, List.setIfInBounds_toArray, List.set_cons_zero, List.set_cons_succ]
      refine wpAnyH_ready (rs := [1]) (by kernel_rfl) (by simp) ?_
      refine AllReadyH.cons rfl (fun K hK => ?_) AllReadyH.nil
      go_simp
      (go_at_call 40; (with_reducible refine (rfvalid_any a b c _).mono ?_); rw [HK.out]; rintro e w1 ⟨rfl, hb1⟩)
      have g1 := o1.drew.step hb1
      have g2 := o2.drew.step hb1
      have hb2 := bl_trans hb0.drew hb1
      have HS1 := own_nine g1 g2
      refine hK.out _ _ HS1 (fun hHeld2 => ?_)
      clear hK K hHeld
      have hHeld := hHeld2
      clear hHeld2
      try simp only [Act.put, List.getElem_toArray, List.getElem_cons_zero, List.getElem_cons_succ, List.setIfInBounds_toArray, List.set_cons_zero, List.set_cons_succ]
      refine wpAnyH_take (i := 2) (v := ?_) rfl (by kernel_rfl) (by kernel_rfl) (by kernel_rfl) (fun _ _ _ h => h) (Or.inl ⟨by rfl, ?_⟩) (by assumption) ?_
      rotate_left
      · (intro W hSw; obtain ⟨s0, s1, s2, s3, s4, s5, s6, s7, s8⟩ := hSw; go_simp; try with_reducible rfl)
      simp only [Act.put, List.getElem_toArray, List.getElem_cons_zero, List.getElem_cons_succ, List.setIfInBounds_toArray, List.set_cons_zero, List.set_cons_succ]
      refine wpAnyH_take (i := 3) (v := ?_) rfl (by kernel_rfl) (by kernel_rfl) (by kernel_rfl) (fun _ _ _ h => h) (Or.inl ⟨by rfl, ?_⟩) (by assumption) ?_
      rotate_left
      · (intro W hSw; obtain ⟨s0, s1, s2, s3, s4, s5, s6, s7, s8⟩ := hSw; go_simp; try with_reducible rfl)
      simp only [Act.put, List.getElem_toArray, List.getElem_cons_zero, List.getElem_cons_succ, List.setIfInBounds_toArray, List.set_cons_zero, List.set_cons_succ]
      refine wpAnyH_take (i := 4) (v := ?_) rfl (by kernel_rfl) (by kernel_rfl) (by kernel_rfl) (fun _ _ _ h => h) (Or.inl ⟨by rfl, ?_⟩) (by assumption) ?_
      rotate_left
      · (intro W hSw; obtain ⟨s0, s1, s2, s3, s4, s5, s6, s7, s8⟩ := hSw; go_simp; try with_reducible rfl)
      simp only [Act.put, List.getElem_toArray, List.getElem_cons_zero, List.getElem_cons_succ, List.setIfInBounds_toArray, List.set_cons_zero, List.set_cons_succ]
      refine wpAnyH_take (i := 5) (v := ?_) rfl (by kernel_rfl) (by kernel_rfl) (by kernel_rfl) (fun _ _ _ h => h) (Or.inl ⟨by rfl, ?_⟩) (by assumption) ?_
      rotate_left
      · (intro W hSw; obtain ⟨s0, s1, s2, s3, s4, s5, s6, s7, s8⟩ := hSw; go_simp; try with_reducible rfl)
      simp only [Act.put, List.getElem_toArray, List.getElem_cons_zero, List.getElem_cons_succ, List.setIfInBounds_toArray, List.set_cons_zero, List.set_cons_succ]
      refine wpAnyH_take (i := 6) (v := ?_) rfl (by kernel_rfl) (by kernel_rfl) (by kernel_rfl) (fun _ _ _ h => h) (Or.inl ⟨by rfl, ?_⟩) (by assumption) ?_
      rotate_left
      · (intro W hSw; obtain ⟨s0, s1, s2, s3, s4, s5, s6, s7, s8⟩ := hSw; go_simp; try with_reducible rfl)
      simp only [Act.put, List.getElem_toArray, List.getElem_cons_zero, List.getElem_cons_succ, List.setIfInBounds_toArray, List.set_cons_zero, List.set_cons_succ]
      refine wpAnyH_take (i := 7) (v := ?_) rfl (by kernel_rfl) (by kernel_rfl) (by kernel_rfl) (fun _ _ _ h => h) (Or.inl ⟨by rfl, ?_⟩) (by assumption) ?_
      rotate_left
      · (intro W hSw; obtain ⟨s0, s1, s2, s3, s4, s5, s6, s7, s8⟩ := hSw; go_simp; try with_reducible rfl)
      simp only [Act.put, List.getElem_toArray, List.getElem_cons_zero, List.getElem_cons_succ, List.setIfInBounds_toArray, List.set_cons_zero, List.set_cons_succ]
      refine wpAnyH_take (i := 8) (v := undef) rfl (by kernel_rfl) (by kernel_rfl) (by kernel_rfl) (fun _ _ _ h => h) (Or.inr ⟨by rfl, rfl⟩) (by assumption) ?_
      simp only [Act.put, List.getElem_toArray, List.getElem_cons_zero, List.getElem_cons_succ, List.setIfInBounds_toArray, List.set_cons_zero, List.set_cons_succ]
      refine wpAnyH_take (i := 9) (v := undef) rfl (by kernel_rfl) (by kernel_rfl) (by kernel_rfl) (fun _ _ _ h => h) (Or.inr ⟨by rfl, rfl⟩) (by assumption) ?_
      simp only [Act.put, List.getElem_toArray, List.getElem_cons_zero, List.getElem_cons_succ, List.setIfInBounds_toArray, List.set_cons_zero, List.set_cons_succ]
      refine wpAnyH_take (i := 10) (v := undef) rfl (by kernel_rfl) (by kernel_rfl) (by kernel_rfl) (fun _ _ _ h => h) (Or.inr ⟨by rfl, rfl⟩) (by assumption) ?_
      simp only [Act.put, List.getElem_toArray, List.getElem_cons_zero, List.getElem_cons_succ, List.setIfInBounds_toArray, List.set_cons_zero, List.set_cons_succ]
      refine wpAnyH_take (i := 11) (v := undef) rfl (by kernel_rfl) (by kernel_rfl) (by kernel_rfl) (fun _ _ _ h => h) (Or.inr ⟨by rfl, rfl⟩) (by assumption) ?_
      simp only [Act.put, List.getElem_toArray, List.getElem_cons_zero, List.getElem_cons_succ, List.setIfInBounds_toArray, List.set_cons_zero, List.set_cons_succ]
      refine wpAnyH_take (i := 12) (v := undef) rfl (by kernel_rfl) (by kernel_rfl) (by kernel_rfl) (fun _ _ _ h => h) (Or.inr ⟨by rfl, rfl⟩) (by assumption) ?_
      simp only [Act.put, List.getElem_toArray, List.getElem_cons_zero, List.getElem_cons_succ, List.setIfInBounds_toArray, List.set_cons_zero, List.set_cons_succ]
      refine wpAnyH_take (i := 13) (v := ?_) rfl (by kernel_rfl) (by kernel_rfl) (by kernel_rfl) (fun _ _ _ h => h) (Or.inl ⟨by rfl, ?_⟩) (by assumption) ?_
      rotate_left
      · (intro W hSw; obtain ⟨s0, s1, s2, s3, s4, s5, s6, s7, s8⟩ := hSw; go_simp; try with_reducible rfl)
      simp only [Act.put, List.getElem_toArray, List.getElem_cons_zero, List.getElem_cons_succ, List.setIfInBounds_toArray, List.set_cons_zero, List.set_cons_succ]
      refine wpAnyH_take (i := 14) (v := ?_) rfl (by kernel_rfl) (by kernel_rfl) (by kernel_rfl) (fun _ _ _ h => h) (Or.inl ⟨by rfl, ?_⟩) (by assumption) ?_
      rotate_left
      · (intro W hSw; obtain ⟨s0, s1, s2, s3, s4, s5, s6, s7, s8⟩ := hSw; go_simp; try with_reducible rfl)
      simp only [Act.put, List.getElem_toArray, List.getElem_cons_zero, List.getElem_cons_succ, List.setIfInBounds_toArray, List.set_cons_zero, List.set_cons_succ]
      refine wpAnyH_done (by kernel_rfl) ?_ _
      refine NoPanic.normal ?_
      all_goals go_wp2
      all_goals go_ret
      all_goals exact ⟨by rw [HV.out, HK.out, e2]; rfl, hb2⟩
  · have HK := Lib.hid (show rfOk a b c = false by simpa using hk)
    clear hk
    refine wp_region_noPanic ?_
    refine wp_region_held_drew (S := fun W => W.cell? ⟨w.heap.size, 0, none⟩ = some (.bool a0) ∧ W.cell? ⟨w.heap.size, 1, none⟩ = some (.bool a1) ∧ W.cell? ⟨w.heap.size, 2, none⟩ = some (.bool a2) ∧ W.cell? ⟨w.heap.size, 3, none⟩ = some (.bool a3) ∧ W.cell? ⟨w.heap.size, 4, none⟩ = some (.bool a4) ∧ W.cell? ⟨w.heap.size, 5, none⟩ = some (.bool a5) ∧ W.cell? ⟨w.heap.size + 1, 0, none⟩ = some (.int .i64 a) ∧ W.cell? ⟨w.heap.size + 1, 1, none⟩ = some (.int .i64 b) ∧ W.cell? ⟨w.heap.size + 1, 2, none⟩ = some (.int .i64 c)) (by kernel_rfl) HS0 (fun hHeld => ?_)
    refine wpAnyH_take (i := 0) (v := ?_) rfl (by kernel_rfl) (by kernel_rfl) (by kernel_rfl) (fun _ _ _ h => h) (Or.inl ⟨by rfl, ?_⟩) (by assumption) ?_
    rotate_left
    · (intro W hSw; obtain ⟨s0, s1, s2, s3, s4, s5, s6, s7, s8⟩ := hSw; go_simp; try with_reducible rfl)
    simp only [Act.put, List.getElem_toArray, List.getElem_cons_zero, List.setIfInBounds_toArray, List.set_cons_zero, List.set_cons_succ]
    refine wpAnyH_ready (rs := [1]) (by kernel_rfl) (by simp) ?_
    refine AllReadyH.cons rfl (fun K hK => ?_) AllReadyH.nil
    go_simp
    (go_at_call 40; (with_reducible refine (rfvalid_any a b c _).mono ?_); rw [HK.out]; rintro e w1 ⟨rfl, hb1⟩)
    have g1 := o1.drew.step hb1
    have g2 := o2.drew.step hb1
    have hb2 := bl_trans hb0.drew hb1
    have HS1 := own_nine g1 g2
    refine hK.out _ _ HS1 (fun hHeld2 => ?_)
    clear hK K hHeld
    have hHeld := hHeld2
    clear hHeld2
    try simp only [Act.put, List.getElem_toArray, List.getElem_cons_zero, List.getElem_cons_succ, List.setIfInBounds_toArray, List.set_cons_zero, List.set_cons_succ]
    refine wpAnyH_take (i := 2) (v := ?_) rfl (by kernel_rfl) (by kernel_rfl) (by kernel_rfl) (fun _ _ _ h => h) (Or.inl ⟨by rfl, ?_⟩) (by assumption) ?_
    rotate_left
    · (intro W hSw; obtain ⟨s0, s1, s2, s3, s4, s5, s6, s7, s8⟩ := hSw; go_simp; try with_reducible rfl)
    simp only [Act.put, List.getElem_toArray, List.getElem_cons_zero, List.getElem_cons_succ, List.setIfInBounds_toArray, List.set_cons_zero, List.set_cons_succ]
    refine wpAnyH_take (i := 3) (v := undef) rfl (by kernel_rfl) (by kernel_rfl) (by kernel_rfl) (fun _ _ _ h => h) (Or.inr ⟨by rfl, rfl⟩) (by assumption) ?_
    simp only [Act.put, List.getElem_toArray, List.getElem_cons_zero, List.getElem_cons_succ, List.setIfInBounds_toArray, List.set_cons_zero, List.set_cons_succ]
    refine wpAnyH_take (i := 4) (v := undef) rfl (by kernel_rfl) (by kernel_rfl) (by kernel_rfl) (fun _ _ _ h => h) (Or.inr ⟨by rfl, rfl⟩) (by assumption) ?_
    simp only [Act.put, List.getElem_toArray, List.getElem_cons_zero, List.getElem_cons_succ, List.setIfInBounds_toArray, List.set_cons_zero, List.set_cons_succ]
    refine wpAnyH_take (i := 5) (v := undef) rfl (by kernel_rfl) (by kernel_rfl) (by kernel_rfl) (fun _ _ _ h => h) (Or.inr ⟨by rfl, rfl⟩) (by assumption) ?_
    simp only [Act.put, List.getElem_toArray, List.getElem_cons_zero, List.getElem_cons_succ, List.setIfInBounds_toArray, List.set_cons_zero, List.set_cons_succ]
    refine wpAnyH_take (i := 6) (v := ?_) rfl (by kernel_rfl) (by kernel_rfl) (by kernel_rfl) (fun _ _ _ h => h) (Or.inl ⟨by rfl, ?_⟩) (by assumption) ?_
    rotate_left
    · (intro W hSw; obtain ⟨s0, s1, s2, s3, s4, s5, s6, s7, s8⟩ := hSw; go_simp; try with_reducible rfl)
    simp only [Act.put, List.getElem_toArray, List.getElem_cons_zero, List.getElem_cons_succ, List.setIfInBounds_toArray, List.set_cons_zero, List.set_cons_succ]
    refine wpAnyH_take (i := 7) (v := ?_) rfl (by kernel_rfl) (by kernel_rfl) (by kernel_rfl) (fun _ _ _ h => h) (Or.inl ⟨by rfl, ?_⟩) (by assumption) ?_
    rotate_left
    · (intro W hSw; obtain ⟨s0, s1, s2, s3, s4, s5, s6, s7, s8⟩ := hSw; go_simp; try with_reducible rfl)
    simp only [Act.put, List.getElem_toArray, List.getElem_cons_zero, List.getElem_cons_succ, List.setIfInBounds_toArray, List.set_cons_zero, List.set_cons_succ]
    refine wpAnyH_take (i := 8) (v := undef) rfl (by kernel_rfl) (by kernel_rfl) (by kernel_rfl) (fun _ _ _ h => h) (Or.inr ⟨by rfl, rfl⟩) (by assumption) ?_
    simp only [Act.put, List.getElem_toArray, List.getElem_cons_zero, List.getElem_cons_succ, List.setIfInBounds_toArray, List.set_cons_zero, List.set_cons_succ]
    refine wpAnyH_take (i := 9) (v := undef) rfl (by kernel_rfl) (by kernel_rfl) (by kernel_rfl) (fun _ _ _ h => h) (Or.inr ⟨by rfl, rfl⟩) (by assumption) ?_
    simp only [Act.put, List.getElem_toArray, List.getElem_cons_zero, List.getElem_cons_succ, List.setIfInBounds_toArray, List.set_cons_zero, List.set_cons_succ]
    refine wpAnyH_take (i := 10) (v := undef) rfl (by kernel_rfl) (by kernel_rfl) (by kernel_rfl) (fun _ _ _ h => h) (Or.inr ⟨by rfl, rfl⟩) (by assumption) ?_
    simp only [Act.put, List.getElem_toArray, List.getElem_cons_zero, List.getElem_cons_succ, List.setIfInBounds_toArray, List.set_cons_zero, List.set_cons_succ]
    refine wpAnyH_take (i := 11) (v := undef) rfl (by kernel_rfl) (by kernel_rfl) (by kernel_rfl) (fun _ _ _ h => h) (Or.inr ⟨by rfl, rfl⟩) (by assumption) ?_
    simp only [Act.put, List.getElem_toArray, List.getElem_cons_zero, List.getElem_cons_succ, List.setIfInBounds_toArray, List.set_cons_zero, List.set_cons_succ]
    refine wpAnyH_take (i := 12) (v := undef) rfl (by kernel_rfl) (by kernel_rfl) (by kernel_rfl) (fun _ _ _ h => h) (Or.inr ⟨by rfl, rfl⟩) (by assumption) ?_
    simp only [Act.put, List.getElem_toArray, List.getElem_cons_zero, List.getElem_cons_succ, List.setIfInBounds_toArray, List.set_cons_zero, List.set_cons_succ]
    refine wpAnyH_take (i := 13) (v := ?_) rfl (by kernel_rfl) (by kernel_rfl) (by kernel_rfl) (fun _ _ _ h => h) (Or.inl ⟨by rfl, ?_⟩) (by assumption) ?_
    rotate_left
    · (intro W hSw; obtain ⟨s0, s1, s2, s3, s4, s5, s6, s7, s8⟩ := hSw; go_simp; try with_reducible rfl)
    simp only [Act.put, List.getElem_toArray, List.getElem_cons_zero, List.getElem_cons_succ, List.setIfInBounds_toArray, List.set_cons_zero, List.set_cons_succ]
    refine wpAnyH_take (i := 14) (v := ?_) rfl (by kernel_rfl) (by kernel_rfl) (by kernel_rfl) (fun _ _ _ h => h) (Or.inl ⟨by rfl, ?_⟩) (by assumption) ?_
    rotate_left
    · (intro W hSw; obtain ⟨s0, s1, s2, s3, s4, s5, s6, s7, s8⟩ := hSw; go_simp; try with_reducible rfl)
    simp only [Act.put, List.getElem_toArray, List.getElem_cons_zero, List.getElem_cons_succ, List.setIfInBounds_toArray, List.set_cons_zero, List.set_cons_succ]
    refine wpAnyH_done (by kernel_rfl) ?_ _
    refine NoPanic.normal ?_
    all_goals go_wp2
    all_goals go_ret
    all_goals exact ⟨by rw [HV.out, HK.out]; rfl, hb2⟩
theorem famOf_cases (a c : Int) : famOf a c = 0 ∨ famOf a c = 1 ∨ famOf a c = 2 := by
  unfold famOf
  split
  · omega
  · exact .inl rfl
set_option maxRecDepth 100000 in
set_option maxHeartbeats 1600000 in
theorem ruseful_any (a0 a1 a2 a3 a4 a5 : Bool) (a b c : Int) (w : World) :
    Calls Tryd.prog 35 #[opts a0 a1 a2 a3 a4 a5, .agg #[.int .i64 a, .int .i64 b, .int .i64 c]] w fun e w' => e = .returned (.bool (rfUse a3 a b c)) ∧ Below w.heap.size w w' := by
  have HV := Lib.hid (show rfUse a3 a b c = (rfOk a b c && decide (b ≤ 2) && famIn a3 (famOf a c)) from rfl)
  generalize rfUse a3 a b c = R at HV ⊢
  unfold opts
  have hb0 := bl_alloc (bl_alloc (bl_refl w) (.cells #[.bool a0, .bool a1, .bool a2, .bool a3, .bool a4, .bool a5] 23)) (.cells #[.int .i64 a, .int .i64 b, .int .i64 c] 55)
  have o1 := (Own.new w 23 #[.bool a0, .bool a1, .bool a2, .bool a3, .bool a4, .bool a5]).alloc (.cells #[.int .i64 a, .int .i64 b, .int .i64 c] 55)
  have o2 := Own.new (w.alloc (.cells #[.bool a0, .bool a1, .bool a2, .bool a3, .bool a4, .bool a5] 23)) 55 #[.int .i64 a, .int .i64 b, .int .i64 c]
  rw [show (w.alloc (.cells #[.bool a0, .bool a1, .bool a2, .bool a3, .bool a4, .bool a5] 23)).heap.size = w.heap.size + 1 by simp] at o2
  go_enter Tryd.func35, Tryd.ntmps35
  go_wp2_with fail
  refine (rrfvalid_any a b c _).mono ?_
  by_cases hk : rfOk a b c = true
  · have HB := Lib.hid (rfOk_bounds hk)
    have HK := Lib.hid hk
    clear hk
    rw [HK.out]
    rintro e w1 ⟨rfl, hb1⟩
    have g1 := o1.step hb1
    have g2 := o2.step hb1
    have hb2 := bl_trans hb0 hb1
    have HC := Lib.hid (own_nine g1 g2)
    clear o1 o2 hb0 hb1
    have k0 := HC.out.2.2.2.2.2.2.1
    have k1 := HC.out.2.2.2.2.2.2.2.1
    have k2 := HC.out.2.2.2.2.2.2.2.2
    by_cases h2 : b ≤ 2
    · have e2 : decide (b ≤ 2) = true := by simpa using h2
      clear h2
      go_wp2_with fail
      refine (rrffamily_any a b c _ HB.out.1 HB.out.2.1 HB.out.2.2.2.2.1 HB.out.2.2.2.2.2).mono ?_
      have HF := Lib.hid (famOf_cases a c)
      have hE : ∃ F, famOf a c = F := ⟨_, rfl⟩
      obtain ⟨F, hE⟩ := hE
      have HE := Lib.hid hE
      rw [hE] at HF HV ⊢
      clear hE
      rintro e w2 ⟨rfl, hb3⟩
      have m1 := g1.step hb3
      have m2 := g2.step hb3
      have hb4 := bl_trans hb2 hb3
      have j0 := m2.cell (i := 0) (v := .int .i64 a) rfl
      have j1 := m2.cell (i := 1) (v := .int .i64 b) rfl
      have j2 := m2.cell (i := 2) (v := .int .i64 c) rfl
      clear k0 k1 k2 g1 g2 hb2 hb3 HC
      by_cases hF : F = 1
      · subst hF
        go_wp2
        go_ret
        exact ⟨by rw [HV.out, HK.out, e2]; rfl, hb4⟩
      · have f1 : (F == 1) = false := by simpa using hF
        go_wp2_with fail
        refine (rrffamily_any a b c _ HB.out.1 HB.out.2.1 HB.out.2.2.2.2.1 HB.out.2.2.2.2.2).mono ?_
        rw [HE.out]
        rintro e w3 ⟨rfl, hb5⟩
        have n1 := m1.step hb5
        have q3 := n1.cell (i := 3) (v := .bool a3) rfl
        have hb6 := bl_trans hb4 hb5
        by_cases hG : F = 2
        · subst hG
          go_wp2
          go_ret
          exact ⟨by rw [HV.out, HK.out, e2]; cases a3 <;> rfl, hb6⟩
        · have f2 : (F == 2) = false := by simpa using hG
          go_wp2
          go_ret
          exact ⟨by rw [HV.out, HK.out, e2]; unfold famIn; rw [decide_eq_false hF, decide_eq_false hG]; rfl, hb6⟩
    · have e2 : decide (b ≤ 2) = false := by simpa using h2
      clear h2
      go_wp2
      go_ret
      exact ⟨by rw [HV.out, HK.out, e2]; rfl, hb2⟩
  · have HK := Lib.hid (show rfOk a b c = false by simpa using hk)
    clear hk
    rw [HK.out]
    rintro e w1 ⟨rfl, hb1⟩
    have g1 := o1.step hb1
    have g2 := o2.step hb1
    have hb2 := bl_trans hb0 hb1
    clear o1 o2 hb0 hb1
    go_wp2
    go_ret
    exact ⟨by rw [HV.out, HK.out]; rfl, hb2⟩
end Go.Proofs.YtejdpfhdjndefaaDoor

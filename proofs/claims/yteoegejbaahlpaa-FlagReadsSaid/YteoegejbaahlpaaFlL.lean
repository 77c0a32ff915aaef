/- FlagReads: the walk -/
import Derived.Test.YteoegejbaahlpaaFlK
import Derived.Test.YteoegejbaahlpaaFlF
import Derived.Deep.RegionWith
namespace Go.Proofs.Yteoegejbaahlpaa
open Go.RowKit Extern.Stop

theorem hR_form (xs : List Int) : ∃ f t n, hR xs = #[.int .i64 f, .int .i64 t, .int .i64 n] := by
  unfold hR
  split
  · split
    · exact ⟨_, _, _, rfl⟩
    · exact ⟨_, _, _, rfl⟩
  · exact ⟨_, _, _, rfl⟩
theorem and_seven {W : World} {a b c d e f g : Addr} {x y z t u v q : Value} (h1 : W.cell? a = some x) (h2 : W.cell? b = some y) (h3 : W.cell? c = some z) (h4 : W.cell? d = some t) (h5 : W.cell? e = some u) (h6 : W.cell? f = some v) (h7 : W.cell? g = some q) :
    W.cell? a = some x ∧ W.cell? b = some y ∧ W.cell? c = some z ∧ W.cell? d = some t ∧ W.cell? e = some u ∧ W.cell? f = some v ∧ W.cell? g = some q := ⟨h1, h2, h3, h4, h5, h6, h7⟩
theorem drew_seven {W : World} {a b c d e f g : Addr} {x y z t u v q : Value} (h1 : W.cell? a = some x) (h2 : W.cell? b = some y) (h3 : W.cell? c = some z) (h4 : W.cell? d = some t) (h5 : W.cell? e = some u) (h6 : W.cell? f = some v) (h7 : W.cell? g = some q) :
    W.drew.cell? a = some x ∧ W.drew.cell? b = some y ∧ W.drew.cell? c = some z ∧ W.drew.cell? d = some t ∧ W.drew.cell? e = some u ∧ W.drew.cell? f = some v ∧ W.drew.cell? g = some q := ⟨h1, h2, h3, h4, h5, h6, h7⟩
set_option maxRecDepth 100000 in
theorem freads_early (A : Option Addr) (n c : Nat) (w : World) (hm : n ≤ maxLen) (h : 100 < n) :
    Calls Try.prog 9 #[.slice A n c] w fun e w' => e = .returned (.bool true) ∧ Below w.heap.size w w' := by
  unfold maxLen at hm
  go_enter Try.func9, Try.ntmps9
  go_wp2_with fail
  refine (alive10_any _).mono ?_
  rintro e w1 ⟨rfl, hb1⟩
  go_wp2
  go_ret
  exact ⟨rfl, hb1⟩

set_option maxRecDepth 100000 in
set_option maxHeartbeats 1600000 in
theorem freads_yes (A : Option Addr) (n c : Nat) (xs : List Int) (w : World) (hx : Bytes w w.heap.size A n xs) (hc : n ≤ c) (h : n ≤ 100) (hok : hOk xs = true) :
    Calls Try.prog 9 #[.slice A n c] w fun e w' => e = .returned (.bool true) ∧ Below w.heap.size w w' := by
  obtain ⟨f, t, m, hR'⟩ := hR_form xs
  have HR := Lib.hid hR'
  have HO := Lib.hid hok
  have heql := head_eql f t m
  have hlen : xs.length ≤ 100 := by have := hx.1; omega
  clear hok hR'
  go_enter Try.func9, Try.ntmps9
  go_wp2_with fail
  refine (new_any A n c xs _ hx (by omega)).mono ?_
  rintro e w1 ⟨g, rfl, hg, hr, hb1⟩
  go_wp2_with fail
  refine (fread_any xs g 0 _ hr (by omega) (by omega)).mono ?_
  rw [HR.out, HO.out]
  rintro e w2 ⟨rfl, hr2, hg2⟩
  have hr2 := hr2 rfl
  have hbw := bl_only hb1 hg2 hg
  have o1 := Own.new w2 55 #[.int .i64 f, .int .i64 t, .int .i64 m]
  have hba := bl_alloc (bl_refl w2) (.cells #[.int .i64 f, .int .i64 t, .int .i64 m] 55)
  have hr3 := hr2.below hba
  have hbw3 := bl_trans hbw hba
  have hx3 := (hx.below hbw3).more hbw3.size
  clear hr hr2 hg2 hb1 hbw hba
  go_wp2_with fail
  refine (rfread_any xs A n c 0 _ hx3 hc (by omega) (by omega)).mono ?_
  rintro e w4 ⟨⟨A1, n1, c1, p1, rfl, hp1⟩, hb4⟩
  have hp1 := hp1 HO.out
  subst hp1
  rw [HR.out, HO.out]
  go_wp2_with fail
  have hbc := bl_alloc (bl_alloc hb4 (.cells #[.slice A1 n1 c1, .int .i64 (hN xs)] 64)) (.cells #[.int .i64 f, .int .i64 t, .int .i64 m] 53)
  have o4 := o1.step hbc
  have o6 := (Own.new w4 64 #[.slice A1 n1 c1, .int .i64 (hN xs)]).alloc (.cells #[.int .i64 f, .int .i64 t, .int .i64 m] 53)
  have o7 := Own.new (w4.alloc (.cells #[.slice A1 n1 c1, .int .i64 (hN xs)] 64)) 53 #[.int .i64 f, .int .i64 t, .int .i64 m]
  rw [show (w4.alloc (.cells #[.slice A1 n1 c1, .int .i64 (hN xs)] 64)).heap.size = w4.heap.size + 1 by simp] at o7
  have hr6 := hr3.below hbc
  rw [Nat.zero_add] at hr6
  have hbV := bl_trans hbw3 hbc
  clear o1 hr3 hbw3 hx3 hr2 hb4 hp1 hbc hx hg
  generalize w2.heap.size = b4 at *
  generalize w4.heap.size = b6 at *
  generalize (w4.alloc (.cells #[.slice A1 n1 c1, .int .i64 (hN xs)] 64)).alloc (.cells #[.int .i64 f, .int .i64 t, .int .i64 m] 53) = V at o4 o6 o7 hr6 hbV ⊢
  have HS0 := drew_seven (o4.cell (i := 0) (v := .int .i64 f) rfl) (o4.cell (i := 1) (v := .int .i64 t) rfl) (o4.cell (i := 2) (v := .int .i64 m) rfl) (o7.cell (i := 0) (v := .int .i64 f) rfl) (o7.cell (i := 1) (v := .int .i64 t) rfl) (o7.cell (i := 2) (v := .int .i64 m) rfl) (o6.cell (i := 1) (v := .int .i64 (hN xs)) rfl)
  go_region_held3 (fun W => W.cell? ⟨b4, 0, none⟩ = some (.int .i64 f) ∧ W.cell? ⟨b4, 1, none⟩ = some (.int .i64 t) ∧ W.cell? ⟨b4, 2, none⟩ = some (.int .i64 m) ∧ W.cell? ⟨b6 + 1, 0, none⟩ = some (.int .i64 f) ∧ W.cell? ⟨b6 + 1, 1, none⟩ = some (.int .i64 t) ∧ W.cell? ⟨b6 + 1, 2, none⟩ = some (.int .i64 m) ∧ W.cell? ⟨b6, 1, none⟩ = some (.int .i64 (hN xs))) (with_reducible first | exact HS0 | exact HS1) ((first
    | (go_at_call 36; (with_reducible refine (alive10_any _).mono ?_); rintro e w5 ⟨rfl, hb5⟩; have g4 := o4.drew.step hb5; have g6 := o6.drew.step hb5; have g7 := o7.drew.step hb5; have hr7 := Rdr.below (w := V.drew) hr6 hb5; have hb6 := bl_trans hbV.drew hb5; have HS1 := and_seven (g4.cell (i := 0) (v := .int .i64 f) rfl) (g4.cell (i := 1) (v := .int .i64 t) rfl) (g4.cell (i := 2) (v := .int .i64 m) rfl) (g7.cell (i := 0) (v := .int .i64 f) rfl) (g7.cell (i := 1) (v := .int .i64 t) rfl) (g7.cell (i := 2) (v := .int .i64 m) rfl) (g6.cell (i := 1) (v := .int .i64 (hN xs)) rfl))
    | (go_at_call 39; (with_reducible refine (at_any g _ _ _ hr7).mono ?_); rintro e w' ⟨rfl, rfl⟩)))
  all_goals go_wp2
  all_goals go_ret
  all_goals exact ⟨rfl, hb6⟩
set_option maxRecDepth 100000 in
set_option maxHeartbeats 1600000 in
theorem freads_no (A : Option Addr) (n c : Nat) (xs : List Int) (w : World) (hx : Bytes w w.heap.size A n xs) (hc : n ≤ c) (h : n ≤ 100) (hok : hOk xs = false) :
    Calls Try.prog 9 #[.slice A n c] w fun e w' => e = .returned (.bool true) ∧ Below w.heap.size w w' := by
  obtain ⟨f, t, m, hR'⟩ := hR_form xs
  have HR := Lib.hid hR'
  have HO := Lib.hid hok
  have heql := head_eql f t m
  have hlen : xs.length ≤ 100 := by have := hx.1; omega
  clear hok hR'
  go_enter Try.func9, Try.ntmps9
  go_wp2_with fail
  refine (new_any A n c xs _ hx (by omega)).mono ?_
  rintro e w1 ⟨g, rfl, hg, hr, hb1⟩
  go_wp2_with fail
  refine (fread_any xs g 0 _ hr (by omega) (by omega)).mono ?_
  rw [HR.out, HO.out]
  rintro e w2 ⟨rfl, hr2, hg2⟩
  have hbw := bl_only hb1 hg2 hg
  have o1 := Own.new w2 55 #[.int .i64 f, .int .i64 t, .int .i64 m]
  have hba := bl_alloc (bl_refl w2) (.cells #[.int .i64 f, .int .i64 t, .int .i64 m] 55)
  have hbw3 := bl_trans hbw hba
  have hx3 := (hx.below hbw3).more hbw3.size
  clear hr hr2 hg2 hb1 hbw hba
  go_wp2_with fail
  refine (rfread_any xs A n c 0 _ hx3 hc (by omega) (by omega)).mono ?_
  rintro e w4 ⟨⟨A1, n1, c1, p1, rfl, hp1⟩, hb4⟩
  rw [HR.out, HO.out]
  go_wp2_with fail
  have hbc := bl_alloc (bl_alloc hb4 (.cells #[.slice A1 n1 c1, .int .i64 p1] 64)) (.cells #[.int .i64 f, .int .i64 t, .int .i64 m] 53)
  have o4 := o1.step hbc
  have o6 := (Own.new w4 64 #[.slice A1 n1 c1, .int .i64 p1]).alloc (.cells #[.int .i64 f, .int .i64 t, .int .i64 m] 53)
  have o7 := Own.new (w4.alloc (.cells #[.slice A1 n1 c1, .int .i64 p1] 64)) 53 #[.int .i64 f, .int .i64 t, .int .i64 m]
  rw [show (w4.alloc (.cells #[.slice A1 n1 c1, .int .i64 p1] 64)).heap.size = w4.heap.size + 1 by simp] at o7
  have hbV := bl_trans hbw3 hbc
  clear o1 hbw3 hx3 hb4 hp1 hbc hx hg
  generalize w2.heap.size = b4 at *
  generalize w4.heap.size = b6 at *
  generalize (w4.alloc (.cells #[.slice A1 n1 c1, .int .i64 p1] 64)).alloc (.cells #[.int .i64 f, .int .i64 t, .int .i64 m] 53) = V at o4 o6 o7 hbV ⊢
  have HS0 := drew_seven (o4.cell (i := 0) (v := .int .i64 f) rfl) (o4.cell (i := 1) (v := .int .i64 t) rfl) (o4.cell (i := 2) (v := .int .i64 m) rfl) (o7.cell (i := 0) (v := .int .i64 f) rfl) (o7.cell (i := 1) (v := .int .i64 t) rfl) (o7.cell (i := 2) (v := .int .i64 m) rfl) (o6.cell (i := 1) (v := .int .i64 p1) rfl)
  refine wp_region_noPanic ?_
  refine wp_region_held_drew (S := fun W => W.cell? ⟨b4, 0, none⟩ = some (.int .i64 f) ∧ W.cell? ⟨b4, 1, none⟩ = some (.int .i64 t) ∧ W.cell? ⟨b4, 2, none⟩ = some (.int .i64 m) ∧ W.cell? ⟨b6 + 1, 0, none⟩ = some (.int .i64 f) ∧ W.cell? ⟨b6 + 1, 1, none⟩ = some (.int .i64 t) ∧ W.cell? ⟨b6 + 1, 2, none⟩ = some (.int .i64 m) ∧ W.cell? ⟨b6, 1, none⟩ = some (.int .i64 p1)) (by kernel_rfl) HS0 (fun hHeld => ?_)
  refine wpAnyH_ready (rs := [0]) (by kernel_rfl) (by simp) ?_
  refine AllReadyH.cons rfl (fun K hK => ?_) AllReadyH.nil
  go_simp
  (go_at_call 36; (with_reducible refine (alive10_any _).mono ?_); rintro e w5 ⟨rfl, hb5⟩)
  have g4 := o4.drew.step hb5
  have g6 := o6.drew.step hb5
  have g7 := o7.drew.step hb5
  have hb6 := bl_trans hbV.drew hb5
  have HS1 := and_seven (g4.cell (i := 0) (v := .int .i64 f) rfl) (g4.cell (i := 1) (v := .int .i64 t) rfl) (g4.cell (i := 2) (v := .int .i64 m) rfl) (g7.cell (i := 0) (v := .int .i64 f) rfl) (g7.cell (i := 1) (v := .int .i64 t) rfl) (g7.cell (i := 2) (v := .int .i64 m) rfl) (g6.cell (i := 1) (v := .int .i64 p1) rfl)
  refine hK.out _ _ HS1 (fun hHeld2 => ?_)
  clear hK K hHeld
  have hHeld := hHeld2
  clear hHeld2
  try simp only [Act.put, List.getElem_toArray, List.getElem_cons_zero, List.setIfInBounds_toArray, List.set_cons_zero, List.set_cons_succ]
  refine wpAnyH_take (i := 1) (v := ?_) rfl (by kernel_rfl) (by kernel_rfl) (by kernel_rfl) (fun _ _ _ h => h) (Or.inl ⟨by rfl, ?_⟩) (by assumption) ?_
  rotate_left
  · (intro W hSw; obtain ⟨s0, s1, s2, s3, s4, s5, s6⟩ := hSw; go_simp; try with_reducible rfl)
  simp only [Act.put, List.getElem_toArray, List.getElem_cons_zero, List.getElem_cons_succ, List.setIfInBounds_toArray, List.set_cons_zero, List.set_cons_succ]
  refine wpAnyH_take (i := 2) (v := ?_) rfl (by kernel_rfl) (by kernel_rfl) (by kernel_rfl) (fun _ _ _ h => h) (Or.inl ⟨by rfl, ?_⟩) (by assumption) ?_
  rotate_left
  · (intro W hSw; obtain ⟨s0, s1, s2, s3, s4, s5, s6⟩ := hSw; go_simp; try with_reducible rfl)
  simp only [Act.put, List.getElem_toArray, List.getElem_cons_zero, List.getElem_cons_succ, List.setIfInBounds_toArray, List.set_cons_zero, List.set_cons_succ]
  refine wpAnyH_take (i := 3) (v := ?_) rfl (by kernel_rfl) (by kernel_rfl) (by kernel_rfl) (fun _ _ _ h => h) (Or.inl ⟨by rfl, ?_⟩) (by assumption) ?_
  rotate_left
  · (intro W hSw; obtain ⟨s0, s1, s2, s3, s4, s5, s6⟩ := hSw; go_simp; try with_reducible rfl)
  simp only [Act.put, List.getElem_toArray, List.getElem_cons_zero, List.getElem_cons_succ, List.setIfInBounds_toArray, List.set_cons_zero, List.set_cons_succ]
  refine wpAnyH_take (i := 4) (v := ?_) rfl (by kernel_rfl) (by kernel_rfl) (by kernel_rfl) (fun _ _ _ h => h) (Or.inl ⟨by rfl, ?_⟩) (by assumption) ?_
  rotate_left
  · (intro W hSw; obtain ⟨s0, s1, s2, s3, s4, s5, s6⟩ := hSw; go_simp; try with_reducible rfl)
  simp only [Act.put, List.getElem_toArray, List.getElem_cons_zero, List.getElem_cons_succ, List.setIfInBounds_toArray, List.set_cons_zero, List.set_cons_succ]
  refine wpAnyH_take (i := 5) (v := ?_) rfl (by kernel_rfl) (by kernel_rfl) (by kernel_rfl) (fun _ _ _ h => h) (Or.inl ⟨by rfl, ?_⟩) (by assumption) ?_
  rotate_left
  · (intro W hSw; obtain ⟨s0, s1, s2, s3, s4, s5, s6⟩ := hSw; go_simp; try with_reducible rfl)
  simp only [Act.put, List.getElem_toArray, List.getElem_cons_zero, List.getElem_cons_succ, List.setIfInBounds_toArray, List.set_cons_zero, List.set_cons_succ]
  refine wpAnyH_take (i := 6) (v := ?_) rfl (by kernel_rfl) (by kernel_rfl) (by kernel_rfl) (fun _ _ _ h => h) (Or.inl ⟨by rfl, ?_⟩) (by assumption) ?_
  rotate_left
  · (intro W hSw; obtain ⟨s0, s1, s2, s3, s4, s5, s6⟩ := hSw; go_simp; try with_reducible rfl)
  simp only [Act.put, List.getElem_toArray, List.getElem_cons_zero, List.getElem_cons_succ, List.setIfInBounds_toArray, List.set_cons_zero, List.set_cons_succ]
  refine wpAnyH_take (i := 7) (v := ?_) rfl (by kernel_rfl) (by kernel_rfl) (by kernel_rfl) (fun _ _ _ h => h) (Or.inl ⟨by rfl, ?_⟩) (by assumption) ?_
  rotate_left
  · (intro W hSw; obtain ⟨s0, s1, s2, s3, s4, s5, s6⟩ := hSw; go_simp; try with_reducible rfl)
  simp only [Act.put, List.getElem_toArray, List.getElem_cons_zero, List.getElem_cons_succ, List.setIfInBounds_toArray, List.set_cons_zero, List.set_cons_succ]
  refine wpAnyH_take (i := 8) (v := ?_) rfl (by kernel_rfl) (by kernel_rfl) (by kernel_rfl) (fun _ _ _ h => h) (Or.inl ⟨by rfl, ?_⟩) (by assumption) ?_
  rotate_left
  · (intro W hSw; obtain ⟨s0, s1, s2, s3, s4, s5, s6⟩ := hSw; go_simp; try with_reducible rfl)
  simp only [Act.put, List.getElem_toArray, List.getElem_cons_zero, List.getElem_cons_succ, List.setIfInBounds_toArray, List.set_cons_zero, List.set_cons_succ]
  refine wpAnyH_take (i := 9) (v := ?_) rfl (by kernel_rfl) (by kernel_rfl) (by kernel_rfl) (fun _ _ _ h => h) (Or.inl ⟨by rfl, ?_⟩) (by assumption) ?_
  rotate_left
  · (intro W hSw; obtain ⟨s0, s1, s2, s3, s4, s5, s6⟩ := hSw; go_simp; try with_reducible rfl)
  simp only [Act.put, List.getElem_toArray, List.getElem_cons_zero, List.getElem_cons_succ, List.setIfInBounds_toArray, List.set_cons_zero, List.set_cons_succ]
  refine wpAnyH_take (i := 10) (v := ?_) rfl (by kernel_rfl) (by kernel_rfl) (by kernel_rfl) (fun _ _ _ h => h) (Or.inl ⟨by rfl, ?_⟩) (by assumption) ?_
  rotate_left
  · (intro W hSw; obtain ⟨s0, s1, s2, s3, s4, s5, s6⟩ := hSw; go_simp; try with_reducible rfl)
  simp only [Act.put, List.getElem_toArray, List.getElem_cons_zero, List.getElem_cons_succ, List.setIfInBounds_toArray, List.set_cons_zero, List.set_cons_succ]
  refine wpAnyH_take (i := 11) (v := ?_) rfl (by kernel_rfl) (by kernel_rfl) (by kernel_rfl) (fun _ _ _ h => h) (Or.inl ⟨by rfl, ?_⟩) (by assumption) ?_
  rotate_left
  · (intro W hSw; obtain ⟨s0, s1, s2, s3, s4, s5, s6⟩ := hSw; go_simp; try with_reducible rfl)
  simp only [Act.put, List.getElem_toArray, List.getElem_cons_zero, List.getElem_cons_succ, List.setIfInBounds_toArray, List.set_cons_zero, List.set_cons_succ]
  refine wpAnyH_take (i := 12) (v := ?_) rfl (by kernel_rfl) (by kernel_rfl) (by kernel_rfl) (fun _ _ _ h => h) (Or.inl ⟨by rfl, ?_⟩) (by assumption) ?_
  rotate_left
  · (intro W hSw; obtain ⟨s0, s1, s2, s3, s4, s5, s6⟩ := hSw; go_simp; try with_reducible rfl)
  simp only [Act.put, List.getElem_toArray, List.getElem_cons_zero, List.getElem_cons_succ, List.setIfInBounds_toArray, List.set_cons_zero, List.set_cons_succ]
  refine wpAnyH_take (i := 13) (v := ?_) rfl (by kernel_rfl) (by kernel_rfl) (by kernel_rfl) (fun _ _ _ h => h) (Or.inl ⟨by rfl, ?_⟩) (by assumption) ?_
  rotate_left
  · (intro W hSw; obtain ⟨s0, s1, s2, s3, s4, s5, s6⟩ := hSw; go_simp; try with_reducible rfl)
  simp only [Act.put, List.getElem_toArray, List.getElem_cons_zero, List.getElem_cons_succ, List.setIfInBounds_toArray, List.set_cons_zero, List.set_cons_succ]
  refine wpAnyH_take (i := 14) (v := ?_) rfl (by kernel_rfl) (by kernel_rfl) (by kernel_rfl) (fun _ _ _ h => h) (Or.inl ⟨by rfl, ?_⟩) (by assumption) ?_
  rotate_left
  · (intro W hSw; obtain ⟨s0, s1, s2, s3, s4, s5, s6⟩ := hSw; go_simp; try with_reducible rfl)
  simp only [Act.put, List.getElem_toArray, List.getElem_cons_zero, List.getElem_cons_succ, List.setIfInBounds_toArray, List.set_cons_zero, List.set_cons_succ]
  refine wpAnyH_take (i := 15) (v := undef) rfl (by kernel_rfl) (by kernel_rfl) (by kernel_rfl) (fun _ _ _ h => h) (Or.inr ⟨by rfl, rfl⟩) (by assumption) ?_
  simp only [Act.put, List.getElem_toArray, List.getElem_cons_zero, List.getElem_cons_succ, List.setIfInBounds_toArray, List.set_cons_zero, List.set_cons_succ]
  refine wpAnyH_take (i := 17) (v := undef) rfl (by kernel_rfl) (by kernel_rfl) (by kernel_rfl) (fun _ _ _ h => h) (Or.inr ⟨by rfl, rfl⟩) (by assumption) ?_
  simp only [Act.put, List.getElem_toArray, List.getElem_cons_zero, List.getElem_cons_succ, List.setIfInBounds_toArray, List.set_cons_zero, List.set_cons_succ]
  refine wpAnyH_take (i := 18) (v := undef) rfl (by kernel_rfl) (by kernel_rfl) (by kernel_rfl) (fun _ _ _ h => h) (Or.inr ⟨by rfl, rfl⟩) (by assumption) ?_
  simp only [Act.put, List.getElem_toArray, List.getElem_cons_zero, List.getElem_cons_succ, List.setIfInBounds_toArray, List.set_cons_zero, List.set_cons_succ]
  refine wpAnyH_ready (rs := [16]) (by kernel_rfl) (by simp) ?_
  refine AllReadyH.cons rfl (fun K hK => ?_) AllReadyH.nil
  go_simp
  skip
  refine hK.out _ _ HS1 (fun hHeld2 => ?_)
  clear hK K hHeld
  have hHeld := hHeld2
  clear hHeld2
  try simp only [Act.put, List.getElem_toArray, List.getElem_cons_zero, List.getElem_cons_succ, List.setIfInBounds_toArray, List.set_cons_zero, List.set_cons_succ]
  refine wpAnyH_take (i := 19) (v := undef) rfl (by kernel_rfl) (by kernel_rfl) (by kernel_rfl) (fun _ _ _ h => h) (Or.inr ⟨by rfl, rfl⟩) (by assumption) ?_
  simp only [Act.put, List.getElem_toArray, List.getElem_cons_zero, List.getElem_cons_succ, List.setIfInBounds_toArray, List.set_cons_zero, List.set_cons_succ]
  refine wpAnyH_take (i := 20) (v := ?_) rfl (by kernel_rfl) (by kernel_rfl) (by kernel_rfl) (fun _ _ _ h => h) (Or.inl ⟨by rfl, ?_⟩) (by assumption) ?_
  rotate_left
  · (intro W hSw; obtain ⟨s0, s1, s2, s3, s4, s5, s6⟩ := hSw; go_simp; try with_reducible rfl)
  simp only [Act.put, List.getElem_toArray, List.getElem_cons_zero, List.getElem_cons_succ, List.setIfInBounds_toArray, List.set_cons_zero, List.set_cons_succ]
  refine wpAnyH_take (i := 21) (v := ?_) rfl (by kernel_rfl) (by kernel_rfl) (by kernel_rfl) (fun _ _ _ h => h) (Or.inl ⟨by rfl, ?_⟩) (by assumption) ?_
  rotate_left
  · (intro W hSw; obtain ⟨s0, s1, s2, s3, s4, s5, s6⟩ := hSw; go_simp; try with_reducible rfl)
  simp only [Act.put, List.getElem_toArray, List.getElem_cons_zero, List.getElem_cons_succ, List.setIfInBounds_toArray, List.set_cons_zero, List.set_cons_succ]
  refine wpAnyH_take (i := 22) (v := ?_) rfl (by kernel_rfl) (by kernel_rfl) (by kernel_rfl) (fun _ _ _ h => h) (Or.inl ⟨by rfl, ?_⟩) (by assumption) ?_
  rotate_left
  · (intro W hSw; obtain ⟨s0, s1, s2, s3, s4, s5, s6⟩ := hSw; go_simp; try with_reducible rfl)
  simp only [Act.put, List.getElem_toArray, List.getElem_cons_zero, List.getElem_cons_succ, List.setIfInBounds_toArray, List.set_cons_zero, List.set_cons_succ]
  refine wpAnyH_done (by kernel_rfl) ?_ _
  refine NoPanic.normal ?_
  go_wp2
  go_ret
  exact ⟨rfl, hb6⟩
set_option maxRecDepth 100000 in
theorem freads_all (A : Option Addr) (n c : Nat) (xs : List Int) (w : World) (hx : Bytes w w.heap.size A n xs) (hc : n ≤ c) (hm : n ≤ maxLen) :
    Calls Try.prog 9 #[.slice A n c] w fun e w' => e = .returned (.bool true) ∧ Below w.heap.size w w' := by
  by_cases h : 100 < n
  · exact freads_early A n c w hm h
  · by_cases hok : hOk xs = true
    · exact freads_yes A n c xs w hx hc (by omega) hok
    · exact freads_no A n c xs w hx hc (by omega) (by simpa using hok)
end Go.Proofs.Yteoegejbaahlpaa

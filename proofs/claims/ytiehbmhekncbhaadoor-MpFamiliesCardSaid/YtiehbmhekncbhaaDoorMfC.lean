/- MpFamilies -/
import Derived.Test.YtiehbmhekncbhaaDoorMfB
namespace Go.Proofs.YtiehbmhekncbhaaDoor
open Go.RowKit Go.Sort

set_option maxRecDepth 100000 in
/-- Equal bytes compared in a region that draws its order. -/
theorem bytesEq_rgM {w : World} (A A' : Option Addr) (n n' c c' : Nat) (xs : List Int) (hx : Bytes w w.heap.size A n xs) (hy : Bytes w w.heap.size A' n' xs) (hn : n ≤ 1000000000) (hn' : n' ≤ 1000000000) (d : Nat) (os : Array Obj) :
    Calls Tryd.prog 31 #[.slice A n c, .slice A' n' c'] (grow (redrawn w d) os) fun e w'' => e = .returned (.bool true) ∧ ∃ p : Regrown, w'' = grow (redrawn w p.d) p.os :=
  rg_of (w := w) (fun W hW => (bytesEq_any A A' n n' c c' xs xs W w.heap.size w.heap.size (hx.below hW) (hy.below hW) hn hn').mono (fun e w' h => ⟨by rw [h.1]; simp, by obtain ⟨m, rfl⟩ := h.2; exact bl_drewN (bl_refl W) m⟩)) d os
set_option maxRecDepth 100000 in
theorem rcodes_yes (f : Int) (w : World) (hf : f = 1 ∨ f = 2) :
    Calls Tryd.prog 50 #[.int .i64 f] w fun e w' => ∃ g, e = .returned (.tuple #[.slice (some ⟨g, 0, none⟩) 3 3, .bool true]) ∧ Own w' g 5 #[.int .u8 0, .int .u8 f, .int .u8 1] ∧ Below w.heap.size w w' := by
  rcases hf with rfl | rfl
  · have o := Own.new w 5 #[.int .u8 0, .int .u8 1, .int .u8 1]
    go_enter Tryd.func50, Tryd.ntmps50
    go_wp2
    go_ret2
    exact ⟨_, rfl, o, bl_alloc (bl_refl w) _⟩
  · have o := Own.new w 5 #[.int .u8 0, .int .u8 2, .int .u8 1]
    go_enter Tryd.func50, Tryd.ntmps50
    go_wp2
    go_ret2
    exact ⟨_, rfl, o, bl_alloc (bl_refl w) _⟩
set_option maxRecDepth 100000 in
theorem rcodes_no (f : Int) (w : World) (h1 : f ≠ 1) (h2 : f ≠ 2) :
    Calls Tryd.prog 50 #[.int .i64 f] w fun e w' => e = .returned (.tuple #[.slice none 0 0, .bool false]) ∧ w = w' := by
  have q1 : (f != 1) = true := by simpa using h1
  have q2 : (f != 2) = true := by simpa using h2
  go_enter Tryd.func50, Tryd.ntmps50
  go_wp2
  go_ret2
  exact ⟨rfl, rfl⟩
set_option maxRecDepth 100000 in
theorem fam_rg {w : World} (a c : Int) (hf : Fams w) (d : Nat) (os : Array Obj) : Calls Tryd.prog 52 #[.int .u32 a, .int .u32 c] (grow (redrawn w d) os) fun e w'' => e = .returned (.int .i64 (famOf a c)) ∧ ∃ p : Regrown, w'' = grow (redrawn w p.d) p.os :=
  rg_of (w := w) (fun W hW => (mfamily_any a c W (hf.below hW)).mono (fun e w' h => ⟨h.1, by rw [← h.2]; exact bl_refl W⟩)) d os
set_option maxRecDepth 100000 in
set_option maxHeartbeats 1600000 in
theorem mpf_no (a c n : Int) (w : World) (hf : Fams w) (ha : 0 ≤ a ∧ a < 4294967296) (h1 : n ≠ 1) (h2 : n ≠ 2) :
    Calls Tryd.prog 12 #[.int .u32 a, .int .u32 c, .int .i64 n] w fun e w' => e = .returned (.bool true) ∧ Below w.heap.size w w' := by
  have hn1 := Lib.hid h1
  have hn2 := Lib.hid h2
  clear h1 h2
  go_enter Tryd.func12, Tryd.ntmps12
  go_wp2_with fail
  refine (codes_no n _ hn1.out hn2.out).mono ?_
  rintro e w1 ⟨rfl, rfl⟩
  go_wp2_with fail
  refine (rcodes_no n _ hn1.out hn2.out).mono ?_
  rintro e w1 ⟨rfl, rfl⟩
  go_wp2_with fail
  have al := Lib.hid (rg_of (w := w) (fun W hW => alive12_any W (hf.below hW)))
  have f1 := Lib.hid (fam_rg (w := w) a c hf)
  have f2 := Lib.hid (rg_of (w := w) (v := .int .i64 (famOf a c)) (fun W _ => (rmfamily_any a c ha.1 ha.2 W).mono (fun e w' h => ⟨h.1, by first | exact h.2 | (rw [← h.2]; exact bl_refl W)⟩)))
  have e1 := Lib.hid (bytesEq_rgM (w := w) none none 0 0 0 0 [] (Bytes.nil _ _ _) (Bytes.nil _ _ _) (by omega) (by omega))
  have g1 := Lib.hid (rg_of (w := w) (v := .bool (hasB n)) (fun W _ => (mhas_any n W).mono (fun e w' h => ⟨h.1, by rw [← h.2]; exact bl_refl W⟩)))
  have g2 := Lib.hid (rg_of (w := w) (v := .bool (hasB n)) (fun W _ => (rmhas_any n W).mono (fun e w' h => ⟨h.1, by rw [← h.2]; exact bl_refl W⟩)))
  generalize famOf a c = F at *
  generalize hasB n = B at *
  refine wp_region_quiet_below (by kernel_rfl) (by kernel_rfl) ?_
  repeat (first
    | go_big_quiet_skip
    | go_big_quiet_step (with_reducible first | exact al.out _ _ | exact f1.out _ _ | exact f2.out _ _ | exact e1.out _ _ | exact g1.out _ _ | exact g2.out _ _))
  refine wpQuiet_nil ?_
  rintro _ ⟨⟨dq, osq⟩, rfl⟩
  have hb1 := below_regrown w dq osq
  generalize grow (redrawn w dq) osq = w2 at *
  go_wp2
  go_ret
  exact ⟨rfl, hb1⟩
set_option maxRecDepth 100000 in
set_option maxHeartbeats 1600000 in
theorem mpf_yes (a c n : Int) (w : World) (hf : Fams w) (ha : 0 ≤ a ∧ a < 4294967296) (h : n = 1 ∨ n = 2) :
    Calls Tryd.prog 12 #[.int .u32 a, .int .u32 c, .int .i64 n] w fun e w' => e = .returned (.bool true) ∧ Below w.heap.size w w' := by
  have hn := Lib.hid h
  have hF := Lib.hid (show famOf n 1 = n by unfold famOf; rw [if_pos ⟨rfl, h⟩])
  have hr : ∀ x ∈ [0, n, 1], 0 ≤ x ∧ x ≤ 255 := by intro x hx; simp at hx; omega
  have hw1 : IntKind.u32.wrap n = n := by rw [IntKind.wrap_u32]; omega
  clear h
  go_enter Tryd.func12, Tryd.ntmps12
  go_wp2_with fail
  refine (codes_yes n _ hn.out hf).mono ?_
  rintro e w1 ⟨g, rfl, hg, hog, hb1⟩
  go_wp2_with fail
  refine (rcodes_yes n _ hn.out).mono ?_
  rintro e w2 ⟨j, rfl, hoj, hb2⟩
  have hog2 := hog.step hb2
  have hb3 := bl_trans hb1 hb2
  have hf2 := hf.below hb3
  have hy1 := Bytes.of_owned (xs := [0, n, 1]) hog2 hr hog2.lt
  have hy2 := Bytes.of_owned (xs := [0, n, 1]) hoj hr hoj.lt
  have d1 := cell_regrown (hoj.cell (i := 1) (v := .int .u8 n) rfl)
  have d2 := cell_regrown (hoj.cell (i := 2) (v := .int .u8 1) rfl)
  clear hog hb1 hb2 hg hr
  go_wp2_with fail
  have al := Lib.hid (rg_of (w := w2) (fun W hW => alive12_any W (hf2.below hW)))
  have f1 := Lib.hid (fam_rg (w := w2) a c hf2)
  have f3 := Lib.hid (fam_rg (w := w2) n 1 hf2)
  rw [hF.out] at f3
  have f2 := Lib.hid (rg_of (w := w2) (v := .int .i64 (famOf a c)) (fun W _ => (rmfamily_any a c ha.1 ha.2 W).mono (fun e w' h => ⟨h.1, by first | exact h.2 | (rw [← h.2]; exact bl_refl W)⟩)))
  have e1 := Lib.hid (bytesEq_rgM (w := w2) (some ⟨g, 0, none⟩) (some ⟨j, 0, none⟩) 3 3 3 3 _ hy1 hy2 (by omega) (by omega))
  have g1 := Lib.hid (rg_of (w := w2) (v := .bool (hasB n)) (fun W _ => (mhas_any n W).mono (fun e w' h => ⟨h.1, by rw [← h.2]; exact bl_refl W⟩)))
  have g2 := Lib.hid (rg_of (w := w2) (v := .bool (hasB n)) (fun W _ => (rmhas_any n W).mono (fun e w' h => ⟨h.1, by rw [← h.2]; exact bl_refl W⟩)))
  generalize famOf a c = F at *
  generalize hasB n = B at *
  clear hy1 hy2 hog2 hoj
  refine wp_region_quiet_below (by kernel_rfl) (by kernel_rfl) ?_
  repeat (first
    | go_big_quiet_skip
    | go_big_quiet_step (with_reducible first | exact al.out _ _ | exact f1.out _ _ | exact f2.out _ _ | exact f3.out _ _ | exact e1.out _ _ | exact g1.out _ _ | exact g2.out _ _))
  refine wpQuiet_nil ?_
  rintro _ ⟨⟨dq, osq⟩, rfl⟩
  have hb4 := bl_trans hb3 (below_regrown w2 dq osq)
  generalize grow (redrawn w2 dq) osq = w3 at *
  go_wp2
  go_ret
  exact ⟨rfl, hb4⟩
set_option maxRecDepth 100000 in
theorem mpf_all (a c n : Int) (w : World) (hf : Fams w) (ha : 0 ≤ a ∧ a < 4294967296) :
    Calls Tryd.prog 12 #[.int .u32 a, .int .u32 c, .int .i64 n] w fun e w' => e = .returned (.bool true) ∧ Below w.heap.size w w' := by
  by_cases h : n = 1 ∨ n = 2
  · exact mpf_yes a c n w hf ha h
  · exact mpf_no a c n w hf ha (fun e => h (.inl e)) (fun e => h (.inr e))
end Go.Proofs.YtiehbmhekncbhaaDoor

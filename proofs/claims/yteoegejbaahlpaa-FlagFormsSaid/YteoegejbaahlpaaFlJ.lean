/- FlagForms: the walk -/
import Derived.Test.YteoegejbaahlpaaFlI
import Derived.Test.YteoegejbaahlpaaFlF
import Derived.Test.YteoegejbaahlpaaEq
import Derived.Test.YteoegejbaahlpaaOpen
namespace Go.Proofs.Yteoegejbaahlpaa
open Go.RowKit Extern.Stop

theorem big_fk (k x : Int) (hk : k = 1 ∨ k = 2) (h0 : 0 ≤ x) (h1 : x < 256 ^ k.toNat) : big (digitsOf k.toNat x) = x := by
  rcases hk with rfl | rfl
  · rw [show (1 : Int).toNat = 1 from rfl] at *; rw [digitsOf_1]; simp [big]; simp at h1; omega
  · rw [show (2 : Int).toNat = 2 from rfl] at *; rw [digitsOf_2]; simp [big]; simp at h1; omega
theorem fForm_read {f t n : Int} (h : fbOk f t n = true) : hOk (fForm f t n) = true ∧ hR (fForm f t n) = #[.int .i64 f, .int .i64 t, .int .i64 n] ∧ hN (fForm f t n) = (fForm f t n).length := by
  simp only [fbOk, Bool.and_eq_true, decide_eq_true_eq] at h
  have hfk := fk_cases f
  have e1 : (digitsOf (fk f).toNat n).length = (fk f).toNat := digitsOf_len _ _
  have e2 : ((fk f).toNat : Int) = fk f := by omega
  have e3 : big (digitsOf (fk f).toNat n) = n := big_fk (fk f) n hfk h.2.1 h.2.2
  have e4 : fForm f t n = f :: t :: digitsOf (fk f).toNat n := rfl
  refine ⟨?_, ?_, ?_⟩
  · rw [e4]; simp only [hOk]; rw [e1]; simp; omega
  · rw [e4]; simp only [hR]; rw [if_pos (by rw [e1]; omega), List.take_of_length_le (by rw [e1]; exact Nat.le_refl _), e3]
  · unfold hN; rw [e4]; simp only [List.headD_cons, List.length_cons, e1]; omega
theorem fForm_bytes {f t n : Int} (h : fbOk f t n = true) : ∀ x ∈ fForm f t n, 0 ≤ x ∧ x ≤ 255 := by
  simp only [fbOk, Bool.and_eq_true, decide_eq_true_eq] at h
  intro x hx
  unfold fForm at hx
  rcases List.mem_append.1 hx with hx | hx
  · simp at hx; omega
  · exact digitsOf_range _ _ x hx

set_option maxRecDepth 100000 in
set_option maxHeartbeats 1600000 in
theorem fforms_yes (f t n : Int) (w : World) (hk : fbOk f t n = true) :
    Calls Try.prog 8 #[.agg #[.int .i64 f, .int .i64 t, .int .i64 n]] w fun e w' => e = .returned (.bool true) ∧ Below w.heap.size w w' := by
  have heql := head_eql f t n
  have HR := Lib.hid (fForm_read hk)
  have HB := Lib.hid (fForm_bytes hk)
  have hlen : (fForm f t n).length ≤ 10 := by have := fk_cases f; unfold fForm; rw [List.length_append, digitsOf_len]; simp; omega
  have HK := Lib.hid hk
  have o1 := Own.new w 53 #[.int .i64 f, .int .i64 t, .int .i64 n]
  have hb0 := bl_alloc (bl_refl w) (.cells #[.int .i64 f, .int .i64 t, .int .i64 n] 53)
  clear hk
  go_enter Try.func8, Try.ntmps8
  go_wp2_with fail
  refine (fbytes_yes f t n _ HK.out).mono ?_
  rintro e w1 ⟨g, rfl, hg, hog, hb1⟩
  have o2 := o1.step hb1
  have c0 := o2.cell (i := 0) (v := .int .i64 f) rfl
  have c1 := o2.cell (i := 1) (v := .int .i64 t) rfl
  have c2 := o2.cell (i := 2) (v := .int .i64 n) rfl
  go_wp2_with fail
  refine (rfbytes_yes f t n _ HK.out).mono ?_
  rintro e w2 ⟨v, rfl, hv, hb2⟩
  obtain ⟨A2, k2, rfl, hk2, hs2⟩ := own_val hv
  have o3 := o2.step hb2
  have og2 := hog.step hb2
  have hbw := bl_trans (bl_trans hb0 hb1) hb2
  clear c0 c1 c2 o1 o2 hog hb0 hb1 hb2 hv
  have hB1 := Bytes.of_owned (xs := fForm f t n) og2 HB.out og2.lt
  have hB2 : Bytes w2 w2.heap.size A2 (fForm f t n).length (fForm f t n) := ⟨rfl, HB.out, hs2⟩
  go_wp2_with fail
  refine (bytesEq_any (some ⟨g, 0, none⟩) A2 _ _ (fForm f t n).length k2 _ _ _ _ _ hB1 hB2 (by omega) (by omega)).mono ?_
  rw [decide_eq_true (rfl : fForm f t n = fForm f t n)]
  rintro e w3 ⟨rfl, m, rfl⟩
  have o4 := o3.drewN m
  have og4 := og2.drewN m
  have hlt4 := o4.lt
  have hbw2 := bl_drewN hbw m
  have hsz2 := hbw2.size
  go_wp2_with fail
  refine (new_any (some ⟨g, 0, none⟩) (fForm f t n).length (fForm f t n).length (fForm f t n) _ (Bytes.of_owned og4 HB.out og4.lt) (by omega)).mono ?_
  rintro e w4 ⟨gr, rfl, hgr, hr, hb4⟩
  have o5 := o4.step hb4
  have hbw3 := bl_trans hbw2 hb4
  clear o3 o4 og2 og4 hB1 hB2 hs2
  go_wp2_with fail
  refine (fread_any (fForm f t n) gr 0 _ hr (by omega) (by omega)).mono ?_
  rw [HR.out.1, HR.out.2.1, HR.out.2.2]
  rintro e w5 ⟨rfl, hr5, hg5⟩
  have hr5 := hr5 rfl
  rw [List.drop_of_length_le (Nat.le_refl _)] at hr5
  have o6 := o5.grown hg5 (by intro e; have := Option.some.inj e; omega)
  have o6 := o6.alloc (.cells #[.int .i64 f, .int .i64 t, .int .i64 n] 55)
  have o7 := Own.new w5 55 #[.int .i64 f, .int .i64 t, .int .i64 n]
  have hr6 := hr5.below (bl_alloc (bl_refl w5) (.cells #[.int .i64 f, .int .i64 t, .int .i64 n] 55))
  have hbw4 := bl_alloc (bl_only hbw3 hg5 (by omega)) (.cells #[.int .i64 f, .int .i64 t, .int .i64 n] 55)
  clear o5 hr5 hr hbw hbw2 hbw3 hg5 hb4
  go_wp2_with fail
  refine (alive10_any _).mono ?_
  rintro e w6 ⟨rfl, hb6⟩
  have o8 := o6.step hb6
  have o9 := o7.step hb6
  have hr7 := hr6.below hb6
  have c0 := o8.cell (i := 0) (v := .int .i64 f) rfl
  have c1 := o8.cell (i := 1) (v := .int .i64 t) rfl
  have c2 := o8.cell (i := 2) (v := .int .i64 n) rfl
  have d0 := o9.cell (i := 0) (v := .int .i64 f) rfl
  have d1 := o9.cell (i := 1) (v := .int .i64 t) rfl
  have d2 := o9.cell (i := 2) (v := .int .i64 n) rfl
  have hbw5 := bl_trans hbw4 hb6
  clear o6 o7 hr6 hbw4 hb6
  go_wp2_with fail
  refine (left_any gr [] _ _ hr7).mono ?_
  rintro e w' ⟨rfl, rfl⟩
  go_wp2
  go_ret
  exact ⟨rfl, hbw5⟩
set_option maxRecDepth 100000 in
set_option maxHeartbeats 800000 in
theorem fforms_no (f t n : Int) (w : World) (hk : fbOk f t n = false) (hn : (Lit.int .i64 n).wf = true) :
    Calls Try.prog 8 #[.agg #[.int .i64 f, .int .i64 t, .int .i64 n]] w fun e w' => e = .returned (.bool true) ∧ Below w.heap.size w w' := by
  have HK := Lib.hid hk
  have hn2 := wf_i64 hn
  have hn0 := hn2.1
  have hn1 := hn2.2
  have hb0 := bl_alloc (bl_refl w) (.cells #[.int .i64 f, .int .i64 t, .int .i64 n] 53)
  clear hk hn2
  go_enter Try.func8, Try.ntmps8
  go_wp2_with fail
  refine (fbytes_no f t n _ HK.out hn0 hn1).mono ?_
  rintro e w1 ⟨rfl, hb1⟩
  have o2 := (Own.new w 53 #[.int .i64 f, .int .i64 t, .int .i64 n]).step hb1
  have c0 := o2.cell (i := 0) (v := .int .i64 f) rfl
  have c1 := o2.cell (i := 1) (v := .int .i64 t) rfl
  have c2 := o2.cell (i := 2) (v := .int .i64 n) rfl
  go_wp2_with fail
  refine (rfbytes_no f t n _ HK.out).mono ?_
  rintro e w2 ⟨rfl, hb2⟩
  have hbw := bl_trans (bl_trans hb0 hb1) hb2
  clear o2 c0 c1 c2 hb0 hb1 hb2
  go_wp2_with fail
  refine (bytesEq_any none none 0 0 0 0 [] [] _ 0 0 (Bytes.nil _ _ _) (Bytes.nil _ _ _) (by omega) (by omega)).mono ?_
  rw [decide_eq_true (rfl : ([] : List Int) = [])]
  rintro e w3 ⟨rfl, m, rfl⟩
  have hbw2 := bl_drewN hbw m
  have hsz2 := hbw2.size
  go_wp2_with fail
  refine (new_any none 0 0 [] _ (Bytes.nil _ _ _) (by omega)).mono ?_
  rintro e w4 ⟨gr, rfl, hgr, hr, hb4⟩
  have hbw3 := bl_trans hbw2 hb4
  go_wp2_with fail
  refine (fread_any [] gr 0 _ hr (by simp) (by omega)).mono ?_
  rw [show hR [] = #[.int .i64 0, .int .i64 0, .int .i64 0] from rfl, show hOk [] = false from rfl]
  rintro e w5 ⟨rfl, _, hg5⟩
  have hbw4 := bl_alloc (bl_only hbw3 hg5 (by omega)) (.cells #[.int .i64 0, .int .i64 0, .int .i64 0] 55)
  go_wp2_with fail
  refine (alive10_any _).mono ?_
  rintro e w6 ⟨rfl, hb6⟩
  have hbw5 := bl_trans hbw4 hb6
  go_wp2
  go_ret
  exact ⟨rfl, hbw5⟩
set_option maxRecDepth 100000 in
theorem fforms_all (f t n : Int) (w : World) (hn : (Lit.int .i64 n).wf = true) :
    Calls Try.prog 8 #[.agg #[.int .i64 f, .int .i64 t, .int .i64 n]] w fun e w' => e = .returned (.bool true) ∧ Below w.heap.size w w' := by
  by_cases h : fbOk f t n = true
  · exact fforms_yes f t n w h
  · exact fforms_no f t n w (by simpa using h) hn
end Go.Proofs.Yteoegejbaahlpaa

/- FlagCanonical: the walk -/
import Derived.Test.YteoegejbaahlpaaFlF
namespace Go.Proofs.Yteoegejbaahlpaa
open Go.RowKit Extern.Stop

theorem canH_yes {k : Int} {p : Bool} {n : Int} (h : canOk k p n = true) : canH k p n = #[.int .i64 (canF k p n), .int .i64 k, .int .i64 n] := by unfold canH; rw [h]; rfl
theorem canH_not {k : Int} {p : Bool} {n : Int} (h : canOk k p n = false) : canH k p n = #[.int .i64 0, .int .i64 0, .int .i64 0] := by unfold canH; rw [h]; rfl

theorem canF_right {k : Int} {p : Bool} {n : Int} (h : canOk k p n = true) : rightB (canF k p n) k = true := by
  unfold canOk at h
  simp only [Bool.and_eq_true, Bool.not_eq_true'] at h
  have hp := h.2
  unfold canF rightB
  rcases flagCls_cases k with hc | hc | hc | hc
  · have hk : flagKnown k = true := by unfold flagKnown; rw [hc]; rfl
    have hcc : canC k = 64 := by unfold canC; rw [hk, hc]; rfl
    rw [hcc] at hp ⊢
    rw [hk, hc]
    have : p = false := by cases p; rfl; simp at hp
    subst this
    by_cases hn : 255 < n
    · rw [if_pos hn]; decide +kernel
    · rw [if_neg hn]; decide +kernel
  · have hk : flagKnown k = true := by unfold flagKnown; rw [hc]; rfl
    have hcc : canC k = 128 := by unfold canC; rw [hk, hc]; rfl
    rw [hcc] at hp ⊢
    rw [hk, hc]
    have : p = false := by cases p; rfl; simp at hp
    subst this
    by_cases hn : 255 < n
    · rw [if_pos hn]; decide +kernel
    · rw [if_neg hn]; decide +kernel
  · have hk : flagKnown k = true := by unfold flagKnown; rw [hc]; rfl
    have hcc : canC k = 192 := by unfold canC; rw [hk, hc]; rfl
    rw [hcc]
    rw [hk, hc]
    by_cases hn : 255 < n
    · rw [if_pos hn]; cases p <;> decide +kernel
    · rw [if_neg hn]; cases p <;> decide +kernel
  · have hk : flagKnown k = false := by unfold flagKnown; rw [hc]; rfl
    have hcc : canC k = 192 := by unfold canC; rw [hk]; rfl
    rw [hcc, hk, if_neg (show ¬ false = true by decide)]
    by_cases hn : 255 < n
    · rw [if_pos hn]; cases p <;> decide +kernel
    · rw [if_neg hn]; cases p <;> decide +kernel
theorem canF_bytes {k : Int} {p : Bool} {n : Int} (h : canOk k p n = true) : fbOk (canF k p n) k n = true ∧ ((fForm (canF k p n) k n).length : Int) = if 255 < n then 4 else 3 := by
  unfold canOk at h
  simp only [Bool.and_eq_true, decide_eq_true_eq] at h
  obtain ⟨⟨⟨h1, h2⟩, h3⟩, _⟩ := h
  have key : (0 ≤ canF k p n ∧ canF k p n ≤ 255) ∧ fk (canF k p n) = if 255 < n then 2 else 1 := by
    unfold canF
    by_cases hn : 255 < n
    · rw [if_pos hn, if_pos hn]
      rcases canC_cases k with hc | hc | hc <;> rw [hc] <;> cases p <;> decide +kernel
    · rw [if_neg hn, if_neg hn]
      rcases canC_cases k with hc | hc | hc <;> rw [hc] <;> cases p <;> decide +kernel
  refine ⟨?_, ?_⟩
  · unfold fbOk
    rw [decide_eq_true key.1, decide_eq_true h1, key.2]
    by_cases hn : 255 < n
    · rw [if_pos hn]
      simp
      have : (256 : Int) ^ (2 : Int).toNat = 65536 := rfl
      omega
    · rw [if_neg hn]
      simp
      have : (256 : Int) ^ (1 : Int).toNat = 256 := rfl
      omega
  · unfold fForm
    rw [List.length_append, digitsOf_len, key.2]
    by_cases hn : 255 < n
    · rw [if_pos hn, if_pos hn]; rfl
    · rw [if_neg hn, if_neg hn]; rfl

set_option maxRecDepth 100000 in
set_option maxHeartbeats 800000 in
theorem fcanon_no (k : Int) (p : Bool) (n : Int) (w : World) (hk : (Lit.int .i64 k).wf = true) (hok : canOk k p n = false) :
    Calls Try.prog 11 #[.int .i64 k, .bool p, .int .i64 n] w fun e w' => e = .returned (.bool true) ∧ Below w.heap.size w w' := by
  have hneq := head_neq 0 0 0
  have HH := Lib.hid (canH_not hok)
  have HO := Lib.hid hok
  clear hok
  go_enter Try.func11, Try.ntmps11
  go_wp2_with fail
  refine (canon_any k p n _ hk).mono ?_
  rw [HH.out, HO.out]
  rintro e w1 ⟨rfl, hb1⟩
  have hba := bl_alloc (bl_refl w1) (.cells #[.int .i64 0, .int .i64 0, .int .i64 0] 55)
  have o1 := Own.new w1 55 #[.int .i64 0, .int .i64 0, .int .i64 0]
  go_wp2_with fail
  refine (rcanon_any k p n _).mono ?_
  rw [HH.out, HO.out]
  rintro e w2 ⟨rfl, hb2⟩
  have o2 := o1.step hb2
  have c0 := o2.cell (i := 0) (v := .int .i64 0) rfl
  have c1 := o2.cell (i := 1) (v := .int .i64 0) rfl
  have c2 := o2.cell (i := 2) (v := .int .i64 0) rfl
  have hlt := o2.lt
  have hbc := bl_alloc (bl_refl w2) (.cells #[.int .i64 0, .int .i64 0, .int .i64 0] 53)
  go_wp2_with fail
  refine (alive10_any _).mono ?_
  rintro e w3 ⟨rfl, hb3⟩
  go_wp2
  go_ret
  exact ⟨rfl, bl_trans (bl_trans (bl_trans (bl_trans hb1 hba) hb2) hbc) hb3⟩

set_option maxRecDepth 100000 in
set_option maxHeartbeats 1600000 in
theorem fcanon_yes (k : Int) (p : Bool) (n : Int) (w : World) (hk : (Lit.int .i64 k).wf = true) (hok : canOk k p n = true) :
    Calls Try.prog 11 #[.int .i64 k, .bool p, .int .i64 n] w fun e w' => e = .returned (.bool true) ∧ Below w.heap.size w w' := by
  have hneq := head_neq (canF k p n) k n
  have HH := Lib.hid (canH_yes hok)
  have HO := Lib.hid hok
  have HB := Lib.hid (canF_bytes hok)
  have HR := Lib.hid (canF_right hok)
  have hl0 : (0 : Int) ≤ ((fForm (canF k p n) k n).length : Int) := Int.natCast_nonneg _
  have HS := Lib.hid (fun (W : World) => (by have := fsize_any n W; rw [← HB.out.2] at this; exact this : Calls Try.prog 46 #[.int .i64 n] W fun e w' => e = .returned (.int .i64 ((fForm (canF k p n) k n).length : Int)) ∧ W = w'))
  clear hok
  generalize canF k p n = F at *
  go_enter Try.func11, Try.ntmps11
  go_wp2_with fail
  refine (canon_any k p n _ hk).mono ?_
  rw [HH.out, HO.out]
  rintro e w1 ⟨rfl, hb1⟩
  have hba := bl_alloc (bl_refl w1) (.cells #[.int .i64 F, .int .i64 k, .int .i64 n] 55)
  have o1 := Own.new w1 55 #[.int .i64 F, .int .i64 k, .int .i64 n]
  go_wp2_with fail
  refine (rcanon_any k p n _).mono ?_
  rw [HH.out, HO.out]
  rintro e w2 ⟨rfl, hb2⟩
  have hbc := bl_alloc (bl_refl w2) (.cells #[.int .i64 F, .int .i64 k, .int .i64 n] 53)
  have o2' := o1.step hb2
  have hlt := o2'.lt
  have c0 := o2'.cell (i := 0) (v := .int .i64 F) rfl
  have c1 := o2'.cell (i := 1) (v := .int .i64 k) rfl
  have c2 := o2'.cell (i := 2) (v := .int .i64 n) rfl
  have o3 := o2'.alloc (.cells #[.int .i64 F, .int .i64 k, .int .i64 n] 53)
  have hbw := bl_trans (bl_trans (bl_trans hb1 hba) hb2) hbc
  go_wp2_with fail
  refine (fbytes_yes F k n _ HB.out.1).mono ?_
  rintro e w4 ⟨g, rfl, hg, hog, hb4⟩
  have o4 := o3.step hb4
  clear c0 c1 c2 hlt o1 o2' o3
  go_wp2_with fail
  refine (alive10_any _).mono ?_
  rintro e w5 ⟨rfl, hb5⟩
  have o5 := o4.step hb5
  have c0 := o5.cell (i := 0) (v := .int .i64 F) rfl
  have c1 := o5.cell (i := 1) (v := .int .i64 k) rfl
  have c2 := o5.cell (i := 2) (v := .int .i64 n) rfl
  go_wp2_with fail
  refine (HS.out _).mono ?_
  rintro e w' ⟨rfl, rfl⟩
  go_wp2_with fail
  refine (right_any F k n _ hk).mono ?_
  rw [HR.out]
  rintro e w6 ⟨rfl, hb6⟩
  go_wp2
  go_ret
  exact ⟨rfl, bl_trans (bl_trans (bl_trans hbw hb4) hb5) hb6⟩
set_option maxRecDepth 100000 in
theorem fcanon_all (k : Int) (p : Bool) (n : Int) (w : World) (hk : (Lit.int .i64 k).wf = true) :
    Calls Try.prog 11 #[.int .i64 k, .bool p, .int .i64 n] w fun e w' => e = .returned (.bool true) ∧ Below w.heap.size w w' := by
  by_cases h : canOk k p n = true
  · exact fcanon_yes k p n w hk h
  · exact fcanon_no k p n w hk (by simpa using h)
end Go.Proofs.Yteoegejbaahlpaa

/- mp: options by family, kinds, next hops (written by gen/mpa.py) -/
import Derived.Test.YtmlmgjdjbpipcaaDoorOwn
import Derived.Test.YtmlmgjdjbpipcaaDoorPfx
namespace Go.Proofs.YtmlmgjdjbpipcaaDoor
open Go.RowKit

theorem ret_boolM {a b : Bool} (h : a = b) : Ending.returned (.bool a) = Ending.returned (.bool b) := by rw [h]
/-- Whether a family's option is set (x for family 1, y for family 2). -/
def famB (x y : Bool) (f : Int) : Bool := (decide (f = 1) && x) || (decide (f = 2) && y)
def hopB (f : Int) (n : Nat) : Bool := if f = 1 then decide (n = 4) else decide (n = 16 ∨ n = 32)
set_option maxRecDepth 100000 in
theorem omp_any (a0 a1 a2 a3 a4 a5 : Bool) (f : Int) (w : World) : Calls Tryd.prog 34 #[.agg #[.bool a0, .bool a1, .bool a2, .bool a3, .bool a4, .bool a5], .int .i64 f] w fun e w' => e = .returned (.bool (famB a2 a3 f)) ∧ Below w.heap.size w w' := by
  have hb := bl_alloc (bl_refl w) (.cells #[.bool a0, .bool a1, .bool a2, .bool a3, .bool a4, .bool a5] 23)
  by_cases h1 : f = 1
  · subst h1
    go_enter Tryd.func34, Tryd.ntmps34
    go_wp2
    all_goals go_ret
    all_goals exact ⟨ret_boolM (by simp_all [famB]), bl_alloc (bl_refl w) _⟩
  · by_cases h2 : f = 2
    · subst h2
      go_enter Tryd.func34, Tryd.ntmps34
      go_wp2
      all_goals go_ret
      all_goals exact ⟨ret_boolM (by simp_all [famB]), bl_alloc (bl_refl w) _⟩
    · have e1 : (f == 1) = false := by simpa using h1
      have e2 : (f == 2) = false := by simpa using h2
      have hR := Lib.hid (show famB a2 a3 f = false by unfold famB; rw [decide_eq_false h1, decide_eq_false h2]; rfl)
      clear h1 h2
      go_enter Tryd.func34, Tryd.ntmps34
      go_wp2
      go_ret
      exact ⟨ret_boolM hR.out.symm, hb⟩
set_option maxRecDepth 100000 in
theorem oadd_any (a0 a1 a2 a3 a4 a5 : Bool) (f : Int) (w : World) : Calls Tryd.prog 28 #[.agg #[.bool a0, .bool a1, .bool a2, .bool a3, .bool a4, .bool a5], .int .i64 f] w fun e w' => e = .returned (.bool (famB a4 a5 f)) ∧ Below w.heap.size w w' := by
  have hb := bl_alloc (bl_refl w) (.cells #[.bool a0, .bool a1, .bool a2, .bool a3, .bool a4, .bool a5] 23)
  by_cases h1 : f = 1
  · subst h1
    go_enter Tryd.func28, Tryd.ntmps28
    go_wp2
    all_goals go_ret
    all_goals exact ⟨ret_boolM (by simp_all [famB]), bl_alloc (bl_refl w) _⟩
  · by_cases h2 : f = 2
    · subst h2
      go_enter Tryd.func28, Tryd.ntmps28
      go_wp2
      all_goals go_ret
      all_goals exact ⟨ret_boolM (by simp_all [famB]), bl_alloc (bl_refl w) _⟩
    · have e1 : (f == 1) = false := by simpa using h1
      have e2 : (f == 2) = false := by simpa using h2
      have hR := Lib.hid (show famB a4 a5 f = false by unfold famB; rw [decide_eq_false h1, decide_eq_false h2]; rfl)
      clear h1 h2
      go_enter Tryd.func28, Tryd.ntmps28
      go_wp2
      go_ret
      exact ⟨ret_boolM hR.out.symm, hb⟩
set_option maxRecDepth 100000 in
theorem rmp_any (a0 a1 a2 a3 a4 a5 : Bool) (f : Int) (w : World) : Calls Tryd.prog 24 #[.agg #[.bool a0, .bool a1, .bool a2, .bool a3, .bool a4, .bool a5], .int .i64 f] w fun e w' => e = .returned (.bool (famB a2 a3 f)) ∧ Below w.heap.size w w' := by
  have hb := bl_alloc (bl_refl w) (.cells #[.bool a0, .bool a1, .bool a2, .bool a3, .bool a4, .bool a5] 23)
  by_cases h1 : f = 1
  · subst h1
    go_enter Tryd.func24, Tryd.ntmps24
    go_wp2
    all_goals go_ret
    all_goals exact ⟨ret_boolM (by simp_all [famB]), bl_alloc (bl_refl w) _⟩
  · by_cases h2 : f = 2
    · subst h2
      go_enter Tryd.func24, Tryd.ntmps24
      go_wp2
      all_goals go_ret
      all_goals exact ⟨ret_boolM (by simp_all [famB]), bl_alloc (bl_refl w) _⟩
    · have e1 : (f == 1) = false := by simpa using h1
      have e2 : (f == 2) = false := by simpa using h2
      have hR := Lib.hid (show famB a2 a3 f = false by unfold famB; rw [decide_eq_false h1, decide_eq_false h2]; rfl)
      clear h1 h2
      go_enter Tryd.func24, Tryd.ntmps24
      go_wp2
      go_ret
      exact ⟨ret_boolM hR.out.symm, hb⟩
set_option maxRecDepth 100000 in
theorem radd_any (a0 a1 a2 a3 a4 a5 : Bool) (f : Int) (w : World) : Calls Tryd.prog 32 #[.agg #[.bool a0, .bool a1, .bool a2, .bool a3, .bool a4, .bool a5], .int .i64 f] w fun e w' => e = .returned (.bool (famB a4 a5 f)) ∧ Below w.heap.size w w' := by
  have hb := bl_alloc (bl_refl w) (.cells #[.bool a0, .bool a1, .bool a2, .bool a3, .bool a4, .bool a5] 23)
  by_cases h1 : f = 1
  · subst h1
    go_enter Tryd.func32, Tryd.ntmps32
    go_wp2
    all_goals go_ret
    all_goals exact ⟨ret_boolM (by simp_all [famB]), bl_alloc (bl_refl w) _⟩
  · by_cases h2 : f = 2
    · subst h2
      go_enter Tryd.func32, Tryd.ntmps32
      go_wp2
      all_goals go_ret
      all_goals exact ⟨ret_boolM (by simp_all [famB]), bl_alloc (bl_refl w) _⟩
    · have e1 : (f == 1) = false := by simpa using h1
      have e2 : (f == 2) = false := by simpa using h2
      have hR := Lib.hid (show famB a4 a5 f = false by unfold famB; rw [decide_eq_false h1, decide_eq_false h2]; rfl)
      clear h1 h2
      go_enter Tryd.func32, Tryd.ntmps32
      go_wp2
      go_ret
      exact ⟨ret_boolM hR.out.symm, hb⟩
set_option maxRecDepth 100000 in
theorem mhop_any (f : Int) (n : Nat) (w : World) : Calls Tryd.prog 36 #[.int .i64 f, .int .i64 n] w fun e w' => e = .returned (.bool (hopB f n)) ∧ w = w' := by
  by_cases h1 : f = 1
  · subst h1
    have hR := Lib.hid (show hopB 1 n = ((n : Int) == 4) by unfold hopB; rw [if_pos rfl, Bool.eq_iff_iff]; simp; omega)
    generalize hopB 1 n = V at *
    go_enter Tryd.func36, Tryd.ntmps36
    go_wp2
    all_goals go_ret
    all_goals exact ⟨ret_boolM (by rw [hR.out]; try simp_all), rfl⟩
  · have e1 : (f == 1) = false := by simpa using h1
    have hR := Lib.hid (show hopB f n = (((n : Int) == 16) || ((n : Int) == 32)) by unfold hopB; rw [if_neg h1, Bool.eq_iff_iff]; simp; omega)
    generalize hopB f n = V at *
    clear h1
    go_enter Tryd.func36, Tryd.ntmps36
    go_wp2
    all_goals go_ret
    all_goals exact ⟨ret_boolM (by rw [hR.out]; try simp_all), rfl⟩
set_option maxRecDepth 100000 in
theorem rmhop_any (f : Int) (n : Nat) (w : World) : Calls Tryd.prog 56 #[.int .i64 f, .int .i64 n] w fun e w' => e = .returned (.bool (hopB f n)) ∧ w = w' := by
  by_cases h1 : f = 1
  · subst h1
    have hR := Lib.hid (show hopB 1 n = ((n : Int) == 4) by unfold hopB; rw [if_pos rfl, Bool.eq_iff_iff]; simp; omega)
    generalize hopB 1 n = V at *
    go_enter Tryd.func56, Tryd.ntmps56
    go_wp2
    all_goals go_ret
    all_goals exact ⟨ret_boolM (by rw [hR.out]; try simp_all), rfl⟩
  · have e1 : (f == 1) = false := by simpa using h1
    have hR := Lib.hid (show hopB f n = (((n : Int) == 16) || ((n : Int) == 32)) by unfold hopB; rw [if_neg h1, Bool.eq_iff_iff]; simp; omega)
    generalize hopB f n = V at *
    clear h1
    go_enter Tryd.func56, Tryd.ntmps56
    go_wp2
    all_goals go_ret
    all_goals exact ⟨ret_boolM (by rw [hR.out]; try simp_all), rfl⟩
end Go.Proofs.YtmlmgjdjbpipcaaDoor

/- notice.Valid, notice.Same and their references -/
import Derived.Test.YtalmmddmdnkifaaDoorFnG
namespace Go.Proofs.YtalmmddmdnkifaaDoor
open Go.RowKit Go.Sort

def byB (x : Int) : Bool := decide (0 ≤ x ∧ x ≤ 255)
/-- A valid notice. -/
def ntOk (c s : Int) (n : Nat) : Bool := byB c && byB s && decide (n ≤ 65514)
theorem ntOk_iff {c s : Int} {n : Nat} : ntOk c s n = true ↔ (0 ≤ c ∧ c ≤ 255) ∧ (0 ≤ s ∧ s ≤ 255) ∧ n ≤ 65514 := by
  unfold ntOk byB
  simp [and_assoc]
set_option maxRecDepth 100000 in
theorem isbyte_any (x : Int) (w : World) : Calls Tryd.prog 64 #[.int .i64 x] w fun e w' => e = .returned (.bool (byB x)) ∧ w = w' := by
  go_enter Tryd.func64, Tryd.ntmps64
  go_wp2
  all_goals go_ret
  all_goals refine ⟨ret_bool ?_, rfl⟩
  all_goals (unfold byB; rw [Bool.eq_iff_iff]; simp only [decide_eq_true_eq, Bool.false_eq_true, false_iff] at *; omega)
set_option maxRecDepth 100000 in
theorem bysized_any (x : Int) (w : World) : Calls Tryd.prog 94 #[.int .i64 x] w fun e w' => e = .returned (.bool (byB x)) ∧ w = w' := by
  go_enter Tryd.func94, Tryd.ntmps94
  go_wp2
  all_goals go_ret
  all_goals refine ⟨ret_bool ?_, rfl⟩
  all_goals (unfold byB; rw [Bool.eq_iff_iff]; simp only [decide_eq_true_eq, Bool.false_eq_true, false_iff] at *; omega)
theorem nt_cells {W : World} {g : Nat} {T : TypeId} {a b c : Value} (h : Own W g T #[a, b, c]) : W.cell? ⟨g, 0, none⟩ = some a ∧ W.cell? ⟨g, 1, none⟩ = some b ∧ W.cell? ⟨g, 2, none⟩ = some c := ⟨h.cell rfl, h.cell rfl, h.cell rfl⟩
set_option maxRecDepth 100000 in
set_option maxHeartbeats 800000 in
theorem ntvalid_any (c s : Int) (A : Option Addr) (n cp : Nat) (w : World) :
    Calls Tryd.prog 27 #[.agg #[.int .i64 c, .int .i64 s, .slice A n cp]] w fun e w' => e = .returned (.bool (ntOk c s n)) ∧ Below w.heap.size w w' := by
  have hb := bl_alloc (bl_refl w) (.cells #[.int .i64 c, .int .i64 s, .slice A n cp] 29)
  have hO : Hid (∀ q, decide (n ≤ 65514) = q → ntOk c s n = (byB c && byB s && q)) := Lib.hid (by rintro q rfl; rfl)
  generalize hv : ntOk c s n = V at *
  have HV := Lib.hid hv
  clear hv
  generalize hx : byB c = X at *
  have HX := Lib.hid hx
  clear hx
  generalize hy : byB s = Y at *
  have HY := Lib.hid hy
  clear hy
  go_enter Tryd.func27, Tryd.ntmps27
  go_wp2_with fail
  refine (isbyte_any c _).mono ?_
  rw [HX.out]
  rintro e w' ⟨rfl, rfl⟩
  cases X
  · go_wp2
    go_ret
    exact ⟨ret_bool (by rw [hO.out _ rfl]; rfl), hb⟩
  · go_wp2_with fail
    refine (isbyte_any s _).mono ?_
    rw [HY.out]
    rintro e w' ⟨rfl, rfl⟩
    cases Y
    · go_wp2
      go_ret
      exact ⟨ret_bool (by rw [hO.out _ rfl]; rfl), hb⟩
    · go_wp2
      go_ret
      exact ⟨ret_bool (by rw [hO.out _ rfl, Bool.true_and, Bool.true_and, Bool.eq_iff_iff]; simp only [decide_eq_true_eq]; omega), hb⟩
set_option maxRecDepth 100000 in
set_option maxHeartbeats 800000 in
theorem rntvalid_any (c s : Int) (A : Option Addr) (n cp : Nat) (w : World) :
    Calls Tryd.prog 59 #[.agg #[.int .i64 c, .int .i64 s, .slice A n cp]] w fun e w' => e = .returned (.bool (ntOk c s n)) ∧ Below w.heap.size w w' := by
  have hb := bl_alloc (bl_refl w) (.cells #[.int .i64 c, .int .i64 s, .slice A n cp] 24)
  have hO : Hid (∀ q, decide (n ≤ 65514) = q → ntOk c s n = (byB c && byB s && q)) := Lib.hid (by rintro q rfl; rfl)
  generalize hv : ntOk c s n = V at *
  have HV := Lib.hid hv
  clear hv
  generalize hx : byB c = X at *
  have HX := Lib.hid hx
  clear hx
  generalize hy : byB s = Y at *
  have HY := Lib.hid hy
  clear hy
  go_enter Tryd.func59, Tryd.ntmps59
  go_wp2_with fail
  refine (bysized_any c _).mono ?_
  rw [HX.out]
  rintro e w' ⟨rfl, rfl⟩
  cases X
  · go_wp2
    go_ret
    exact ⟨ret_bool (by rw [hO.out _ rfl]; rfl), hb⟩
  · go_wp2_with fail
    refine (bysized_any s _).mono ?_
    rw [HY.out]
    rintro e w' ⟨rfl, rfl⟩
    cases Y
    · go_wp2
      go_ret
      exact ⟨ret_bool (by rw [hO.out _ rfl]; rfl), hb⟩
    · go_wp2
      go_ret
      exact ⟨ret_bool (by rw [hO.out _ rfl, Bool.true_and, Bool.true_and, Bool.eq_iff_iff]; simp only [decide_eq_true_eq]; omega), hb⟩
/-- Equal notices. -/
def ntSame (c s : Int) (xs : List Int) (c' s' : Int) (ys : List Int) : Bool := decide (c = c' ∧ s = s' ∧ xs = ys)
set_option maxRecDepth 100000 in
set_option maxHeartbeats 1600000 in
theorem ntsame_any (c s : Int) (A : Option Addr) (n cp : Nat) (xs : List Int) (c' s' : Int) (A' : Option Addr) (n' cp' : Nat) (ys : List Int) (w : World) (hx : Bytes w w.heap.size A n xs) (hy : Bytes w w.heap.size A' n' ys) :
    Calls Tryd.prog 19 #[.agg #[.int .i64 c, .int .i64 s, .slice A n cp], .agg #[.int .i64 c', .int .i64 s', .slice A' n' cp']] w fun e w' => e = .returned (.bool (ntSame c s xs c' s' ys)) ∧ Below w.heap.size w w' := by
  have hb := bl_alloc (bl_alloc (bl_refl w) (.cells #[.int .i64 c, .int .i64 s, .slice A n cp] 29)) (.cells #[.int .i64 c', .int .i64 s', .slice A' n' cp'] 29)
  have hx1 := Lib.hid (hx.below hb)
  have hy1 := Lib.hid (hy.below hb)
  clear hx hy
  unfold ntSame
  by_cases hk : c = c' ∧ s = s'
  · obtain ⟨rfl, rfl⟩ := hk
    go_enter Tryd.func19, Tryd.ntmps19
    go_wp2_with fail
    refine (bequal_any _ _ _ _ _ _ _ _ _ _ _ hx1.out hy1.out).mono ?_
    rintro e w1 ⟨rfl, rfl⟩
    go_wp2
    go_ret
    exact ⟨ret_bool (by simp), hb⟩
  · go_enter Tryd.func19, Tryd.ntmps19
    go_wp2_with fail
    all_goals first
      | (exfalso; omega)
      | (go_ret; exact ⟨ret_bool (by symm; rw [decide_eq_false_iff_not]; rintro ⟨h1, h2, _⟩; exact hk ⟨h1, h2⟩), bl_alloc (bl_alloc (bl_refl w) _) _⟩)
set_option maxRecDepth 100000 in
set_option maxHeartbeats 1600000 in
theorem rntsame_any (c s : Int) (A : Option Addr) (n cp : Nat) (xs : List Int) (c' s' : Int) (A' : Option Addr) (n' cp' : Nat) (ys : List Int) (w : World) (hx : Bytes w w.heap.size A n xs) (hy : Bytes w w.heap.size A' n' ys) :
    Calls Tryd.prog 20 #[.agg #[.int .i64 c, .int .i64 s, .slice A n cp], .agg #[.int .i64 c', .int .i64 s', .slice A' n' cp']] w fun e w' => e = .returned (.bool (ntSame c s xs c' s' ys)) ∧ Below w.heap.size w w' := by
  have hb := bl_alloc (bl_alloc (bl_refl w) (.cells #[.int .i64 c, .int .i64 s, .slice A n cp] 24)) (.cells #[.int .i64 c', .int .i64 s', .slice A' n' cp'] 24)
  have hx1 := Lib.hid (hx.below hb)
  have hy1 := Lib.hid (hy.below hb)
  clear hx hy
  unfold ntSame
  by_cases hk : c = c' ∧ s = s'
  · obtain ⟨rfl, rfl⟩ := hk
    go_enter Tryd.func20, Tryd.ntmps20
    go_wp2_with fail
    refine (rsame1_any _ _ _ _ _ _ _ _ _ _ _ hx1.out hy1.out).mono ?_
    rintro e w1 ⟨rfl, rfl⟩
    go_wp2
    go_ret
    exact ⟨ret_bool (by simp), hb⟩
  · go_enter Tryd.func20, Tryd.ntmps20
    go_wp2_with fail
    all_goals first
      | (exfalso; omega)
      | (go_ret; exact ⟨ret_bool (by symm; rw [decide_eq_false_iff_not]; rintro ⟨h1, h2, _⟩; exact hk ⟨h1, h2⟩), bl_alloc (bl_alloc (bl_refl w) _) _⟩)
end Go.Proofs.YtalmmddmdnkifaaDoor

/- notice.Valid, Same, Bytes, Parse and their references -/
import Derived.Test.YtaopinecidddkaaDoorFnG
import Derived.Test.YtaopinecidddkaaDoorPfxM
import Derived.Test.YtaopinecidddkaaDoorHdH
namespace Go.Proofs.YtaopinecidddkaaDoor
open Go.RowKit Go.Sort

def byB (x : Int) : Bool := decide (0 ≤ x ∧ x ≤ 255)
/-- A valid notice. -/
def ntOk (c s : Int) (n : Nat) : Bool := byB c && byB s && decide (n ≤ 65514)
theorem ntOk_iff {c s : Int} {n : Nat} : ntOk c s n = true ↔ (0 ≤ c ∧ c ≤ 255) ∧ (0 ≤ s ∧ s ≤ 255) ∧ n ≤ 65514 := by
  unfold ntOk byB
  simp [and_assoc]
set_option maxRecDepth 100000 in
theorem isbyte_any (x : Int) (w : World) : Calls Tryd.prog 54 #[.int .i64 x] w fun e w' => e = .returned (.bool (byB x)) ∧ w = w' := by
  go_enter Tryd.func54, Tryd.ntmps54
  go_wp2
  all_goals go_ret
  all_goals refine ⟨ret_bool ?_, rfl⟩
  all_goals (unfold byB; rw [Bool.eq_iff_iff]; simp only [decide_eq_true_eq, Bool.false_eq_true, false_iff] at *; omega)
theorem nt_cells {W : World} {g : Nat} {T : TypeId} {a b c : Value} (h : Own W g T #[a, b, c]) : W.cell? ⟨g, 0, none⟩ = some a ∧ W.cell? ⟨g, 1, none⟩ = some b ∧ W.cell? ⟨g, 2, none⟩ = some c := ⟨h.cell rfl, h.cell rfl, h.cell rfl⟩
set_option maxRecDepth 100000 in
set_option maxHeartbeats 800000 in
theorem ntvalid_any (c s : Int) (A : Option Addr) (n cp : Nat) (w : World) :
    Calls Tryd.prog 16 #[.agg #[.int .i64 c, .int .i64 s, .slice A n cp]] w fun e w' => e = .returned (.bool (ntOk c s n)) ∧ Below w.heap.size w w' := by
  have hb := bl_alloc (bl_refl w) (.cells #[.int .i64 c, .int .i64 s, .slice A n cp] 30)
  have hO : Hid (∀ q, decide (n ≤ 65514) = q → ntOk c s n = (byB c && byB s && q)) := Lib.hid (by rintro q rfl; rfl)
  generalize hv : ntOk c s n = V at *
  have HV := Lib.hid hv
  clear hv
  generalize hx : byB c = X at *
  have HX := Lib.hid hx
  clear hx
  generalize hy : byB s = Y at *
  have HY := Lib.hid hy
  clear hy
  go_enter Tryd.func16, Tryd.ntmps16
  go_wp2_with fail
  refine (isbyte_any c _).mono ?_
  rw [HX.out]
  rintro e w' ⟨rfl, rfl⟩
  cases X
  · go_wp2
    go_ret
    exact ⟨ret_bool (by rw [hO.out _ rfl]; rfl), hb⟩
  · go_wp2_with fail
    refine (isbyte_any s _).mono ?_
    rw [HY.out]
    rintro e w' ⟨rfl, rfl⟩
    cases Y
    · go_wp2
      go_ret
      exact ⟨ret_bool (by rw [hO.out _ rfl]; rfl), hb⟩
    · go_wp2
      go_ret
      exact ⟨ret_bool (by rw [hO.out _ rfl, Bool.true_and, Bool.true_and, Bool.eq_iff_iff]; simp only [decide_eq_true_eq]; omega), hb⟩
/-- Equal notices. -/
def ntSame (c s : Int) (xs : List Int) (c' s' : Int) (ys : List Int) : Bool := decide (c = c' ∧ s = s' ∧ xs = ys)
set_option maxRecDepth 100000 in
set_option maxHeartbeats 1600000 in
theorem rntsame_any (c s : Int) (A : Option Addr) (n cp : Nat) (xs : List Int) (c' s' : Int) (A' : Option Addr) (n' cp' : Nat) (ys : List Int) (w : World) (hx : Bytes w w.heap.size A n xs) (hy : Bytes w w.heap.size A' n' ys) :
    Calls Tryd.prog 14 #[.agg #[.int .i64 c, .int .i64 s, .slice A n cp], .agg #[.int .i64 c', .int .i64 s', .slice A' n' cp']] w fun e w' => e = .returned (.bool (ntSame c s xs c' s' ys)) ∧ Below w.heap.size w w' := by
  have hb := bl_alloc (bl_alloc (bl_refl w) (.cells #[.int .i64 c, .int .i64 s, .slice A n cp] 33)) (.cells #[.int .i64 c', .int .i64 s', .slice A' n' cp'] 33)
  have hx1 := Lib.hid (hx.below hb)
  have hy1 := Lib.hid (hy.below hb)
  clear hx hy
  unfold ntSame
  by_cases hk : c = c' ∧ s = s'
  · obtain ⟨rfl, rfl⟩ := hk
    go_enter Tryd.func14, Tryd.ntmps14
    go_wp2_with fail
    refine (rsame1_any _ _ _ _ _ _ _ _ _ _ _ hx1.out hy1.out).mono ?_
    rintro e w1 ⟨rfl, rfl⟩
    go_wp2
    go_ret
    exact ⟨ret_bool (by simp), hb⟩
  · go_enter Tryd.func14, Tryd.ntmps14
    go_wp2_with fail
    all_goals first
      | (exfalso; omega)
      | (go_ret; exact ⟨ret_bool (by symm; rw [decide_eq_false_iff_not]; rintro ⟨h1, h2, _⟩; exact hk ⟨h1, h2⟩), bl_alloc (bl_alloc (bl_refl w) _) _⟩)

def ntForm (c s : Int) (xs : List Int) : List Int := [c, s] ++ xs
theorem ntForm_len (c s : Int) (xs : List Int) : (ntForm c s xs).length = xs.length + 2 := by unfold ntForm; simp
set_option maxRecDepth 100000 in
theorem nt_desc : Tryd.prog.underlying 30 = some (.struct (Tryd.prog.fieldsOf 30)) := by kernel_rfl
set_option maxRecDepth 100000 in
theorem nt_info (a b c : Value) : (Tryd.prog.info? 30).map (·.size) = some (#[a, b, c] : Array Value).size := by kernel_rfl
set_option maxRecDepth 100000 in
theorem rnt_desc : Tryd.prog.underlying 33 = some (.struct (Tryd.prog.fieldsOf 33)) := by kernel_rfl
set_option maxRecDepth 100000 in
theorem rnt_info (a b c : Value) : (Tryd.prog.info? 33).map (·.size) = some (#[a, b, c] : Array Value).size := by kernel_rfl
theorem ntForm_range {c s : Int} {xs : List Int} (hc : 0 ≤ c ∧ c ≤ 255) (hs : 0 ≤ s ∧ s ≤ 255) (hx : ∀ x ∈ xs, 0 ≤ x ∧ x ≤ 255) : ∀ x ∈ ntForm c s xs, 0 ≤ x ∧ x ≤ 255 := by
  unfold ntForm
  intro x hm
  rcases List.mem_append.1 hm with h | h
  · simp at h
    rcases h with rfl | rfl
    · exact hc
    · exact hs
  · exact hx x h
theorem row_two {w : World} {g base : Nat} {t : TypeId} {cs : List Value} {n : Nat} (h : Own w g t cs.toArray) (hn : cs.length = n) (hb : base ≤ g) (hm : n ≤ maxLen) : w.ownsRow base t 1 (.slice (some ⟨g, 0, none⟩) n n) n cs :=
  ⟨by rw [hn, Nat.mul_one], .inr ⟨g, n, cs.toArray, rfl, hb, h, Nat.le_refl _, hm, by simpa using hn, by rw [List.take_of_length_le (by simp; omega)]⟩⟩
theorem nt3_own {w : World} {g : Nat} {t : TypeId} {a b c : Value} (h : Own w g t #[a, b, c]) (x y z : Value) :
    Own (((w.setCell ⟨g, 0, none⟩ x).setCell ⟨g, 1, none⟩ y).setCell ⟨g, 2, none⟩ z) g t #[x, y, z] := by
  have h2 := ((h.set_ 0 x).set_ 1 y).set_ 2 z
  simpa using h2
theorem nt3_below {w V : World} {g : Nat} (hb : Below w.heap.size w V) (hg : w.heap.size ≤ g) (x y z : Value) :
    Below w.heap.size w (((V.setCell ⟨g, 0, none⟩ x).setCell ⟨g, 1, none⟩ y).setCell ⟨g, 2, none⟩ z) :=
  ((hb.setCell (p := ⟨g, 0, none⟩) hg x).setCell (p := ⟨g, 1, none⟩) hg y).setCell (p := ⟨g, 2, none⟩) hg z
theorem nt3_far {V : World} {g k : Nat} {t : TypeId} {cs : Array Value} (h : Own V k t cs) (hne : k ≠ g) (x y z : Value) : Own (((V.setCell ⟨g, 0, none⟩ x).setCell ⟨g, 1, none⟩ y).setCell ⟨g, 2, none⟩ z) k t cs := ((h.far hne x).far hne y).far hne z
theorem nt3_cell {V : World} {b o g : Nat} (hne : b ≠ g) (x y z : Value) : (((V.setCell ⟨g, 0, none⟩ x).setCell ⟨g, 1, none⟩ y).setCell ⟨g, 2, none⟩ z).cell? ⟨b, o, none⟩ = V.cell? ⟨b, o, none⟩ := by
  rw [World.cell?_of_block (a := ⟨b, o, none⟩) (Below.heap_setCell _ ⟨g, 2, none⟩ z b hne), World.cell?_of_block (a := ⟨b, o, none⟩) (Below.heap_setCell _ ⟨g, 1, none⟩ y b hne), World.cell?_of_block (a := ⟨b, o, none⟩) (Below.heap_setCell _ ⟨g, 0, none⟩ x b hne)]
theorem nt3_celld {V : World} {b o g : Nat} (hne : b ≠ g) (x y z : Value) : (((V.setCell ⟨g, 0, none⟩ x).setCell ⟨g, 1, none⟩ y).setCell ⟨g, 2, none⟩ z).drew.cell? ⟨b, o, none⟩ = V.cell? ⟨b, o, none⟩ := nt3_cell hne x y z
end Go.Proofs.YtaopinecidddkaaDoor

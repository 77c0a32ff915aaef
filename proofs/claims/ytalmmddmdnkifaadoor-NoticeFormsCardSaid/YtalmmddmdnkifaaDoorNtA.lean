/- notice.Valid, Same, Bytes, Parse and their references -/
import Derived.Test.YtalmmddmdnkifaaDoorFnG
import Derived.Test.YtalmmddmdnkifaaDoorPfxM
import Derived.Test.YtalmmddmdnkifaaDoorHdH
namespace Go.Proofs.YtalmmddmdnkifaaDoor
open Go.RowKit Go.Sort

def byB (x : Int) : Bool := decide (0 ≤ x ∧ x ≤ 255)
/-- A valid notice. -/
def ntOk (c s : Int) (n : Nat) : Bool := byB c && byB s && decide (n ≤ 65514)
theorem ntOk_iff {c s : Int} {n : Nat} : ntOk c s n = true ↔ (0 ≤ c ∧ c ≤ 255) ∧ (0 ≤ s ∧ s ≤ 255) ∧ n ≤ 65514 := by
  unfold ntOk byB
  simp [and_assoc]
set_option maxRecDepth 100000 in
theorem isbyte_any (x : Int) (w : World) : Calls Tryd.prog 64 #[.int .i64 x] w fun e w' => e = .returned (.bool (byB x)) ∧ w = w' := by
  go_enter Tryd.func64, Tryd.ntmps64
  go_wp2
  all_goals go_ret
  all_goals refine ⟨ret_bool ?_, rfl⟩
  all_goals (unfold byB; rw [Bool.eq_iff_iff]; simp only [decide_eq_true_eq, Bool.false_eq_true, false_iff] at *; omega)
set_option maxRecDepth 100000 in
theorem bysized_any (x : Int) (w : World) : Calls Tryd.prog 94 #[.int .i64 x] w fun e w' => e = .returned (.bool (byB x)) ∧ w = w' := by
  go_enter Tryd.func94, Tryd.ntmps94
  go_wp2
  all_goals go_ret
  all_goals refine ⟨ret_bool ?_, rfl⟩
  all_goals (unfold byB; rw [Bool.eq_iff_iff]; simp only [decide_eq_true_eq, Bool.false_eq_true, false_iff] at *; omega)
theorem nt_cells {W : World} {g : Nat} {T : TypeId} {a b c : Value} (h : Own W g T #[a, b, c]) : W.cell? ⟨g, 0, none⟩ = some a ∧ W.cell? ⟨g, 1, none⟩ = some b ∧ W.cell? ⟨g, 2, none⟩ = some c := ⟨h.cell rfl, h.cell rfl, h.cell rfl⟩
set_option maxRecDepth 100000 in
set_option maxHeartbeats 800000 in
theorem ntvalid_any (c s : Int) (A : Option Addr) (n cp : Nat) (w : World) :
    Calls Tryd.prog 27 #[.agg #[.int .i64 c, .int .i64 s, .slice A n cp]] w fun e w' => e = .returned (.bool (ntOk c s n)) ∧ Below w.heap.size w w' := by
  have hb := bl_alloc (bl_refl w) (.cells #[.int .i64 c, .int .i64 s, .slice A n cp] 29)
  have hO : Hid (∀ q, decide (n ≤ 65514) = q → ntOk c s n = (byB c && byB s && q)) := Lib.hid (by rintro q rfl; rfl)
  generalize hv : ntOk c s n = V at *
  have HV := Lib.hid hv
  clear hv
  generalize hx : byB c = X at *
  have HX := Lib.hid hx
  clear hx
  generalize hy : byB s = Y at *
  have HY := Lib.hid hy
  clear hy
  go_enter Tryd.func27, Tryd.ntmps27
  go_wp2_with fail
  refine (isbyte_any c _).mono ?_
  rw [HX.out]
  rintro e w' ⟨rfl, rfl⟩
  cases X
  · go_wp2
    go_ret
    exact ⟨ret_bool (by rw [hO.out _ rfl]; rfl), hb⟩
  · go_wp2_with fail
    refine (isbyte_any s _).mono ?_
    rw [HY.out]
    rintro e w' ⟨rfl, rfl⟩
    cases Y
    · go_wp2
      go_ret
      exact ⟨ret_bool (by rw [hO.out _ rfl]; rfl), hb⟩
    · go_wp2
      go_ret
      exact ⟨ret_bool (by rw [hO.out _ rfl, Bool.true_and, Bool.true_and, Bool.eq_iff_iff]; simp only [decide_eq_true_eq]; omega), hb⟩
set_option maxRecDepth 100000 in
set_option maxHeartbeats 800000 in
theorem rntvalid_any (c s : Int) (A : Option Addr) (n cp : Nat) (w : World) :
    Calls Tryd.prog 59 #[.agg #[.int .i64 c, .int .i64 s, .slice A n cp]] w fun e w' => e = .returned (.bool (ntOk c s n)) ∧ Below w.heap.size w w' := by
  have hb := bl_alloc (bl_refl w) (.cells #[.int .i64 c, .int .i64 s, .slice A n cp] 24)
  have hO : Hid (∀ q, decide (n ≤ 65514) = q → ntOk c s n = (byB c && byB s && q)) := Lib.hid (by rintro q rfl; rfl)
  generalize hv : ntOk c s n = V at *
  have HV := Lib.hid hv
  clear hv
  generalize hx : byB c = X at *
  have HX := Lib.hid hx
  clear hx
  generalize hy : byB s = Y at *
  have HY := Lib.hid hy
  clear hy
  go_enter Tryd.func59, Tryd.ntmps59
  go_wp2_with fail
  refine (bysized_any c _).mono ?_
  rw [HX.out]
  rintro e w' ⟨rfl, rfl⟩
  cases X
  · go_wp2
    go_ret
    exact ⟨ret_bool (by rw [hO.out _ rfl]; rfl), hb⟩
  · go_wp2_with fail
    refine (bysized_any s _).mono ?_
    rw [HY.out]
    rintro e w' ⟨rfl, rfl⟩
    cases Y
    · go_wp2
      go_ret
      exact ⟨ret_bool (by rw [hO.out _ rfl]; rfl), hb⟩
    · go_wp2
      go_ret
      exact ⟨ret_bool (by rw [hO.out _ rfl, Bool.true_and, Bool.true_and, Bool.eq_iff_iff]; simp only [decide_eq_true_eq]; omega), hb⟩
/-- Equal notices. -/
def ntSame (c s : Int) (xs : List Int) (c' s' : Int) (ys : List Int) : Bool := decide (c = c' ∧ s = s' ∧ xs = ys)
set_option maxRecDepth 100000 in
set_option maxHeartbeats 1600000 in
theorem ntsame_any (c s : Int) (A : Option Addr) (n cp : Nat) (xs : List Int) (c' s' : Int) (A' : Option Addr) (n' cp' : Nat) (ys : List Int) (w : World) (hx : Bytes w w.heap.size A n xs) (hy : Bytes w w.heap.size A' n' ys) :
    Calls Tryd.prog 19 #[.agg #[.int .i64 c, .int .i64 s, .slice A n cp], .agg #[.int .i64 c', .int .i64 s', .slice A' n' cp']] w fun e w' => e = .returned (.bool (ntSame c s xs c' s' ys)) ∧ Below w.heap.size w w' := by
  have hb := bl_alloc (bl_alloc (bl_refl w) (.cells #[.int .i64 c, .int .i64 s, .slice A n cp] 29)) (.cells #[.int .i64 c', .int .i64 s', .slice A' n' cp'] 29)
  have hx1 := Lib.hid (hx.below hb)
  have hy1 := Lib.hid (hy.below hb)
  clear hx hy
  unfold ntSame
  by_cases hk : c = c' ∧ s = s'
  · obtain ⟨rfl, rfl⟩ := hk
    go_enter Tryd.func19, Tryd.ntmps19
    go_wp2_with fail
    refine (bequal_any _ _ _ _ _ _ _ _ _ _ _ hx1.out hy1.out).mono ?_
    rintro e w1 ⟨rfl, rfl⟩
    go_wp2
    go_ret
    exact ⟨ret_bool (by simp), hb⟩
  · go_enter Tryd.func19, Tryd.ntmps19
    go_wp2_with fail
    all_goals first
      | (exfalso; omega)
      | (go_ret; exact ⟨ret_bool (by symm; rw [decide_eq_false_iff_not]; rintro ⟨h1, h2, _⟩; exact hk ⟨h1, h2⟩), bl_alloc (bl_alloc (bl_refl w) _) _⟩)
set_option maxRecDepth 100000 in
set_option maxHeartbeats 1600000 in
theorem rntsame_any (c s : Int) (A : Option Addr) (n cp : Nat) (xs : List Int) (c' s' : Int) (A' : Option Addr) (n' cp' : Nat) (ys : List Int) (w : World) (hx : Bytes w w.heap.size A n xs) (hy : Bytes w w.heap.size A' n' ys) :
    Calls Tryd.prog 20 #[.agg #[.int .i64 c, .int .i64 s, .slice A n cp], .agg #[.int .i64 c', .int .i64 s', .slice A' n' cp']] w fun e w' => e = .returned (.bool (ntSame c s xs c' s' ys)) ∧ Below w.heap.size w w' := by
  have hb := bl_alloc (bl_alloc (bl_refl w) (.cells #[.int .i64 c, .int .i64 s, .slice A n cp] 24)) (.cells #[.int .i64 c', .int .i64 s', .slice A' n' cp'] 24)
  have hx1 := Lib.hid (hx.below hb)
  have hy1 := Lib.hid (hy.below hb)
  clear hx hy
  unfold ntSame
  by_cases hk : c = c' ∧ s = s'
  · obtain ⟨rfl, rfl⟩ := hk
    go_enter Tryd.func20, Tryd.ntmps20
    go_wp2_with fail
    refine (rsame1_any _ _ _ _ _ _ _ _ _ _ _ hx1.out hy1.out).mono ?_
    rintro e w1 ⟨rfl, rfl⟩
    go_wp2
    go_ret
    exact ⟨ret_bool (by simp), hb⟩
  · go_enter Tryd.func20, Tryd.ntmps20
    go_wp2_with fail
    all_goals first
      | (exfalso; omega)
      | (go_ret; exact ⟨ret_bool (by symm; rw [decide_eq_false_iff_not]; rintro ⟨h1, h2, _⟩; exact hk ⟨h1, h2⟩), bl_alloc (bl_alloc (bl_refl w) _) _⟩)

def ntForm (c s : Int) (xs : List Int) : List Int := [c, s] ++ xs
theorem ntForm_len (c s : Int) (xs : List Int) : (ntForm c s xs).length = xs.length + 2 := by unfold ntForm; simp
set_option maxRecDepth 100000 in
theorem nt_desc : Tryd.prog.underlying 29 = some (.struct (Tryd.prog.fieldsOf 29)) := by kernel_rfl
set_option maxRecDepth 100000 in
theorem nt_info (a b c : Value) : (Tryd.prog.info? 29).map (·.size) = some (#[a, b, c] : Array Value).size := by kernel_rfl
set_option maxRecDepth 100000 in
theorem rnt_desc : Tryd.prog.underlying 24 = some (.struct (Tryd.prog.fieldsOf 24)) := by kernel_rfl
set_option maxRecDepth 100000 in
theorem rnt_info (a b c : Value) : (Tryd.prog.info? 24).map (·.size) = some (#[a, b, c] : Array Value).size := by kernel_rfl
theorem ntForm_range {c s : Int} {xs : List Int} (hc : 0 ≤ c ∧ c ≤ 255) (hs : 0 ≤ s ∧ s ≤ 255) (hx : ∀ x ∈ xs, 0 ≤ x ∧ x ≤ 255) : ∀ x ∈ ntForm c s xs, 0 ≤ x ∧ x ≤ 255 := by
  unfold ntForm
  intro x hm
  rcases List.mem_append.1 hm with h | h
  · simp at h
    rcases h with rfl | rfl
    · exact hc
    · exact hs
  · exact hx x h
set_option maxRecDepth 100000 in
theorem ntbytes_no (c s : Int) (A : Option Addr) (n cp : Nat) (w : World) (hk : ntOk c s n = false) :
    Calls Tryd.prog 23 #[.agg #[.int .i64 c, .int .i64 s, .slice A n cp]] w fun e w' => e = .returned (.tuple #[.slice none 0 0, .bool false]) ∧ Below w.heap.size w w' := by
  have hb0 := bl_alloc (bl_refl w) (.cells #[.int .i64 c, .int .i64 s, .slice A n cp] 29)
  have HK := Lib.hid hk
  clear hk
  go_enter Tryd.func23, Tryd.ntmps23
  go_wp2_with fail
  refine (ntvalid_any c s A n cp _).mono ?_
  rw [HK.out]
  rintro e w1 ⟨rfl, hb1⟩
  go_wp2
  go_ret2
  exact ⟨rfl, bl_trans hb0 hb1⟩
set_option maxRecDepth 100000 in
theorem rntbytes_no (c s : Int) (A : Option Addr) (n cp : Nat) (w : World) (hk : ntOk c s n = false) :
    Calls Tryd.prog 16 #[.agg #[.int .i64 c, .int .i64 s, .slice A n cp]] w fun e w' => e = .returned (.tuple #[.slice none 0 0, .bool false]) ∧ Below w.heap.size w w' := by
  have hb0 := bl_alloc (bl_refl w) (.cells #[.int .i64 c, .int .i64 s, .slice A n cp] 24)
  have HK := Lib.hid hk
  clear hk
  go_enter Tryd.func16, Tryd.ntmps16
  go_wp2_with fail
  refine (rntvalid_any c s A n cp _).mono ?_
  rw [HK.out]
  rintro e w1 ⟨rfl, hb1⟩
  go_wp2
  go_ret2
  exact ⟨rfl, bl_trans hb0 hb1⟩
set_option maxRecDepth 100000 in
set_option maxHeartbeats 800000 in
theorem ntbytes_yes (c s : Int) (A : Option Addr) (n cp : Nat) (xs : List Int) (w : World) (hx : Bytes w w.heap.size A n xs) (hk : ntOk c s n = true) :
    Calls Tryd.prog 23 #[.agg #[.int .i64 c, .int .i64 s, .slice A n cp]] w fun e w' => ∃ g, e = .returned (.tuple #[.slice (some ⟨g, 0, none⟩) (n + 2) (n + 2), .bool true]) ∧ w.heap.size ≤ g ∧ Own w' g 5 ((ntForm c s xs).map (Value.int .u8)).toArray ∧ Below w.heap.size w w' := by
  obtain ⟨⟨c0, c1⟩, ⟨s0, s1⟩, hn⟩ := ntOk_iff.1 hk
  have wc : IntKind.u8.wrap c = c := by rw [IntKind.wrap_u8']; omega
  have ws : IntKind.u8.wrap s = s := by rw [IntKind.wrap_u8']; omega
  have hb0 := bl_alloc (bl_refl w) (.cells #[.int .i64 c, .int .i64 s, .slice A n cp] 29)
  have o0 := Own.new w 29 #[.int .i64 c, .int .i64 s, .slice A n cp]
  have HK := Lib.hid hk
  have HX := Lib.hid hx
  clear hk hx
  go_enter Tryd.func23, Tryd.ntmps23
  go_wp2_with fail
  refine (ntvalid_any c s A n cp _).mono ?_
  rw [HK.out]
  rintro e w1 ⟨rfl, hb1⟩
  have o1 := o0.step hb1
  obtain ⟨d0, d1, d2⟩ := nt_cells o1
  have hlt := o1.lt
  have hb2 := bl_trans hb0 hb1
  have hba := bl_alloc (bl_alloc (bl_refl w1) (.cells #[.int .u8 c, .int .u8 s] 5)) (.cells #[.slice (some ⟨w1.heap.size, 0, none⟩) 2 2, .slice A n cp] 22)
  have hb3 := bl_trans hb2 hba
  have om := ((Own.new w1 5 #[.int .u8 c, .int .u8 s]).alloc (.cells #[.slice (some ⟨w1.heap.size, 0, none⟩) 2 2, .slice A n cp] 22))
  have b1 := Bytes.of_owned (xs := [c, s]) om (by intro x hx; simp at hx; omega) om.lt
  have b2 := (HX.out.below hb3).more hb3.size
  have hpt := parts_two (c1 := 2) (c2 := cp) (Own.new (w1.alloc (.cells #[.int .u8 c, .int .u8 s] 5)) 22 #[.slice (some ⟨w1.heap.size, 0, none⟩) 2 2, .slice A n cp]) b1 b2
  rw [show (w1.alloc (.cells #[.int .u8 c, .int .u8 s] 5)).heap.size = w1.heap.size + 1 by simp] at hpt
  have HF := Lib.hid (show flat [⟨some ⟨w1.heap.size, 0, none⟩, 2, 2, [c, s]⟩, ⟨A, n, cp, xs⟩] = ntForm c s xs by simp [flat, ntForm])
  have HL := Lib.hid (show (ntForm c s xs).length = n + 2 by rw [ntForm_len, ← HX.out.1])
  have hsg : w.heap.size ≤ w1.heap.size + 1 + 1 := by have := hb2.size; omega
  clear hb0 hb1 hba om b1 b2 o0
  go_wp2_with fail
  refine (cat_own (c := 2) hpt (by omega) (by rw [HF.out, HL.out]; omega)).mono ?_
  rw [HF.out, HL.out]
  rintro e w2 ⟨rfl, ho2, hb4⟩
  rw [show ((w1.alloc (.cells #[.int .u8 c, .int .u8 s] 5)).alloc (.cells #[.slice (some ⟨w1.heap.size, 0, none⟩) 2 2, .slice A n cp] 22)).heap.size = w1.heap.size + 1 + 1 by simp] at ho2
  have hb5 := bl_trans hb3 hb4
  go_wp2
  go_ret2
  exact ⟨_, rfl, hsg, ho2, hb5⟩
theorem row_two {w : World} {g base : Nat} {t : TypeId} {cs : List Value} {n : Nat} (h : Own w g t cs.toArray) (hn : cs.length = n) (hb : base ≤ g) (hm : n ≤ maxLen) : w.ownsRow base t 1 (.slice (some ⟨g, 0, none⟩) n n) n cs :=
  ⟨by rw [hn, Nat.mul_one], .inr ⟨g, n, cs.toArray, rfl, hb, h, Nat.le_refl _, hm, by simpa using hn, by rw [List.take_of_length_le (by simp; omega)]⟩⟩
set_option maxRecDepth 100000 in
set_option maxHeartbeats 800000 in
theorem rntbytes_yes (c s : Int) (A : Option Addr) (n cp : Nat) (xs : List Int) (w : World) (hx : Bytes w w.heap.size A n xs) (hk : ntOk c s n = true) :
    Calls Tryd.prog 16 #[.agg #[.int .i64 c, .int .i64 s, .slice A n cp]] w fun e w' => ∃ v, e = .returned (.tuple #[v, .bool true]) ∧ w'.ownsRow w.heap.size 5 1 v (n + 2) ((ntForm c s xs).map (Value.int .u8)) ∧ Below w.heap.size w w' := by
  obtain ⟨⟨c0, c1⟩, ⟨s0, s1⟩, hn⟩ := ntOk_iff.1 hk
  have wc : IntKind.u8.wrap c = c := by rw [IntKind.wrap_u8']; omega
  have ws : IntKind.u8.wrap s = s := by rw [IntKind.wrap_u8']; omega
  have hb0 := bl_alloc (bl_refl w) (.cells #[.int .i64 c, .int .i64 s, .slice A n cp] 24)
  have o0 := Own.new w 24 #[.int .i64 c, .int .i64 s, .slice A n cp]
  have HK := Lib.hid hk
  have HX := Lib.hid hx
  clear hk hx
  go_enter Tryd.func16, Tryd.ntmps16
  go_wp2_with fail
  refine (rntvalid_any c s A n cp _).mono ?_
  rw [HK.out]
  rintro e w1 ⟨rfl, hb1⟩
  have o1 := o0.step hb1
  obtain ⟨d0, d1, d2⟩ := nt_cells o1
  have hlt := o1.lt
  have hb2 := bl_trans hb0 hb1
  have hb3 := bl_alloc hb2 (.cells #[.int .u8 c, .int .u8 s] 5)
  have hrow := row_two (w := w1.alloc (.cells #[.int .u8 c, .int .u8 s] 5)) (base := w.heap.size) (cs := [.int .u8 c, .int .u8 s]) (n := 2) (Own.new w1 5 #[.int .u8 c, .int .u8 s]) rfl hb2.size (by decide)
  have hX2 := (HX.out.below hb3).2.2
  have HN := Lib.hid HX.out.1
  have HF := Lib.hid (show (ntForm c s xs).map (Value.int .u8) = [Value.int .u8 c, Value.int .u8 s] ++ xs.map (Value.int .u8) from rfl)
  clear hb0 hb1 o0
  go_wp2_with (at_builtin; refine wpList_append_grow _ rfl _ _ rfl sl_bytes w.heap.size _ 2 _ rfl hrow w.heap.size _ _ _ _ rfl (by have := HN.out; simp; omega) hX2 ints1 (by unfold maxLen; omega) (by omega) hb3.size ?_; intro v1 w2 hown1 hgrow1)
  have hb4 : Below w.heap.size w w2 := hb3.grown hgrow1 hb3.size (own_base hrow)
  go_ret2
  exact ⟨_, rfl, by rw [HF.out, Nat.add_comm n 2]; exact hown1, hb4⟩

set_option maxRecDepth 100000 in
theorem ntparse_no (A : Option Addr) (n c : Nat) (w : World) (h : n < 2 ∨ 65516 < n) :
    Calls Tryd.prog 18 #[.slice A n c] w fun e w' => e = .returned (.tuple #[.agg #[.int .i64 0, .int .i64 0, .slice none 0 0], .bool false]) ∧ Below w.heap.size w w' := by
  have o0 := Own.new w 29 #[.int .i64 0, .int .i64 0, .slice none 0 0]
  have hb0 := bl_alloc (bl_refl w) (.cells #[.int .i64 0, .int .i64 0, .slice none 0 0] 29)
  rcases h with h | h
  · have d : decide ((n : Int) < 2) = true := by simp; omega
    go_enter Tryd.func18, Tryd.ntmps18
    go_wp2
    refine bodyPost_ret (results_cell_tmp (p := 2) (t := 3) (fn := Tryd.f18) rfl _ _ w.heap.size 29 #[.int .i64 0, .int .i64 0, .slice none 0 0] _ rfl o0 nt_desc rfl (nt_info _ _ _)) rfl ⟨rfl, hb0⟩
  · have d : decide ((n : Int) < 2) = false := by simp; omega
    have d2 : decide ((65516 : Int) < (n : Int)) = true := by simp; omega
    go_enter Tryd.func18, Tryd.ntmps18
    go_wp2
    refine bodyPost_ret (results_cell_tmp (p := 2) (t := 3) (fn := Tryd.f18) rfl _ _ w.heap.size 29 #[.int .i64 0, .int .i64 0, .slice none 0 0] _ rfl o0 nt_desc rfl (nt_info _ _ _)) rfl ⟨rfl, hb0⟩
theorem nt3_own {w : World} {g : Nat} {t : TypeId} {a b c : Value} (h : Own w g t #[a, b, c]) (x y z : Value) :
    Own (((w.setCell ⟨g, 0, none⟩ x).setCell ⟨g, 1, none⟩ y).setCell ⟨g, 2, none⟩ z) g t #[x, y, z] := by
  have h2 := ((h.set_ 0 x).set_ 1 y).set_ 2 z
  simpa using h2
theorem nt3_below {w V : World} {g : Nat} (hb : Below w.heap.size w V) (hg : w.heap.size ≤ g) (x y z : Value) :
    Below w.heap.size w (((V.setCell ⟨g, 0, none⟩ x).setCell ⟨g, 1, none⟩ y).setCell ⟨g, 2, none⟩ z) :=
  ((hb.setCell (p := ⟨g, 0, none⟩) hg x).setCell (p := ⟨g, 1, none⟩) hg y).setCell (p := ⟨g, 2, none⟩) hg z
theorem nt3_far {V : World} {g k : Nat} {t : TypeId} {cs : Array Value} (h : Own V k t cs) (hne : k ≠ g) (x y z : Value) : Own (((V.setCell ⟨g, 0, none⟩ x).setCell ⟨g, 1, none⟩ y).setCell ⟨g, 2, none⟩ z) k t cs := ((h.far hne x).far hne y).far hne z
theorem nt3_cell {V : World} {b o g : Nat} (hne : b ≠ g) (x y z : Value) : (((V.setCell ⟨g, 0, none⟩ x).setCell ⟨g, 1, none⟩ y).setCell ⟨g, 2, none⟩ z).cell? ⟨b, o, none⟩ = V.cell? ⟨b, o, none⟩ := by
  rw [World.cell?_of_block (a := ⟨b, o, none⟩) (Below.heap_setCell _ ⟨g, 2, none⟩ z b hne), World.cell?_of_block (a := ⟨b, o, none⟩) (Below.heap_setCell _ ⟨g, 1, none⟩ y b hne), World.cell?_of_block (a := ⟨b, o, none⟩) (Below.heap_setCell _ ⟨g, 0, none⟩ x b hne)]
theorem nt3_celld {V : World} {b o g : Nat} (hne : b ≠ g) (x y z : Value) : (((V.setCell ⟨g, 0, none⟩ x).setCell ⟨g, 1, none⟩ y).setCell ⟨g, 2, none⟩ z).drew.cell? ⟨b, o, none⟩ = V.cell? ⟨b, o, none⟩ := nt3_cell hne x y z
set_option maxRecDepth 100000 in
set_option maxHeartbeats 1600000 in
theorem ntparse_yes (A : Option Addr) (n c : Nat) (xs : List Int) (w : World) (hx : Bytes w w.heap.size A n xs) (h2 : 2 ≤ n) (hn : n ≤ 65516) (hnc : n ≤ c) :
    Calls Tryd.prog 18 #[.slice A n c] w fun e w' => ∃ g, e = .returned (.tuple #[.agg #[.int .i64 (nth xs 0), .int .i64 (nth xs 1), .slice (some ⟨g, 0, none⟩) (n - 2) (n - 2)], .bool true]) ∧ w.heap.size ≤ g ∧ Own w' g 5 ((xs.drop 2).map (Value.int .u8)).toArray ∧ Below w.heap.size w w' := by
  have o0 := Own.new w 29 #[.int .i64 0, .int .i64 0, .slice none 0 0]
  have hb0 := bl_alloc (bl_refl w) (.cells #[.int .i64 0, .int .i64 0, .slice none 0 0] 29)
  have hxV := hx.below hb0
  have hcut := hxV.cut (k := 2) (cap := c) h2 hnc
  obtain ⟨b, o, rfl, hb, e0, l0, u0⟩ := hxV.at_ (k := 0) (by omega)
  rw [Nat.add_zero] at e0
  obtain ⟨b1, o1, hA, _, e1, l1, u1⟩ := hxV.at_ (k := 1) (by omega)
  obtain ⟨rfl, rfl⟩ : b = b1 ∧ o = o1 := by simpa using hA
  have HN := Lib.hid hx.1
  clear hx hxV hA
  have hcutL := Lib.hid (hcut.1)
  generalize nth xs 0 = y0 at *
  generalize nth xs 1 = y1 at *
  generalize hZ : xs.drop 2 = zs at *
  clear hZ
  have v0 : IntKind.i64.wrap y0 = y0 := by rw [IntKind.wrap_i64]; omega
  have v1 : IntKind.i64.wrap y1 = y1 := by rw [IntKind.wrap_i64]; omega
  have k0 := o0.cell (i := 0) (v := .int .i64 0) rfl
  have k1 := o0.cell (i := 1) (v := .int .i64 0) rfl
  have k2 := o0.cell (i := 2) (v := .slice none 0 0) rfl
  have f0 := o0.frozen 0
  have f1 := o0.frozen 1
  have f2 := o0.frozen 2
  have hlt := o0.lt
  have hbne : b ≠ w.heap.size := by omega
  have d : decide ((n : Int) < 2) = false := by simp; omega
  have d2 : decide ((65516 : Int) < (n : Int)) = false := by simp; omega
  have i0 : (0 : Int) < (n : Int) := by omega
  have i4 : 0 < n := by omega
  have i1 : (1 : Int) < (n : Int) := by omega
  have i2 : (2 : Int) ≤ (n : Int) := by omega
  have i3 : (n : Int) ≤ (c : Int) := by omega
  by_cases hc : c = 2
  · subst hc
    obtain rfl : n = 2 := by omega
    rw [if_pos rfl] at hcut
    obtain rfl : zs = [] := List.length_eq_zero_iff.1 hcutL.out.symm
    go_enter Tryd.func18, Tryd.ntmps18
    go_wp2_with fail
    generalize w.alloc (.cells #[.int .i64 0, .int .i64 0, .slice none 0 0] 29) = V at *
    have hbV : b < V.heap.size := by omega
    have hbA := (bl_alloc (bl_refl V) (.cells #[.slice (some ⟨b, o, none⟩) 0 0] 22)).drew
    have oD := (Own.new V 22 #[.slice (some ⟨b, o, none⟩) 0 0]).drew
    have hcD : Bytes (V.alloc (.cells #[.slice (some ⟨b, o, none⟩) 0 0] 22)).drew (V.alloc (.cells #[.slice (some ⟨b, o, none⟩) 0 0] 22)).drew.heap.size (some ⟨b, o, none⟩) 0 [] := ((hcut.more (Nat.le_of_lt hlt)).keep (fun b' o' hb' => hbA.cell (p := ⟨b', o', none⟩) hb')).more hbA.size
    have hpt := parts_one4 (c1 := 0) oD hcD
    have HF := Lib.hid (show flat [⟨some ⟨b, o, none⟩, 0, 0, []⟩] = [] by simp [flat])
    have oA := (o0.alloc (.cells #[.slice (some ⟨b, o, none⟩) 0 0] 22)).drew
    have hVs := Lib.hid (show (V.alloc (.cells #[.slice (some ⟨b, o, none⟩) 0 0] 22)).drew.heap.size = V.heap.size + 1 by simp [World.drew])
    have HS0 : V.drew.cell? ⟨b, o, none⟩ = some (.int .u8 y0) ∧ V.drew.cell? ⟨b, o + 1, none⟩ = some (.int .u8 y1) := ⟨e0, e1⟩
    have HSA : (V.alloc (.cells #[.slice (some ⟨b, o, none⟩) 0 0] 22)).drew.cell? ⟨b, o, none⟩ = some (.int .u8 y0) ∧ (V.alloc (.cells #[.slice (some ⟨b, o, none⟩) 0 0] 22)).drew.cell? ⟨b, o + 1, none⟩ = some (.int .u8 y1) := ⟨(hbA.cell (p := ⟨b, o, none⟩) hbV).trans e0, (hbA.cell (p := ⟨b, o + 1, none⟩) hbV).trans e1⟩
    go_region_held3 (fun W => W.cell? ⟨b, o, none⟩ = some (.int .u8 y0) ∧ W.cell? ⟨b, o + 1, none⟩ = some (.int .u8 y1)) (with_reducible first | exact HS0 | exact HSA | exact HS2 | exact HS3 _ _ _) ((first
      | (go_at_call 60; (with_reducible refine (cat_own (c := 1) hpt (by omega) (by rw [HF.out, ← hcutL.out]; omega)).mono ?_); rw [HF.out, ← hcutL.out, hVs.out]; rintro e w1 ⟨rfl, ho1, hb1⟩; rw [← hVs.out] at hb1; have hbw := bl_trans hb0 (hbA.trans (hb1.mono (by simp [World.drew]))); have q0 := (hb1.cell (p := ⟨b, o, none⟩) (by simp [World.drew]; omega)).trans HSA.1; have q1 := (hb1.cell (p := ⟨b, o + 1, none⟩) (by simp [World.drew]; omega)).trans HSA.2; have HS2 : w1.cell? ⟨b, o, none⟩ = some (.int .u8 y0) ∧ w1.cell? ⟨b, o + 1, none⟩ = some (.int .u8 y1) := ⟨q0, q1⟩; have HS3 := fun x y z => And.intro ((nt3_cell (V := w1) hbne x y z).trans q0) ((nt3_cell (V := w1) hbne x y z).trans q1); have pV := oA.step hb1; have k0 := pV.cell (i := 0) (v := .int .i64 0) rfl; have k1 := pV.cell (i := 1) (v := .int .i64 0) rfl; have k2 := pV.cell (i := 2) (v := .slice none 0 0) rfl; have f0 := pV.frozen 0; have f1 := pV.frozen 1; have f2 := pV.frozen 2; have hlt1 := pV.lt)))
    go_wp2
    refine bodyPost_ret (results_cell_tmp (p := 2) (t := 3) (fn := Tryd.f18) rfl _ _ w.heap.size 29 #[.int .i64 y0, .int .i64 y1, .slice (some ⟨V.heap.size + 1, 0, none⟩) 0 0] _ rfl (nt3_own pV _ _ _) nt_desc rfl (nt_info _ _ _)) rfl ⟨V.heap.size + 1, rfl, by have := hb0.size; omega, nt3_far ho1 (show V.heap.size + 1 ≠ w.heap.size by omega) _ _ _, nt3_below hbw (Nat.le_refl _) _ _ _⟩
  · rw [if_neg hc] at hcut
    go_enter Tryd.func18, Tryd.ntmps18
    go_wp2_with fail
    generalize w.alloc (.cells #[.int .i64 0, .int .i64 0, .slice none 0 0] 29) = V at *
    have hbV : b < V.heap.size := by omega
    have hA2 : (some (⟨b, o, none⟩ : Addr)).map (·.add 2) = some ⟨b, o + 2, none⟩ := by simp [Addr.add_lit]
    rw [hA2] at hcut
    have hbA := (bl_alloc (bl_refl V) (.cells #[.slice (some ⟨b, o + 2, none⟩) (n - 2) (c - 2)] 22)).drew
    have oD := (Own.new V 22 #[.slice (some ⟨b, o + 2, none⟩) (n - 2) (c - 2)]).drew
    have hcD : Bytes (V.alloc (.cells #[.slice (some ⟨b, o + 2, none⟩) (n - 2) (c - 2)] 22)).drew (V.alloc (.cells #[.slice (some ⟨b, o + 2, none⟩) (n - 2) (c - 2)] 22)).drew.heap.size (some ⟨b, o + 2, none⟩) (n - 2) zs := ((hcut.more (Nat.le_of_lt hlt)).keep (fun b' o' hb' => hbA.cell (p := ⟨b', o', none⟩) hb')).more hbA.size
    have hpt := parts_one4 (c1 := c - 2) oD hcD
    have HF := Lib.hid (show flat [⟨some ⟨b, o + 2, none⟩, n - 2, c - 2, zs⟩] = zs by simp [flat])
    have oA := (o0.alloc (.cells #[.slice (some ⟨b, o + 2, none⟩) (n - 2) (c - 2)] 22)).drew
    have hVs := Lib.hid (show (V.alloc (.cells #[.slice (some ⟨b, o + 2, none⟩) (n - 2) (c - 2)] 22)).drew.heap.size = V.heap.size + 1 by simp [World.drew])
    have HS0 : V.drew.cell? ⟨b, o, none⟩ = some (.int .u8 y0) ∧ V.drew.cell? ⟨b, o + 1, none⟩ = some (.int .u8 y1) := ⟨e0, e1⟩
    have HSA : (V.alloc (.cells #[.slice (some ⟨b, o + 2, none⟩) (n - 2) (c - 2)] 22)).drew.cell? ⟨b, o, none⟩ = some (.int .u8 y0) ∧ (V.alloc (.cells #[.slice (some ⟨b, o + 2, none⟩) (n - 2) (c - 2)] 22)).drew.cell? ⟨b, o + 1, none⟩ = some (.int .u8 y1) := ⟨(hbA.cell (p := ⟨b, o, none⟩) hbV).trans e0, (hbA.cell (p := ⟨b, o + 1, none⟩) hbV).trans e1⟩
    go_region_held3 (fun W => W.cell? ⟨b, o, none⟩ = some (.int .u8 y0) ∧ W.cell? ⟨b, o + 1, none⟩ = some (.int .u8 y1)) (with_reducible first | exact HS0 | exact HSA | exact HS2 | exact HS3 _ _ _) ((first
      | (go_at_call 60; (with_reducible refine (cat_own (c := 1) hpt (by omega) (by rw [HF.out, ← hcutL.out]; omega)).mono ?_); rw [HF.out, ← hcutL.out, hVs.out]; rintro e w1 ⟨rfl, ho1, hb1⟩; rw [← hVs.out] at hb1; have hbw := bl_trans hb0 (hbA.trans (hb1.mono (by simp [World.drew]))); have q0 := (hb1.cell (p := ⟨b, o, none⟩) (by simp [World.drew]; omega)).trans HSA.1; have q1 := (hb1.cell (p := ⟨b, o + 1, none⟩) (by simp [World.drew]; omega)).trans HSA.2; have HS2 : w1.cell? ⟨b, o, none⟩ = some (.int .u8 y0) ∧ w1.cell? ⟨b, o + 1, none⟩ = some (.int .u8 y1) := ⟨q0, q1⟩; have HS3 := fun x y z => And.intro ((nt3_cell (V := w1) hbne x y z).trans q0) ((nt3_cell (V := w1) hbne x y z).trans q1); have pV := oA.step hb1; have k0 := pV.cell (i := 0) (v := .int .i64 0) rfl; have k1 := pV.cell (i := 1) (v := .int .i64 0) rfl; have k2 := pV.cell (i := 2) (v := .slice none 0 0) rfl; have f0 := pV.frozen 0; have f1 := pV.frozen 1; have f2 := pV.frozen 2; have hlt1 := pV.lt)))
    go_wp2
    refine bodyPost_ret (results_cell_tmp (p := 2) (t := 3) (fn := Tryd.f18) rfl _ _ w.heap.size 29 #[.int .i64 y0, .int .i64 y1, .slice (some ⟨V.heap.size + 1, 0, none⟩) (n - 2) (n - 2)] _ rfl (nt3_own pV _ _ _) nt_desc rfl (nt_info _ _ _)) rfl ⟨V.heap.size + 1, rfl, by have := hb0.size; omega, nt3_far ho1 (show V.heap.size + 1 ≠ w.heap.size by omega) _ _ _, nt3_below hbw (Nat.le_refl _) _ _ _⟩
set_option maxRecDepth 100000 in
theorem rntparse_no (A : Option Addr) (n c : Nat) (w : World) (h : n < 2 ∨ 65516 < n) :
    Calls Tryd.prog 22 #[.slice A n c] w fun e w' => e = .returned (.tuple #[.agg #[.int .i64 0, .int .i64 0, .slice none 0 0], .bool false]) ∧ Below w.heap.size w w' := by
  have o0 := Own.new w 24 #[.int .i64 0, .int .i64 0, .slice none 0 0]
  have hb0 := bl_alloc (bl_refl w) (.cells #[.int .i64 0, .int .i64 0, .slice none 0 0] 24)
  rcases h with h | h
  · have d : decide ((n : Int) < 2) = true := by simp; omega
    go_enter Tryd.func22, Tryd.ntmps22
    go_wp2
    refine bodyPost_ret (results_cell_tmp (p := 2) (t := 3) (fn := Tryd.f22) rfl _ _ w.heap.size 24 #[.int .i64 0, .int .i64 0, .slice none 0 0] _ rfl o0 rnt_desc rfl (rnt_info _ _ _)) rfl ⟨rfl, hb0⟩
  · have d : decide ((n : Int) < 2) = false := by simp; omega
    have d2 : decide ((65516 : Int) < (n : Int)) = true := by simp; omega
    go_enter Tryd.func22, Tryd.ntmps22
    go_wp2
    refine bodyPost_ret (results_cell_tmp (p := 2) (t := 3) (fn := Tryd.f22) rfl _ _ w.heap.size 24 #[.int .i64 0, .int .i64 0, .slice none 0 0] _ rfl o0 rnt_desc rfl (rnt_info _ _ _)) rfl ⟨rfl, hb0⟩
set_option maxRecDepth 100000 in
set_option maxHeartbeats 1600000 in
theorem rntparse_yes (A : Option Addr) (n c : Nat) (xs : List Int) (w : World) (hx : Bytes w w.heap.size A n xs) (h2 : 2 ≤ n) (hn : n ≤ 65516) (hnc : n ≤ c) :
    Calls Tryd.prog 22 #[.slice A n c] w fun e w' => ∃ A2 c2, e = .returned (.tuple #[.agg #[.int .i64 (nth xs 0), .int .i64 (nth xs 1), .slice A2 (n - 2) c2], .bool true]) ∧ Bytes w' w.heap.size A2 (n - 2) (xs.drop 2) ∧ Below w.heap.size w w' := by
  have o0 := Own.new w 24 #[.int .i64 0, .int .i64 0, .slice none 0 0]
  have hb0 := bl_alloc (bl_refl w) (.cells #[.int .i64 0, .int .i64 0, .slice none 0 0] 24)
  have hxV := hx.below hb0
  have hcut := hxV.cut (k := 2) (cap := c) h2 hnc
  obtain ⟨b, o, rfl, hb, e0, l0, u0⟩ := hxV.at_ (k := 0) (by omega)
  rw [Nat.add_zero] at e0
  obtain ⟨b1, o1, hA, _, e1, l1, u1⟩ := hxV.at_ (k := 1) (by omega)
  obtain ⟨rfl, rfl⟩ : b = b1 ∧ o = o1 := by simpa using hA
  have HN := Lib.hid hx.1
  clear hx hxV hA
  have hcutL := Lib.hid (hcut.1)
  generalize nth xs 0 = y0 at *
  generalize nth xs 1 = y1 at *
  generalize hZ : xs.drop 2 = zs at *
  clear hZ
  have v0 : IntKind.i64.wrap y0 = y0 := by rw [IntKind.wrap_i64]; omega
  have v1 : IntKind.i64.wrap y1 = y1 := by rw [IntKind.wrap_i64]; omega
  have k0 := o0.cell (i := 0) (v := .int .i64 0) rfl
  have k1 := o0.cell (i := 1) (v := .int .i64 0) rfl
  have k2 := o0.cell (i := 2) (v := .slice none 0 0) rfl
  have f0 := o0.frozen 0
  have f1 := o0.frozen 1
  have f2 := o0.frozen 2
  have hlt := o0.lt
  have hbne : b ≠ w.heap.size := by omega
  have d : decide ((n : Int) < 2) = false := by simp; omega
  have d2 : decide ((65516 : Int) < (n : Int)) = false := by simp; omega
  have i0 : (0 : Int) < (n : Int) := by omega
  have i4 : 0 < n := by omega
  have i1 : (1 : Int) < (n : Int) := by omega
  have i2 : (2 : Int) ≤ (n : Int) := by omega
  have i3 : (n : Int) ≤ (c : Int) := by omega
  by_cases hc : c = 2
  · subst hc
    obtain rfl : n = 2 := by omega
    rw [if_pos rfl] at hcut
    obtain rfl : zs = [] := List.length_eq_zero_iff.1 hcutL.out.symm
    go_enter Tryd.func22, Tryd.ntmps22
    go_wp2_with fail
    generalize w.alloc (.cells #[.int .i64 0, .int .i64 0, .slice none 0 0] 24) = V at *
    have hbV : b < V.heap.size := by omega
    have HS0 : V.drew.cell? ⟨b, o, none⟩ = some (.int .u8 y0) ∧ V.drew.cell? ⟨b, o + 1, none⟩ = some (.int .u8 y1) := ⟨e0, e1⟩
    have HS3 := fun x y z => And.intro ((nt3_celld (V := V) hbne x y z).trans e0) ((nt3_celld (V := V) hbne x y z).trans e1)
    go_region_held3 (fun W => W.cell? ⟨b, o, none⟩ = some (.int .u8 y0) ∧ W.cell? ⟨b, o + 1, none⟩ = some (.int .u8 y1)) (with_reducible first | exact HS0 | exact HS3 _ _ _) (fail)
    go_wp2
    refine bodyPost_ret (results_cell_tmp (p := 2) (t := 3) (fn := Tryd.f22) rfl _ _ w.heap.size 24 #[.int .i64 y0, .int .i64 y1, .slice (some ⟨b, o, none⟩) 0 0] _ rfl (nt3_own o0 _ _ _) rnt_desc rfl (rnt_info _ _ _)) rfl ⟨_, _, rfl, hcut.keep (fun b' o' hb' => nt3_cell (V := V) (by omega) _ _ _), (nt3_below hb0 (Nat.le_refl _) _ _ _).drew⟩
  · rw [if_neg hc] at hcut
    go_enter Tryd.func22, Tryd.ntmps22
    go_wp2_with fail
    generalize w.alloc (.cells #[.int .i64 0, .int .i64 0, .slice none 0 0] 24) = V at *
    have hbV : b < V.heap.size := by omega
    have hA2 : (some (⟨b, o, none⟩ : Addr)).map (·.add 2) = some ⟨b, o + 2, none⟩ := by simp [Addr.add_lit]
    rw [hA2] at hcut
    have HS0 : V.drew.cell? ⟨b, o, none⟩ = some (.int .u8 y0) ∧ V.drew.cell? ⟨b, o + 1, none⟩ = some (.int .u8 y1) := ⟨e0, e1⟩
    have HS3 := fun x y z => And.intro ((nt3_celld (V := V) hbne x y z).trans e0) ((nt3_celld (V := V) hbne x y z).trans e1)
    go_region_held3 (fun W => W.cell? ⟨b, o, none⟩ = some (.int .u8 y0) ∧ W.cell? ⟨b, o + 1, none⟩ = some (.int .u8 y1)) (with_reducible first | exact HS0 | exact HS3 _ _ _) (fail)
    go_wp2
    refine bodyPost_ret (results_cell_tmp (p := 2) (t := 3) (fn := Tryd.f22) rfl _ _ w.heap.size 24 #[.int .i64 y0, .int .i64 y1, .slice (some ⟨b, o + 2, none⟩) (n - 2) (c - 2)] _ rfl (nt3_own o0 _ _ _) rnt_desc rfl (rnt_info _ _ _)) rfl ⟨_, _, rfl, hcut.keep (fun b' o' hb' => nt3_cell (V := V) (by omega) _ _ _), (nt3_below hb0 (Nat.le_refl _) _ _ _).drew⟩
end Go.Proofs.YtalmmddmdnkifaaDoor

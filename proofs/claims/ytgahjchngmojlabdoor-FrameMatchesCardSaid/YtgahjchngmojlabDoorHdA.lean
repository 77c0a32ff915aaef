/- The table of kinds; header.find, Limit, Least, Name, allows; peerageref04.Limit, Least -/
import Derived.Test.YtgahjchngmojlabDoorPfxB
namespace Go.Proofs.YtgahjchngmojlabDoor
open Go.RowKit

def hName (k : Int) : ByteArray := if k = 1 then ⟨#[79, 80, 69, 78]⟩ else if k = 2 then ⟨#[85, 80, 68, 65, 84, 69]⟩ else if k = 3 then ⟨#[78, 79, 84, 73, 70, 73, 67, 65, 84, 73, 79, 78]⟩ else if k = 4 then ⟨#[75, 69, 69, 80, 65, 76, 73, 86, 69]⟩ else if k = 5 then ⟨#[82, 79, 85, 84, 69, 45, 82, 69, 70, 82, 69, 83, 72]⟩ else ⟨#[]⟩
def hLeast (k : Int) : Int := if k = 1 then 29 else if k = 2 then 23 else if k = 3 then 21 else if k = 4 then 19 else if k = 5 then 23 else 0
def hPlain (k : Int) : Int := if k = 1 then 4096 else if k = 2 then 4096 else if k = 3 then 4096 else if k = 4 then 19 else if k = 5 then 23 else 0
def hExt (k : Int) : Int := if k = 1 then 4096 else if k = 2 then 65535 else if k = 3 then 65535 else if k = 4 then 19 else if k = 5 then 23 else 0
def hLim (x : Bool) (k : Int) : Int := if x then hExt k else hPlain k
theorem hKinds (k : Int) : k = 1 ∨ k = 2 ∨ k = 3 ∨ k = 4 ∨ k = 5 ∨ (hName k = ⟨#[]⟩ ∧ hLeast k = 0 ∧ hPlain k = 0 ∧ hExt k = 0 ∧ k ≠ 1 ∧ k ≠ 2 ∧ k ≠ 3 ∧ k ≠ 4 ∧ k ≠ 5) := by
  by_cases h1 : k = 1
  · exact .inl h1
  by_cases h2 : k = 2
  · exact .inr (.inl h2)
  by_cases h3 : k = 3
  · exact .inr (.inr (.inl h3))
  by_cases h4 : k = 4
  · exact .inr (.inr (.inr (.inl h4)))
  by_cases h5 : k = 5
  · exact .inr (.inr (.inr (.inr (.inl h5))))
  exact .inr (.inr (.inr (.inr (.inr ⟨by simp [hName, h1, h2, h3, h4, h5], by simp [hLeast, h1, h2, h3, h4, h5], by simp [hPlain, h1, h2, h3, h4, h5], by simp [hExt, h1, h2, h3, h4, h5], h1, h2, h3, h4, h5⟩))))
/-- What the walks ask of the table. -/
def HRows (w : World) : Prop := (∀ i v, (#[.string ⟨#[]⟩, .int .i64 0, .int .i64 0, .int .i64 0, .string ⟨#[79, 80, 69, 78]⟩, .int .i64 29, .int .i64 4096, .int .i64 4096, .string ⟨#[85, 80, 68, 65, 84, 69]⟩, .int .i64 23, .int .i64 4096, .int .i64 65535, .string ⟨#[78, 79, 84, 73, 70, 73, 67, 65, 84, 73, 79, 78]⟩, .int .i64 21, .int .i64 4096, .int .i64 65535, .string ⟨#[75, 69, 69, 80, 65, 76, 73, 86, 69]⟩, .int .i64 19, .int .i64 19, .int .i64 19, .string ⟨#[82, 79, 85, 84, 69, 45, 82, 69, 70, 82, 69, 83, 72]⟩, .int .i64 23, .int .i64 23, .int .i64 23] : Array Value)[i]? = some v → w.cell? ⟨0, i, none⟩ = some v) ∧ 0 < w.heap.size
theorem HRows.below {w w' : World} (h : HRows w) (hb : Below w.heap.size w w') : HRows w' :=
  ⟨fun i v hi => (hb.cell (by exact h.2)).trans (h.1 i v hi), Nat.lt_of_lt_of_le h.2 hb.size⟩
theorem HRows.alloc {w : World} (h : HRows w) (o : Obj) : HRows (w.alloc o) := h.below (bl_alloc (bl_refl w) o)
theorem HRows.drew {w : World} (h : HRows w) : HRows w.drew := h
theorem HRows.drewN {w : World} (h : HRows w) (n : Nat) : HRows (w.drewN n) := h
/-- The row of a kind. -/
def hRow (k : Int) : Array Value := #[.string (hName k), .int .i64 (hLeast k), .int .i64 (hPlain k), .int .i64 (hExt k)]
set_option maxRecDepth 100000 in
theorem hrow_desc : Tryd.prog.underlying 88 = some (.struct (Tryd.prog.fieldsOf 88)) := by kernel_rfl
set_option maxRecDepth 100000 in
theorem hrow_info (a b c d : Value) : (Tryd.prog.info? 88).map (·.size) = some (#[a, b, c, d] : Array Value).size := by kernel_rfl
theorem own_four {w : World} {g : Nat} {t : TypeId} {a b c d : Value} (h : Own w g t #[a, b, c, d]) (x y z u : Value) :
    Own ((((w.setCell ⟨g, 0, none⟩ x).setCell ⟨g, 1, none⟩ y).setCell ⟨g, 2, none⟩ z).setCell ⟨g, 3, none⟩ u) g t #[x, y, z, u] := by
  have h2 := (((h.set_ 0 x).set_ 1 y).set_ 2 z).set_ 3 u
  simpa using h2
set_option maxRecDepth 100000 in
theorem find_no (k : Int) (w : World) (hk : hName k = ⟨#[]⟩ ∧ hLeast k = 0 ∧ hPlain k = 0 ∧ hExt k = 0) (h0 : k < 0 ∨ 6 ≤ k) :
    Calls Tryd.prog 36 #[.int .i64 k] w fun e w' => e = .returned (.agg (hRow k)) ∧ Below w.heap.size w w' := by
  have hR : hRow k = #[.string ⟨#[]⟩, .int .i64 0, .int .i64 0, .int .i64 0] := by unfold hRow; rw [hk.1, hk.2.1, hk.2.2.1, hk.2.2.2]
  rw [hR]
  have hb0 := bl_alloc (bl_refl w) (.cells #[.string ⟨#[]⟩, .int .i64 0, .int .i64 0, .int .i64 0] 88)
  have o0 := Own.new w 88 #[.string ⟨#[]⟩, .int .i64 0, .int .i64 0, .int .i64 0]
  clear hk hR
  rcases h0 with h0 | h0
  · have d0 : decide (k < 0) = true := by simpa using h0
    go_enter Tryd.func36, Tryd.ntmps36
    go_wp2
    refine bodyPost_ret (results_cell_row (p := 2) (fn := Tryd.f36) rfl _ _ w.heap.size 88 #[.string ⟨#[]⟩, .int .i64 0, .int .i64 0, .int .i64 0] (0, 0) _ rfl o0 hrow_desc rfl (hrow_info _ _ _ _)) rfl ⟨rfl, hb0⟩
  · have d0 : decide (k < 0) = false := by simp; omega
    have d1 : decide (6 ≤ k) = true := by simpa using h0
    go_enter Tryd.func36, Tryd.ntmps36
    go_wp2
    refine bodyPost_ret (results_cell_row (p := 2) (fn := Tryd.f36) rfl _ _ w.heap.size 88 #[.string ⟨#[]⟩, .int .i64 0, .int .i64 0, .int .i64 0] (0, 0) _ rfl o0 hrow_desc rfl (hrow_info _ _ _ _)) rfl ⟨rfl, hb0⟩
set_option maxRecDepth 100000 in
theorem find_0 (w : World) (ht : HRows w) :
    Calls Tryd.prog 36 #[.int .i64 0] w fun e w' => e = .returned (.agg (hRow 0)) ∧ Below w.heap.size w w' := by
  have hR : hRow 0 = #[.string ⟨#[]⟩, .int .i64 0, .int .i64 0, .int .i64 0] := rfl
  rw [hR]
  have hb0 := bl_alloc (bl_refl w) (.cells #[.string ⟨#[]⟩, .int .i64 0, .int .i64 0, .int .i64 0] 88)
  have o0 := Own.new w 88 #[.string ⟨#[]⟩, .int .i64 0, .int .i64 0, .int .i64 0]
  have ht1 := ht.alloc (.cells #[.string ⟨#[]⟩, .int .i64 0, .int .i64 0, .int .i64 0] 88)
  have c0 := ht1.1 0 (.string ⟨#[]⟩) rfl
  have c1 := ht1.1 1 (.int .i64 0) rfl
  have c2 := ht1.1 2 (.int .i64 0) rfl
  have c3 := ht1.1 3 (.int .i64 0) rfl
  have hlt := ht.2
  clear hR ht ht1 hb0 o0
  go_enter Tryd.func36, Tryd.ntmps36
  go_wp2
  refine bodyPost_ret (results_cell_row (p := 2) (fn := Tryd.f36) rfl _ _ w.heap.size 88 #[.string ⟨#[]⟩, .int .i64 0, .int .i64 0, .int .i64 0] (0, 0) _ rfl (Own.new w _ _) hrow_desc rfl (hrow_info _ _ _ _)) rfl ⟨rfl, bl_alloc (bl_refl w) _⟩
set_option maxRecDepth 100000 in
theorem find_1 (w : World) (ht : HRows w) :
    Calls Tryd.prog 36 #[.int .i64 1] w fun e w' => e = .returned (.agg (hRow 1)) ∧ Below w.heap.size w w' := by
  have hR : hRow 1 = #[.string ⟨#[79, 80, 69, 78]⟩, .int .i64 29, .int .i64 4096, .int .i64 4096] := rfl
  rw [hR]
  have hb0 := bl_alloc (bl_refl w) (.cells #[.string ⟨#[]⟩, .int .i64 0, .int .i64 0, .int .i64 0] 88)
  have o0 := Own.new w 88 #[.string ⟨#[]⟩, .int .i64 0, .int .i64 0, .int .i64 0]
  have ht1 := ht.alloc (.cells #[.string ⟨#[]⟩, .int .i64 0, .int .i64 0, .int .i64 0] 88)
  have c0 := ht1.1 4 (.string ⟨#[79, 80, 69, 78]⟩) rfl
  have c1 := ht1.1 5 (.int .i64 29) rfl
  have c2 := ht1.1 6 (.int .i64 4096) rfl
  have c3 := ht1.1 7 (.int .i64 4096) rfl
  have hlt := ht.2
  clear hR ht ht1 hb0 o0
  go_enter Tryd.func36, Tryd.ntmps36
  go_wp2
  refine bodyPost_ret (results_cell_row (p := 2) (fn := Tryd.f36) rfl _ _ w.heap.size 88 #[.string ⟨#[79, 80, 69, 78]⟩, .int .i64 29, .int .i64 4096, .int .i64 4096] (0, 0) _ rfl (Own.new w _ _) hrow_desc rfl (hrow_info _ _ _ _)) rfl ⟨rfl, bl_alloc (bl_refl w) _⟩
set_option maxRecDepth 100000 in
theorem find_2 (w : World) (ht : HRows w) :
    Calls Tryd.prog 36 #[.int .i64 2] w fun e w' => e = .returned (.agg (hRow 2)) ∧ Below w.heap.size w w' := by
  have hR : hRow 2 = #[.string ⟨#[85, 80, 68, 65, 84, 69]⟩, .int .i64 23, .int .i64 4096, .int .i64 65535] := rfl
  rw [hR]
  have hb0 := bl_alloc (bl_refl w) (.cells #[.string ⟨#[]⟩, .int .i64 0, .int .i64 0, .int .i64 0] 88)
  have o0 := Own.new w 88 #[.string ⟨#[]⟩, .int .i64 0, .int .i64 0, .int .i64 0]
  have ht1 := ht.alloc (.cells #[.string ⟨#[]⟩, .int .i64 0, .int .i64 0, .int .i64 0] 88)
  have c0 := ht1.1 8 (.string ⟨#[85, 80, 68, 65, 84, 69]⟩) rfl
  have c1 := ht1.1 9 (.int .i64 23) rfl
  have c2 := ht1.1 10 (.int .i64 4096) rfl
  have c3 := ht1.1 11 (.int .i64 65535) rfl
  have hlt := ht.2
  clear hR ht ht1 hb0 o0
  go_enter Tryd.func36, Tryd.ntmps36
  go_wp2
  refine bodyPost_ret (results_cell_row (p := 2) (fn := Tryd.f36) rfl _ _ w.heap.size 88 #[.string ⟨#[85, 80, 68, 65, 84, 69]⟩, .int .i64 23, .int .i64 4096, .int .i64 65535] (0, 0) _ rfl (Own.new w _ _) hrow_desc rfl (hrow_info _ _ _ _)) rfl ⟨rfl, bl_alloc (bl_refl w) _⟩
set_option maxRecDepth 100000 in
theorem find_3 (w : World) (ht : HRows w) :
    Calls Tryd.prog 36 #[.int .i64 3] w fun e w' => e = .returned (.agg (hRow 3)) ∧ Below w.heap.size w w' := by
  have hR : hRow 3 = #[.string ⟨#[78, 79, 84, 73, 70, 73, 67, 65, 84, 73, 79, 78]⟩, .int .i64 21, .int .i64 4096, .int .i64 65535] := rfl
  rw [hR]
  have hb0 := bl_alloc (bl_refl w) (.cells #[.string ⟨#[]⟩, .int .i64 0, .int .i64 0, .int .i64 0] 88)
  have o0 := Own.new w 88 #[.string ⟨#[]⟩, .int .i64 0, .int .i64 0, .int .i64 0]
  have ht1 := ht.alloc (.cells #[.string ⟨#[]⟩, .int .i64 0, .int .i64 0, .int .i64 0] 88)
  have c0 := ht1.1 12 (.string ⟨#[78, 79, 84, 73, 70, 73, 67, 65, 84, 73, 79, 78]⟩) rfl
  have c1 := ht1.1 13 (.int .i64 21) rfl
  have c2 := ht1.1 14 (.int .i64 4096) rfl
  have c3 := ht1.1 15 (.int .i64 65535) rfl
  have hlt := ht.2
  clear hR ht ht1 hb0 o0
  go_enter Tryd.func36, Tryd.ntmps36
  go_wp2
  refine bodyPost_ret (results_cell_row (p := 2) (fn := Tryd.f36) rfl _ _ w.heap.size 88 #[.string ⟨#[78, 79, 84, 73, 70, 73, 67, 65, 84, 73, 79, 78]⟩, .int .i64 21, .int .i64 4096, .int .i64 65535] (0, 0) _ rfl (Own.new w _ _) hrow_desc rfl (hrow_info _ _ _ _)) rfl ⟨rfl, bl_alloc (bl_refl w) _⟩
set_option maxRecDepth 100000 in
theorem find_4 (w : World) (ht : HRows w) :
    Calls Tryd.prog 36 #[.int .i64 4] w fun e w' => e = .returned (.agg (hRow 4)) ∧ Below w.heap.size w w' := by
  have hR : hRow 4 = #[.string ⟨#[75, 69, 69, 80, 65, 76, 73, 86, 69]⟩, .int .i64 19, .int .i64 19, .int .i64 19] := rfl
  rw [hR]
  have hb0 := bl_alloc (bl_refl w) (.cells #[.string ⟨#[]⟩, .int .i64 0, .int .i64 0, .int .i64 0] 88)
  have o0 := Own.new w 88 #[.string ⟨#[]⟩, .int .i64 0, .int .i64 0, .int .i64 0]
  have ht1 := ht.alloc (.cells #[.string ⟨#[]⟩, .int .i64 0, .int .i64 0, .int .i64 0] 88)
  have c0 := ht1.1 16 (.string ⟨#[75, 69, 69, 80, 65, 76, 73, 86, 69]⟩) rfl
  have c1 := ht1.1 17 (.int .i64 19) rfl
  have c2 := ht1.1 18 (.int .i64 19) rfl
  have c3 := ht1.1 19 (.int .i64 19) rfl
  have hlt := ht.2
  clear hR ht ht1 hb0 o0
  go_enter Tryd.func36, Tryd.ntmps36
  go_wp2
  refine bodyPost_ret (results_cell_row (p := 2) (fn := Tryd.f36) rfl _ _ w.heap.size 88 #[.string ⟨#[75, 69, 69, 80, 65, 76, 73, 86, 69]⟩, .int .i64 19, .int .i64 19, .int .i64 19] (0, 0) _ rfl (Own.new w _ _) hrow_desc rfl (hrow_info _ _ _ _)) rfl ⟨rfl, bl_alloc (bl_refl w) _⟩
set_option maxRecDepth 100000 in
theorem find_5 (w : World) (ht : HRows w) :
    Calls Tryd.prog 36 #[.int .i64 5] w fun e w' => e = .returned (.agg (hRow 5)) ∧ Below w.heap.size w w' := by
  have hR : hRow 5 = #[.string ⟨#[82, 79, 85, 84, 69, 45, 82, 69, 70, 82, 69, 83, 72]⟩, .int .i64 23, .int .i64 23, .int .i64 23] := rfl
  rw [hR]
  have hb0 := bl_alloc (bl_refl w) (.cells #[.string ⟨#[]⟩, .int .i64 0, .int .i64 0, .int .i64 0] 88)
  have o0 := Own.new w 88 #[.string ⟨#[]⟩, .int .i64 0, .int .i64 0, .int .i64 0]
  have ht1 := ht.alloc (.cells #[.string ⟨#[]⟩, .int .i64 0, .int .i64 0, .int .i64 0] 88)
  have c0 := ht1.1 20 (.string ⟨#[82, 79, 85, 84, 69, 45, 82, 69, 70, 82, 69, 83, 72]⟩) rfl
  have c1 := ht1.1 21 (.int .i64 23) rfl
  have c2 := ht1.1 22 (.int .i64 23) rfl
  have c3 := ht1.1 23 (.int .i64 23) rfl
  have hlt := ht.2
  clear hR ht ht1 hb0 o0
  go_enter Tryd.func36, Tryd.ntmps36
  go_wp2
  refine bodyPost_ret (results_cell_row (p := 2) (fn := Tryd.f36) rfl _ _ w.heap.size 88 #[.string ⟨#[82, 79, 85, 84, 69, 45, 82, 69, 70, 82, 69, 83, 72]⟩, .int .i64 23, .int .i64 23, .int .i64 23] (0, 0) _ rfl (Own.new w _ _) hrow_desc rfl (hrow_info _ _ _ _)) rfl ⟨rfl, bl_alloc (bl_refl w) _⟩
set_option maxRecDepth 100000 in
theorem hfld0 (s : ByteArray) (x y z : Int) (W : World) : (Instr.field 88 (.agg #[.string s, .int .i64 x, .int .i64 y, .int .i64 z]) 0).run Tryd.prog W = Result.ok (.string s) W := by kernel_rfl
set_option maxRecDepth 100000 in
theorem hfld1 (s : ByteArray) (x y z : Int) (W : World) : (Instr.field 88 (.agg #[.string s, .int .i64 x, .int .i64 y, .int .i64 z]) 1).run Tryd.prog W = Result.ok (.int .i64 x) W := by kernel_rfl
set_option maxRecDepth 100000 in
theorem hfld2 (s : ByteArray) (x y z : Int) (W : World) : (Instr.field 88 (.agg #[.string s, .int .i64 x, .int .i64 y, .int .i64 z]) 2).run Tryd.prog W = Result.ok (.int .i64 y) W := by kernel_rfl
set_option maxRecDepth 100000 in
theorem hfld3 (s : ByteArray) (x y z : Int) (W : World) : (Instr.field 88 (.agg #[.string s, .int .i64 x, .int .i64 y, .int .i64 z]) 3).run Tryd.prog W = Result.ok (.int .i64 z) W := by kernel_rfl
set_option maxRecDepth 100000 in
theorem find_any (k : Int) (w : World) (ht : HRows w) :
    Calls Tryd.prog 36 #[.int .i64 k] w fun e w' => e = .returned (.agg #[.string (hName k), .int .i64 (hLeast k), .int .i64 (hPlain k), .int .i64 (hExt k)]) ∧ Below w.heap.size w w' := by
  rcases hKinds k with rfl | rfl | rfl | rfl | rfl | ⟨h1, h2, h3, h4, n1, n2, n3, n4, n5⟩
  · exact find_1 w ht
  · exact find_2 w ht
  · exact find_3 w ht
  · exact find_4 w ht
  · exact find_5 w ht
  · by_cases h0 : k = 0
    · subst h0; exact find_0 w ht
    · exact find_no k w ⟨h1, h2, h3, h4⟩ (by omega)
set_option maxRecDepth 100000 in
theorem least_any (k : Int) (w : World) (ht : HRows w) :
    Calls Tryd.prog 48 #[.int .i64 k] w fun e w' => e = .returned (.int .i64 (hLeast k)) ∧ Below w.heap.size w w' := by
  have hf := hfld1 (hName k) (hLeast k) (hPlain k) (hExt k)
  go_enter Tryd.func48, Tryd.ntmps48
  go_wp2_with fail
  refine (find_any k _ ht).mono ?_
  rintro e w1 ⟨rfl, hb1⟩
  go_wp2
  go_ret
  exact ⟨rfl, hb1⟩
set_option maxRecDepth 100000 in
theorem name_any (k : Int) (w : World) (ht : HRows w) :
    Calls Tryd.prog 37 #[.int .i64 k] w fun e w' => e = .returned (.string (hName k)) ∧ Below w.heap.size w w' := by
  have hf := hfld0 (hName k) (hLeast k) (hPlain k) (hExt k)
  go_enter Tryd.func37, Tryd.ntmps37
  go_wp2_with fail
  refine (find_any k _ ht).mono ?_
  rintro e w1 ⟨rfl, hb1⟩
  go_wp2
  go_ret
  exact ⟨rfl, hb1⟩
set_option maxRecDepth 100000 in
theorem limit_any (a0 a1 a2 a3 a4 a5 : Bool) (k : Int) (w : World) (ht : HRows w) :
    Calls Tryd.prog 23 #[.agg #[.bool a0, .bool a1, .bool a2, .bool a3, .bool a4, .bool a5], .int .i64 k] w fun e w' => e = .returned (.int .i64 (hLim a1 k)) ∧ Below w.heap.size w w' := by
  cases a1
  · have hb0 := bl_alloc (bl_refl w) (.cells #[.bool a0, .bool false, .bool a2, .bool a3, .bool a4, .bool a5] 23)
    have ht0 := ht.alloc (.cells #[.bool a0, .bool false, .bool a2, .bool a3, .bool a4, .bool a5] 23)
    have hf := hfld2 (hName k) (hLeast k) (hPlain k) (hExt k)
    go_enter Tryd.func23, Tryd.ntmps23
    go_wp2_with fail
    refine (find_any k _ ht0).mono ?_
    rintro e w1 ⟨rfl, hb1⟩
    have hb2 := bl_trans hb0 hb1
    go_wp2
    go_ret
    exact ⟨rfl, hb2⟩
  · have hb0 := bl_alloc (bl_refl w) (.cells #[.bool a0, .bool true, .bool a2, .bool a3, .bool a4, .bool a5] 23)
    have ht0 := ht.alloc (.cells #[.bool a0, .bool true, .bool a2, .bool a3, .bool a4, .bool a5] 23)
    have hf := hfld3 (hName k) (hLeast k) (hPlain k) (hExt k)
    go_enter Tryd.func23, Tryd.ntmps23
    go_wp2_with fail
    refine (find_any k _ ht0).mono ?_
    rintro e w1 ⟨rfl, hb1⟩
    have hb2 := bl_trans hb0 hb1
    go_wp2
    go_ret
    exact ⟨rfl, hb2⟩
set_option maxRecDepth 100000 in
theorem rleast_any (k : Int) (w : World) :
    Calls Tryd.prog 52 #[.int .i64 k] w fun e w' => e = .returned (.int .i64 (hLeast k)) ∧ w = w' := by
  rcases hKinds k with rfl | rfl | rfl | rfl | rfl | ⟨h1, h2, h3, h4, n1, n2, n3, n4, n5⟩
  · go_enter Tryd.func52, Tryd.ntmps52
    go_wp2
    go_ret
    exact ⟨rfl, rfl⟩
  · go_enter Tryd.func52, Tryd.ntmps52
    go_wp2
    go_ret
    exact ⟨rfl, rfl⟩
  · go_enter Tryd.func52, Tryd.ntmps52
    go_wp2
    go_ret
    exact ⟨rfl, rfl⟩
  · go_enter Tryd.func52, Tryd.ntmps52
    go_wp2
    go_ret
    exact ⟨rfl, rfl⟩
  · go_enter Tryd.func52, Tryd.ntmps52
    go_wp2
    go_ret
    exact ⟨rfl, rfl⟩
  · rw [h2]
    have e1 : (k == 1) = false := by simpa using n1
    have e2 : (k == 2) = false := by simpa using n2
    have e3 : (k == 3) = false := by simpa using n3
    have e4 : (k == 4) = false := by simpa using n4
    have e5 : (k == 5) = false := by simpa using n5
    clear h1 h2 h3 h4 n1 n2 n3 n4 n5
    go_enter Tryd.func52, Tryd.ntmps52
    go_wp2
    go_ret
    exact ⟨rfl, rfl⟩
set_option maxRecDepth 100000 in
theorem rlimit_any (a0 a1 a2 a3 a4 a5 : Bool) (k : Int) (w : World) :
    Calls Tryd.prog 53 #[.agg #[.bool a0, .bool a1, .bool a2, .bool a3, .bool a4, .bool a5], .int .i64 k] w fun e w' => e = .returned (.int .i64 (hLim a1 k)) ∧ Below w.heap.size w w' := by
  have hb0 := bl_alloc (bl_refl w) (.cells #[.bool a0, .bool a1, .bool a2, .bool a3, .bool a4, .bool a5] 23)
  rcases hKinds k with rfl | rfl | rfl | rfl | rfl | ⟨h1, h2, h3, h4, n1, n2, n3, n4, n5⟩
  · cases a1
    all_goals
      go_enter Tryd.func53, Tryd.ntmps53
      go_wp2
      go_ret
      exact ⟨rfl, hb0⟩
  · cases a1
    all_goals
      go_enter Tryd.func53, Tryd.ntmps53
      go_wp2
      go_ret
      exact ⟨rfl, hb0⟩
  · cases a1
    all_goals
      go_enter Tryd.func53, Tryd.ntmps53
      go_wp2
      go_ret
      exact ⟨rfl, hb0⟩
  · cases a1
    all_goals
      go_enter Tryd.func53, Tryd.ntmps53
      go_wp2
      go_ret
      exact ⟨rfl, hb0⟩
  · cases a1
    all_goals
      go_enter Tryd.func53, Tryd.ntmps53
      go_wp2
      go_ret
      exact ⟨rfl, hb0⟩
  · have hz : hLim a1 k = 0 := by unfold hLim; rw [h3, h4]; cases a1 <;> rfl
    rw [hz]
    have e1 : (k == 1) = false := by simpa using n1
    have e2 : (k == 2) = false := by simpa using n2
    have e3 : (k == 3) = false := by simpa using n3
    have e4 : (k == 4) = false := by simpa using n4
    have e5 : (k == 5) = false := by simpa using n5
    clear h1 h2 h3 h4 n1 n2 n3 n4 n5 hz
    go_enter Tryd.func53, Tryd.ntmps53
    go_wp2
    go_ret
    exact ⟨rfl, hb0⟩
/-- Whether messages of a kind may have a length. -/
def hAllow (x : Bool) (k n : Int) : Bool := decide (hLeast k ≤ n) && decide (n ≤ hLim x k)
set_option maxRecDepth 100000 in
theorem allows_any (a0 a1 a2 a3 a4 a5 : Bool) (k n : Int) (w : World) (ht : HRows w) :
    Calls Tryd.prog 38 #[.agg #[.bool a0, .bool a1, .bool a2, .bool a3, .bool a4, .bool a5], .int .i64 k, .int .i64 n] w fun e w' => e = .returned (.bool (hAllow a1 k n)) ∧ Below w.heap.size w w' := by
  have hb0 := bl_alloc (bl_refl w) (.cells #[.bool a0, .bool a1, .bool a2, .bool a3, .bool a4, .bool a5] 23)
  have ht0 := ht.alloc (.cells #[.bool a0, .bool a1, .bool a2, .bool a3, .bool a4, .bool a5] 23)
  have o0 := Own.new w 23 #[.bool a0, .bool a1, .bool a2, .bool a3, .bool a4, .bool a5]
  have HA := Lib.hid (show hAllow a1 k n = (decide (hLeast k ≤ n) && decide (n ≤ hLim a1 k)) from rfl)
  go_enter Tryd.func38, Tryd.ntmps38
  go_wp2_with fail
  refine (least_any k _ ht0).mono ?_
  rintro e w1 ⟨rfl, hb1⟩
  have hb2 := bl_trans hb0 hb1
  have o1 := o0.step hb1
  have ht1 := ht0.below hb1
  have c0 := o1.cell (i := 0) (v := .bool a0) rfl
  have c1 := o1.cell (i := 1) (v := .bool a1) rfl
  have c2 := o1.cell (i := 2) (v := .bool a2) rfl
  have c3 := o1.cell (i := 3) (v := .bool a3) rfl
  have c4 := o1.cell (i := 4) (v := .bool a4) rfl
  have c5 := o1.cell (i := 5) (v := .bool a5) rfl
  clear hb0 hb1 o0 o1 ht ht0
  by_cases hl : hLeast k ≤ n
  · have d0 : decide (hLeast k ≤ n) = true := by simpa using hl
    clear hl
    go_wp2_with fail
    refine (limit_any a0 a1 a2 a3 a4 a5 k _ ht1).mono ?_
    rintro e w2 ⟨rfl, hb3⟩
    have hb4 := bl_trans hb2 hb3
    go_wp2
    go_ret
    exact ⟨by rw [HA.out, d0]; rfl, hb4⟩
  · have d0 : decide (hLeast k ≤ n) = false := by simpa using hl
    clear hl
    go_wp2
    go_ret
    exact ⟨by rw [HA.out, d0]; rfl, hb2⟩
end Go.Proofs.YtgahjchngmojlabDoor

/- notice.Bytes, notice.Parse and their references -/
import Derived.Test.YtalmmddmdnkifaaDoorNtA
namespace Go.Proofs.YtalmmddmdnkifaaDoor
open Go.RowKit Go.Sort

def ntForm (c s : Int) (xs : List Int) : List Int := [c, s] ++ xs
theorem ntForm_len (c s : Int) (xs : List Int) : (ntForm c s xs).length = xs.length + 2 := by unfold ntForm; simp
set_option maxRecDepth 100000 in
theorem nt_desc : Tryd.prog.underlying 29 = some (.struct (Tryd.prog.fieldsOf 29)) := by kernel_rfl
set_option maxRecDepth 100000 in
theorem nt_info (a b c : Value) : (Tryd.prog.info? 29).map (·.size) = some (#[a, b, c] : Array Value).size := by kernel_rfl
set_option maxRecDepth 100000 in
theorem rnt_desc : Tryd.prog.underlying 24 = some (.struct (Tryd.prog.fieldsOf 24)) := by kernel_rfl
set_option maxRecDepth 100000 in
theorem rnt_info (a b c : Value) : (Tryd.prog.info? 24).map (·.size) = some (#[a, b, c] : Array Value).size := by kernel_rfl
theorem ntForm_range {c s : Int} {xs : List Int} (hc : 0 ≤ c ∧ c ≤ 255) (hs : 0 ≤ s ∧ s ≤ 255) (hx : ∀ x ∈ xs, 0 ≤ x ∧ x ≤ 255) : ∀ x ∈ ntForm c s xs, 0 ≤ x ∧ x ≤ 255 := by
  unfold ntForm
  intro x hm
  rcases List.mem_append.1 hm with h | h
  · simp at h
    rcases h with rfl | rfl
    · exact hc
    · exact hs
  · exact hx x h
set_option maxRecDepth 100000 in
theorem ntbytes_no (c s : Int) (A : Option Addr) (n cp : Nat) (w : World) (hk : ntOk c s n = false) :
    Calls Tryd.prog 23 #[.agg #[.int .i64 c, .int .i64 s, .slice A n cp]] w fun e w' => e = .returned (.tuple #[.slice none 0 0, .bool false]) ∧ Below w.heap.size w w' := by
  have hb0 := bl_alloc (bl_refl w) (.cells #[.int .i64 c, .int .i64 s, .slice A n cp] 29)
  have HK := Lib.hid hk
  clear hk
  go_enter Tryd.func23, Tryd.ntmps23
  go_wp2_with fail
  refine (ntvalid_any c s A n cp _).mono ?_
  rw [HK.out]
  rintro e w1 ⟨rfl, hb1⟩
  go_wp2
  go_ret2
  exact ⟨rfl, bl_trans hb0 hb1⟩
set_option maxRecDepth 100000 in
theorem rntbytes_no (c s : Int) (A : Option Addr) (n cp : Nat) (w : World) (hk : ntOk c s n = false) :
    Calls Tryd.prog 16 #[.agg #[.int .i64 c, .int .i64 s, .slice A n cp]] w fun e w' => e = .returned (.tuple #[.slice none 0 0, .bool false]) ∧ Below w.heap.size w w' := by
  have hb0 := bl_alloc (bl_refl w) (.cells #[.int .i64 c, .int .i64 s, .slice A n cp] 24)
  have HK := Lib.hid hk
  clear hk
  go_enter Tryd.func16, Tryd.ntmps16
  go_wp2_with fail
  refine (rntvalid_any c s A n cp _).mono ?_
  rw [HK.out]
  rintro e w1 ⟨rfl, hb1⟩
  go_wp2
  go_ret2
  exact ⟨rfl, bl_trans hb0 hb1⟩
set_option maxRecDepth 100000 in
set_option maxHeartbeats 800000 in
theorem ntbytes_yes (c s : Int) (A : Option Addr) (n cp : Nat) (xs : List Int) (w : World) (hx : Bytes w w.heap.size A n xs) (hk : ntOk c s n = true) :
    Calls Tryd.prog 23 #[.agg #[.int .i64 c, .int .i64 s, .slice A n cp]] w fun e w' => ∃ g, e = .returned (.tuple #[.slice (some ⟨g, 0, none⟩) (n + 2) (n + 2), .bool true]) ∧ w.heap.size ≤ g ∧ Own w' g 5 ((ntForm c s xs).map (Value.int .u8)).toArray ∧ Below w.heap.size w w' := by
  obtain ⟨⟨c0, c1⟩, ⟨s0, s1⟩, hn⟩ := ntOk_iff.1 hk
  have wc : IntKind.u8.wrap c = c := by rw [IntKind.wrap_u8']; omega
  have ws : IntKind.u8.wrap s = s := by rw [IntKind.wrap_u8']; omega
  have hb0 := bl_alloc (bl_refl w) (.cells #[.int .i64 c, .int .i64 s, .slice A n cp] 29)
  have o0 := Own.new w 29 #[.int .i64 c, .int .i64 s, .slice A n cp]
  have HK := Lib.hid hk
  have HX := Lib.hid hx
  clear hk hx
  go_enter Tryd.func23, Tryd.ntmps23
  go_wp2_with fail
  refine (ntvalid_any c s A n cp _).mono ?_
  rw [HK.out]
  rintro e w1 ⟨rfl, hb1⟩
  have o1 := o0.step hb1
  obtain ⟨d0, d1, d2⟩ := nt_cells o1
  have hlt := o1.lt
  have hb2 := bl_trans hb0 hb1
  have hba := bl_alloc (bl_alloc (bl_refl w1) (.cells #[.int .u8 c, .int .u8 s] 5)) (.cells #[.slice (some ⟨w1.heap.size, 0, none⟩) 2 2, .slice A n cp] 22)
  have hb3 := bl_trans hb2 hba
  have om := ((Own.new w1 5 #[.int .u8 c, .int .u8 s]).alloc (.cells #[.slice (some ⟨w1.heap.size, 0, none⟩) 2 2, .slice A n cp] 22))
  have b1 := Bytes.of_owned (xs := [c, s]) om (by intro x hx; simp at hx; omega) om.lt
  have b2 := (HX.out.below hb3).more hb3.size
  have hpt := parts_two (c1 := 2) (c2 := cp) (Own.new (w1.alloc (.cells #[.int .u8 c, .int .u8 s] 5)) 22 #[.slice (some ⟨w1.heap.size, 0, none⟩) 2 2, .slice A n cp]) b1 b2
  rw [show (w1.alloc (.cells #[.int .u8 c, .int .u8 s] 5)).heap.size = w1.heap.size + 1 by simp] at hpt
  have HF := Lib.hid (show flat [⟨some ⟨w1.heap.size, 0, none⟩, 2, 2, [c, s]⟩, ⟨A, n, cp, xs⟩] = ntForm c s xs by simp [flat, ntForm])
  have HL := Lib.hid (show (ntForm c s xs).length = n + 2 by rw [ntForm_len, ← HX.out.1])
  have hsg : w.heap.size ≤ w1.heap.size + 1 + 1 := by have := hb2.size; omega
  clear hb0 hb1 hba om b1 b2 o0
  go_wp2_with fail
  refine (cat_own (c := 2) hpt (by omega) (by rw [HF.out, HL.out]; omega)).mono ?_
  rw [HF.out, HL.out]
  rintro e w2 ⟨rfl, ho2, hb4⟩
  rw [show ((w1.alloc (.cells #[.int .u8 c, .int .u8 s] 5)).alloc (.cells #[.slice (some ⟨w1.heap.size, 0, none⟩) 2 2, .slice A n cp] 22)).heap.size = w1.heap.size + 1 + 1 by simp] at ho2
  have hb5 := bl_trans hb3 hb4
  go_wp2
  go_ret2
  exact ⟨_, rfl, hsg, ho2, hb5⟩
theorem row_two {w : World} {g base : Nat} {t : TypeId} {cs : List Value} {n : Nat} (h : Own w g t cs.toArray) (hn : cs.length = n) (hb : base ≤ g) (hm : n ≤ maxLen) : w.ownsRow base t 1 (.slice (some ⟨g, 0, none⟩) n n) n cs :=
  ⟨by rw [hn, Nat.mul_one], .inr ⟨g, n, cs.toArray, rfl, hb, h, Nat.le_refl _, hm, by simpa using hn, by rw [List.take_of_length_le (by simp; omega)]⟩⟩
set_option maxRecDepth 100000 in
set_option maxHeartbeats 800000 in
theorem rntbytes_yes (c s : Int) (A : Option Addr) (n cp : Nat) (xs : List Int) (w : World) (hx : Bytes w w.heap.size A n xs) (hk : ntOk c s n = true) :
    Calls Tryd.prog 16 #[.agg #[.int .i64 c, .int .i64 s, .slice A n cp]] w fun e w' => ∃ v, e = .returned (.tuple #[v, .bool true]) ∧ w'.ownsRow w.heap.size 5 1 v (n + 2) ((ntForm c s xs).map (Value.int .u8)) ∧ Below w.heap.size w w' := by
  obtain ⟨⟨c0, c1⟩, ⟨s0, s1⟩, hn⟩ := ntOk_iff.1 hk
  have wc : IntKind.u8.wrap c = c := by rw [IntKind.wrap_u8']; omega
  have ws : IntKind.u8.wrap s = s := by rw [IntKind.wrap_u8']; omega
  have hb0 := bl_alloc (bl_refl w) (.cells #[.int .i64 c, .int .i64 s, .slice A n cp] 24)
  have o0 := Own.new w 24 #[.int .i64 c, .int .i64 s, .slice A n cp]
  have HK := Lib.hid hk
  have HX := Lib.hid hx
  clear hk hx
  go_enter Tryd.func16, Tryd.ntmps16
  go_wp2_with fail
  refine (rntvalid_any c s A n cp _).mono ?_
  rw [HK.out]
  rintro e w1 ⟨rfl, hb1⟩
  have o1 := o0.step hb1
  obtain ⟨d0, d1, d2⟩ := nt_cells o1
  have hlt := o1.lt
  have hb2 := bl_trans hb0 hb1
  have hb3 := bl_alloc hb2 (.cells #[.int .u8 c, .int .u8 s] 5)
  have hrow := row_two (w := w1.alloc (.cells #[.int .u8 c, .int .u8 s] 5)) (base := w.heap.size) (cs := [.int .u8 c, .int .u8 s]) (n := 2) (Own.new w1 5 #[.int .u8 c, .int .u8 s]) rfl hb2.size (by decide)
  have hX2 := (HX.out.below hb3).2.2
  have HN := Lib.hid HX.out.1
  have HF := Lib.hid (show (ntForm c s xs).map (Value.int .u8) = [Value.int .u8 c, Value.int .u8 s] ++ xs.map (Value.int .u8) from rfl)
  clear hb0 hb1 o0
  go_wp2_with (at_builtin; refine wpList_append_grow _ rfl _ _ rfl sl_bytes w.heap.size _ 2 _ rfl hrow w.heap.size _ _ _ _ rfl (by have := HN.out; simp; omega) hX2 ints1 (by unfold maxLen; omega) (by omega) hb3.size ?_; intro v1 w2 hown1 hgrow1)
  have hb4 : Below w.heap.size w w2 := hb3.grown hgrow1 hb3.size (own_base hrow)
  go_ret2
  exact ⟨_, rfl, by rw [HF.out, Nat.add_comm n 2]; exact hown1, hb4⟩
end Go.Proofs.YtalmmddmdnkifaaDoor

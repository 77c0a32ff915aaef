/- peerageref05.Both, Valid, Width, Add; option.Valid, Width, MP, Add -/
import Derived.Test.YtaopinecidddkaaOpA
namespace Go.Proofs.Ytaopinecidddkaa
open Go.RowKit Go.Sort

set_option maxRecDepth 100000 in
theorem rlist_any (a0 a1 a2 a3 a4 a5 : Bool) (w : World) : Calls Try.prog 42 #[.agg #[.bool a0, .bool a1, .bool a2, .bool a3, .bool a4, .bool a5]] w fun e w' => ∃ g, e = .returned (.slice (some ⟨g, 0, none⟩) 6 6) ∧ w.heap.size ≤ g ∧ Own w' g 4 #[.bool a0, .bool a1, .bool a2, .bool a3, .bool a4, .bool a5] ∧ Below w.heap.size w w' := by
  have hb0 := bl_alloc (bl_alloc (bl_refl w) (.cells #[.bool a0, .bool a1, .bool a2, .bool a3, .bool a4, .bool a5] 43)) (.cells #[.bool a0, .bool a1, .bool a2, .bool a3, .bool a4, .bool a5] 4)
  have o := Own.new (w.alloc (.cells #[.bool a0, .bool a1, .bool a2, .bool a3, .bool a4, .bool a5] 43)) 4 #[.bool a0, .bool a1, .bool a2, .bool a3, .bool a4, .bool a5]
  rw [show (w.alloc (.cells #[.bool a0, .bool a1, .bool a2, .bool a3, .bool a4, .bool a5] 43)).heap.size = w.heap.size + 1 by simp] at o
  go_enter Try.func42, Try.ntmps42
  go_wp2
  go_ret
  exact ⟨_, rfl, by omega, o, hb0⟩
theorem op_oneR (a b c d e f : Bool) : (#[Value.bool a, .bool b, .bool c, .bool d, .bool e, .bool f] : Array Value).all (·.oneCell') = true := by simp [Value.oneCell']
set_option maxRecDepth 100000 in
set_option maxHeartbeats 800000 in
theorem rof5_any (g : Nat) (a0 a1 a2 a3 a4 a5 : Bool) (w : World) (h : Own w g 4 #[.bool a0, .bool a1, .bool a2, .bool a3, .bool a4, .bool a5]) : Calls Try.prog 43 #[.slice (some ⟨g, 0, none⟩) 6 6] w fun e w' => e = .returned (.agg #[.bool a0, .bool a1, .bool a2, .bool a3, .bool a4, .bool a5]) ∧ Below w.heap.size w w' := by
  have oz := Own.new w 43 #[.bool false, .bool false, .bool false, .bool false, .bool false, .bool false]
  have hb0 := bl_alloc (bl_refl w) (.cells #[.bool false, .bool false, .bool false, .bool false, .bool false, .bool false] 43)
  have ho := h.alloc (.cells #[.bool false, .bool false, .bool false, .bool false, .bool false, .bool false] 43)
  obtain ⟨c0, c1, c2, c3, c4, c5⟩ : (w.alloc (.cells #[.bool false, .bool false, .bool false, .bool false, .bool false, .bool false] 43)).cell? ⟨g, 0, none⟩ = some (.bool a0) ∧ (w.alloc (.cells #[.bool false, .bool false, .bool false, .bool false, .bool false, .bool false] 43)).cell? ⟨g, 1, none⟩ = some (.bool a1) ∧ (w.alloc (.cells #[.bool false, .bool false, .bool false, .bool false, .bool false, .bool false] 43)).cell? ⟨g, 2, none⟩ = some (.bool a2) ∧ (w.alloc (.cells #[.bool false, .bool false, .bool false, .bool false, .bool false, .bool false] 43)).cell? ⟨g, 3, none⟩ = some (.bool a3) ∧ (w.alloc (.cells #[.bool false, .bool false, .bool false, .bool false, .bool false, .bool false] 43)).cell? ⟨g, 4, none⟩ = some (.bool a4) ∧ (w.alloc (.cells #[.bool false, .bool false, .bool false, .bool false, .bool false, .bool false] 43)).cell? ⟨g, 5, none⟩ = some (.bool a5) := ⟨ho.cell (i := 0) rfl, ho.cell (i := 1) rfl, ho.cell (i := 2) rfl, ho.cell (i := 3) rfl, ho.cell (i := 4) rfl, ho.cell (i := 5) rfl⟩
  go_enter Try.func43, Try.ntmps43
  go_wp2_with fail
  generalize w.alloc (.cells #[.bool false, .bool false, .bool false, .bool false, .bool false, .bool false] 43) = W at *
  refine wp_region_still_tail 19 (by kernel_rfl) (by kernel_rfl) ?_
  simp only [List.take_succ_cons, List.take_zero, List.drop_succ_cons, List.drop_zero]
  repeat still_step
  refine wpStill_nil ?_
  change wpList _ _ _ _ _ W.drew
  have oD := oz.drew
  have hbD := hb0.drew
  generalize W.drew = X at *
  go_wp2_with (refine wpList_store_row rfl 43 _ _ rfl w.heap.size #[.bool a0, .bool a1, .bool a2, .bool a3, .bool a4, .bool a5] rfl rfl 43 #[.bool false, .bool false, .bool false, .bool false, .bool false, .bool false] oD (op_info _ _ _ _ _ _) rfl (op_oneR _ _ _ _ _ _) ?_)
  exact bodyPost_ret (results_cell1 (p := 2) (fn := Try.f43) rfl _ _ w.heap.size 43 #[.bool a0, .bool a1, .bool a2, .bool a3, .bool a4, .bool a5] _ rfl oD.setRow op_desc rfl (op_info _ _ _ _ _ _)) rfl ⟨rfl, bl_setRow hbD (Nat.le_refl _)⟩
def mixB (a0 a1 a2 a3 a4 a5 b0 b1 b2 b3 b4 b5 : Bool) : Nat → Array Value
  | 0 => #[.bool a0, .bool a1, .bool a2, .bool a3, .bool a4, .bool a5]
  | 1 => #[.bool (a0 && b0), .bool a1, .bool a2, .bool a3, .bool a4, .bool a5]
  | 2 => #[.bool (a0 && b0), .bool (a1 && b1), .bool a2, .bool a3, .bool a4, .bool a5]
  | 3 => #[.bool (a0 && b0), .bool (a1 && b1), .bool (a2 && b2), .bool a3, .bool a4, .bool a5]
  | 4 => #[.bool (a0 && b0), .bool (a1 && b1), .bool (a2 && b2), .bool (a3 && b3), .bool a4, .bool a5]
  | 5 => #[.bool (a0 && b0), .bool (a1 && b1), .bool (a2 && b2), .bool (a3 && b3), .bool (a4 && b4), .bool a5]
  | _ => #[.bool (a0 && b0), .bool (a1 && b1), .bool (a2 && b2), .bool (a3 && b3), .bool (a4 && b4), .bool (a5 && b5)]
theorem set_mix {w : World} {g : Nat} {T : TypeId} {cs ds : Array Value} {i : Nat} {v : Value} (h : Own w g T cs) (e : cs.setIfInBounds i v = ds) : Own (w.setCell ⟨g, i, none⟩ v) g T ds := by
  rw [← e]
  exact h.set_ i v
def bothW (a0 a1 a2 a3 a4 a5 b0 b1 b2 b3 b4 b5 : Bool) : Array Value := #[.bool (a0 && b0), .bool (a1 && b1), .bool (a2 && b2), .bool (a3 && b3), .bool (a4 && b4), .bool ((a5 && b5) && (a3 && b3))]
set_option maxRecDepth 100000 in
set_option maxHeartbeats 6400000 in
theorem roboth_any (a0 a1 a2 a3 a4 a5 b0 b1 b2 b3 b4 b5 : Bool) (w : World) :
    Calls Try.prog 29 #[.agg #[.bool a0, .bool a1, .bool a2, .bool a3, .bool a4, .bool a5], .agg #[.bool b0, .bool b1, .bool b2, .bool b3, .bool b4, .bool b5]] w fun e w' => e = .returned (.agg (bothW a0 a1 a2 a3 a4 a5 b0 b1 b2 b3 b4 b5)) ∧ Below w.heap.size w w' := by
  have oz := Own.new ((w.alloc (.cells #[.bool a0, .bool a1, .bool a2, .bool a3, .bool a4, .bool a5] 43)).alloc (.cells #[.bool b0, .bool b1, .bool b2, .bool b3, .bool b4, .bool b5] 43)) 43 #[.bool false, .bool false, .bool false, .bool false, .bool false, .bool false]
  rw [show ((w.alloc (.cells #[.bool a0, .bool a1, .bool a2, .bool a3, .bool a4, .bool a5] 43)).alloc (.cells #[.bool b0, .bool b1, .bool b2, .bool b3, .bool b4, .bool b5] 43)).heap.size = w.heap.size + 1 + 1 by simp] at oz
  have hb0 := bl_alloc (bl_alloc (bl_alloc (bl_refl w) (.cells #[.bool a0, .bool a1, .bool a2, .bool a3, .bool a4, .bool a5] 43)) (.cells #[.bool b0, .bool b1, .bool b2, .bool b3, .bool b4, .bool b5] 43)) (.cells #[.bool false, .bool false, .bool false, .bool false, .bool false, .bool false] 43)
  have ob := (Own.new (w.alloc (.cells #[.bool a0, .bool a1, .bool a2, .bool a3, .bool a4, .bool a5] 43)) 43 #[.bool b0, .bool b1, .bool b2, .bool b3, .bool b4, .bool b5]).alloc (.cells #[.bool false, .bool false, .bool false, .bool false, .bool false, .bool false] 43)
  rw [show (w.alloc (.cells #[.bool a0, .bool a1, .bool a2, .bool a3, .bool a4, .bool a5] 43)).heap.size = w.heap.size + 1 by simp] at ob
  go_enter Try.func29, Try.ntmps29
  go_wp2_with fail
  refine (rlist_any a0 a1 a2 a3 a4 a5 _).mono ?_
  rintro e w1 ⟨gx, rfl, hgx, ox, hb1⟩
  have hgx1 : w.heap.size + 1 + 1 < gx := by have := oz.lt; omega
  have oz1 := oz.step hb1
  have ob1 := ob.step hb1
  have hb2 := bl_trans hb0 hb1
  clear oz ob hb0 hb1
  obtain ⟨d0, d1, d2, d3, d4, d5⟩ : w1.cell? ⟨w.heap.size + 1, 0, none⟩ = some (.bool b0) ∧ w1.cell? ⟨w.heap.size + 1, 1, none⟩ = some (.bool b1) ∧ w1.cell? ⟨w.heap.size + 1, 2, none⟩ = some (.bool b2) ∧ w1.cell? ⟨w.heap.size + 1, 3, none⟩ = some (.bool b3) ∧ w1.cell? ⟨w.heap.size + 1, 4, none⟩ = some (.bool b4) ∧ w1.cell? ⟨w.heap.size + 1, 5, none⟩ = some (.bool b5) := ⟨ob1.cell (i := 0) rfl, ob1.cell (i := 1) rfl, ob1.cell (i := 2) rfl, ob1.cell (i := 3) rfl, ob1.cell (i := 4) rfl, ob1.cell (i := 5) rfl⟩
  go_wp2_with fail
  refine (rlist_any b0 b1 b2 b3 b4 b5 _).mono ?_
  rintro e w2 ⟨gy, rfl, hgy, oy, hb3⟩
  have hne : gy ≠ gx := by have := ox.lt; omega
  have oz2 := oz1.step hb3
  have ox2 := ox.step hb3
  have hb4 := bl_trans hb2 hb3
  clear oz1 ob1 hb2 hb3 ox d0 d1 d2 d3 d4 d5 hgy
  go_wp2_with fail
  go_loopw [7] (fun i wr => ∃ k : Nat, k ≤ 6 ∧ i = .int .i64 k ∧ Own wr gx 4 (mixB a0 a1 a2 a3 a4 a5 b0 b1 b2 b3 b4 b5 k) ∧ Own wr gy 4 #[.bool b0, .bool b1, .bool b2, .bool b3, .bool b4, .bool b5] ∧ Own wr (w.heap.size + 1 + 1) 43 #[.bool false, .bool false, .bool false, .bool false, .bool false, .bool false] ∧ Below w.heap.size w wr) (fun i _ => 6 - (intOf i).toNat)
  case atStart => exact ⟨0, by omega, rfl, ox2, oy, oz2, hb4⟩
  case round =>
    obtain ⟨k, hk, rfl, qx, qy, qz, hbr⟩ := hrel
    clear ox2 oy oz2 hb4
    have hk6 : k = 0 ∨ k = 1 ∨ k = 2 ∨ k = 3 ∨ k = 4 ∨ k = 5 ∨ k = 6 := by omega
    rcases hk6 with rfl | rfl | rfl | rfl | rfl | rfl | rfl
    · by_cases hb : a0 = true
      · have HB := Lib.hid (show a0 = true by simpa using hb)
        clear hb
        have hc : wr.cell? ⟨gx, 0, none⟩ = some (.bool true) := by have := qx.cell (i := 0) (v := .bool a0) rfl; rw [HB.out] at this; exact this
        have hy : wr.cell? ⟨gy, 0, none⟩ = some (.bool b0) := qy.cell (i := 0) (v := .bool b0) rfl
        have hF := qx.frozen 0
        go_wp2
        go_roundw
        case rel => exact ⟨1, by omega, by go_num, set_mix qx (by rw [show (.bool b0 : Value) = .bool (a0 && b0) by rw [HB.out]; rfl]; rfl), qy.far hne _, qz.far (by show w.heap.size + 1 + 1 ≠ gx; omega) _, hbr.setCell (by show w.heap.size ≤ gx; omega) _⟩
        case measure => simp [intOf]
      · have HB := Lib.hid (show a0 = false by simpa using hb)
        clear hb
        have hc : wr.cell? ⟨gx, 0, none⟩ = some (.bool false) := by have := qx.cell (i := 0) (v := .bool a0) rfl; rw [HB.out] at this; exact this
        have hy : wr.cell? ⟨gy, 0, none⟩ = some (.bool b0) := qy.cell (i := 0) (v := .bool b0) rfl
        have hF := qx.frozen 0
        go_wp2
        go_roundw
        case rel => exact ⟨1, by omega, by go_num, set_mix qx (by rw [show (.bool false : Value) = .bool (a0 && b0) by rw [HB.out]; rfl]; rfl), qy.far hne _, qz.far (by show w.heap.size + 1 + 1 ≠ gx; omega) _, hbr.setCell (by show w.heap.size ≤ gx; omega) _⟩
        case measure => simp [intOf]
    · by_cases hb : a1 = true
      · have HB := Lib.hid (show a1 = true by simpa using hb)
        clear hb
        have hc : wr.cell? ⟨gx, 1, none⟩ = some (.bool true) := by have := qx.cell (i := 1) (v := .bool a1) rfl; rw [HB.out] at this; exact this
        have hy : wr.cell? ⟨gy, 1, none⟩ = some (.bool b1) := qy.cell (i := 1) (v := .bool b1) rfl
        have hF := qx.frozen 1
        go_wp2
        go_roundw
        case rel => exact ⟨2, by omega, by go_num, set_mix qx (by rw [show (.bool b1 : Value) = .bool (a1 && b1) by rw [HB.out]; rfl]; rfl), qy.far hne _, qz.far (by show w.heap.size + 1 + 1 ≠ gx; omega) _, hbr.setCell (by show w.heap.size ≤ gx; omega) _⟩
        case measure => simp [intOf]
      · have HB := Lib.hid (show a1 = false by simpa using hb)
        clear hb
        have hc : wr.cell? ⟨gx, 1, none⟩ = some (.bool false) := by have := qx.cell (i := 1) (v := .bool a1) rfl; rw [HB.out] at this; exact this
        have hy : wr.cell? ⟨gy, 1, none⟩ = some (.bool b1) := qy.cell (i := 1) (v := .bool b1) rfl
        have hF := qx.frozen 1
        go_wp2
        go_roundw
        case rel => exact ⟨2, by omega, by go_num, set_mix qx (by rw [show (.bool false : Value) = .bool (a1 && b1) by rw [HB.out]; rfl]; rfl), qy.far hne _, qz.far (by show w.heap.size + 1 + 1 ≠ gx; omega) _, hbr.setCell (by show w.heap.size ≤ gx; omega) _⟩
        case measure => simp [intOf]
    · by_cases hb : a2 = true
      · have HB := Lib.hid (show a2 = true by simpa using hb)
        clear hb
        have hc : wr.cell? ⟨gx, 2, none⟩ = some (.bool true) := by have := qx.cell (i := 2) (v := .bool a2) rfl; rw [HB.out] at this; exact this
        have hy : wr.cell? ⟨gy, 2, none⟩ = some (.bool b2) := qy.cell (i := 2) (v := .bool b2) rfl
        have hF := qx.frozen 2
        go_wp2
        go_roundw
        case rel => exact ⟨3, by omega, by go_num, set_mix qx (by rw [show (.bool b2 : Value) = .bool (a2 && b2) by rw [HB.out]; rfl]; rfl), qy.far hne _, qz.far (by show w.heap.size + 1 + 1 ≠ gx; omega) _, hbr.setCell (by show w.heap.size ≤ gx; omega) _⟩
        case measure => simp [intOf]
      · have HB := Lib.hid (show a2 = false by simpa using hb)
        clear hb
        have hc : wr.cell? ⟨gx, 2, none⟩ = some (.bool false) := by have := qx.cell (i := 2) (v := .bool a2) rfl; rw [HB.out] at this; exact this
        have hy : wr.cell? ⟨gy, 2, none⟩ = some (.bool b2) := qy.cell (i := 2) (v := .bool b2) rfl
        have hF := qx.frozen 2
        go_wp2
        go_roundw
        case rel => exact ⟨3, by omega, by go_num, set_mix qx (by rw [show (.bool false : Value) = .bool (a2 && b2) by rw [HB.out]; rfl]; rfl), qy.far hne _, qz.far (by show w.heap.size + 1 + 1 ≠ gx; omega) _, hbr.setCell (by show w.heap.size ≤ gx; omega) _⟩
        case measure => simp [intOf]
    · by_cases hb : a3 = true
      · have HB := Lib.hid (show a3 = true by simpa using hb)
        clear hb
        have hc : wr.cell? ⟨gx, 3, none⟩ = some (.bool true) := by have := qx.cell (i := 3) (v := .bool a3) rfl; rw [HB.out] at this; exact this
        have hy : wr.cell? ⟨gy, 3, none⟩ = some (.bool b3) := qy.cell (i := 3) (v := .bool b3) rfl
        have hF := qx.frozen 3
        go_wp2
        go_roundw
        case rel => exact ⟨4, by omega, by go_num, set_mix qx (by rw [show (.bool b3 : Value) = .bool (a3 && b3) by rw [HB.out]; rfl]; rfl), qy.far hne _, qz.far (by show w.heap.size + 1 + 1 ≠ gx; omega) _, hbr.setCell (by show w.heap.size ≤ gx; omega) _⟩
        case measure => simp [intOf]
      · have HB := Lib.hid (show a3 = false by simpa using hb)
        clear hb
        have hc : wr.cell? ⟨gx, 3, none⟩ = some (.bool false) := by have := qx.cell (i := 3) (v := .bool a3) rfl; rw [HB.out] at this; exact this
        have hy : wr.cell? ⟨gy, 3, none⟩ = some (.bool b3) := qy.cell (i := 3) (v := .bool b3) rfl
        have hF := qx.frozen 3
        go_wp2
        go_roundw
        case rel => exact ⟨4, by omega, by go_num, set_mix qx (by rw [show (.bool false : Value) = .bool (a3 && b3) by rw [HB.out]; rfl]; rfl), qy.far hne _, qz.far (by show w.heap.size + 1 + 1 ≠ gx; omega) _, hbr.setCell (by show w.heap.size ≤ gx; omega) _⟩
        case measure => simp [intOf]
    · by_cases hb : a4 = true
      · have HB := Lib.hid (show a4 = true by simpa using hb)
        clear hb
        have hc : wr.cell? ⟨gx, 4, none⟩ = some (.bool true) := by have := qx.cell (i := 4) (v := .bool a4) rfl; rw [HB.out] at this; exact this
        have hy : wr.cell? ⟨gy, 4, none⟩ = some (.bool b4) := qy.cell (i := 4) (v := .bool b4) rfl
        have hF := qx.frozen 4
        go_wp2
        go_roundw
        case rel => exact ⟨5, by omega, by go_num, set_mix qx (by rw [show (.bool b4 : Value) = .bool (a4 && b4) by rw [HB.out]; rfl]; rfl), qy.far hne _, qz.far (by show w.heap.size + 1 + 1 ≠ gx; omega) _, hbr.setCell (by show w.heap.size ≤ gx; omega) _⟩
        case measure => simp [intOf]
      · have HB := Lib.hid (show a4 = false by simpa using hb)
        clear hb
        have hc : wr.cell? ⟨gx, 4, none⟩ = some (.bool false) := by have := qx.cell (i := 4) (v := .bool a4) rfl; rw [HB.out] at this; exact this
        have hy : wr.cell? ⟨gy, 4, none⟩ = some (.bool b4) := qy.cell (i := 4) (v := .bool b4) rfl
        have hF := qx.frozen 4
        go_wp2
        go_roundw
        case rel => exact ⟨5, by omega, by go_num, set_mix qx (by rw [show (.bool false : Value) = .bool (a4 && b4) by rw [HB.out]; rfl]; rfl), qy.far hne _, qz.far (by show w.heap.size + 1 + 1 ≠ gx; omega) _, hbr.setCell (by show w.heap.size ≤ gx; omega) _⟩
        case measure => simp [intOf]
    · by_cases hb : a5 = true
      · have HB := Lib.hid (show a5 = true by simpa using hb)
        clear hb
        have hc : wr.cell? ⟨gx, 5, none⟩ = some (.bool true) := by have := qx.cell (i := 5) (v := .bool a5) rfl; rw [HB.out] at this; exact this
        have hy : wr.cell? ⟨gy, 5, none⟩ = some (.bool b5) := qy.cell (i := 5) (v := .bool b5) rfl
        have hF := qx.frozen 5
        go_wp2
        go_roundw
        case rel => exact ⟨6, by omega, by go_num, set_mix qx (by rw [show (.bool b5 : Value) = .bool (a5 && b5) by rw [HB.out]; rfl]; rfl), qy.far hne _, qz.far (by show w.heap.size + 1 + 1 ≠ gx; omega) _, hbr.setCell (by show w.heap.size ≤ gx; omega) _⟩
        case measure => simp [intOf]
      · have HB := Lib.hid (show a5 = false by simpa using hb)
        clear hb
        have hc : wr.cell? ⟨gx, 5, none⟩ = some (.bool false) := by have := qx.cell (i := 5) (v := .bool a5) rfl; rw [HB.out] at this; exact this
        have hy : wr.cell? ⟨gy, 5, none⟩ = some (.bool b5) := qy.cell (i := 5) (v := .bool b5) rfl
        have hF := qx.frozen 5
        go_wp2
        go_roundw
        case rel => exact ⟨6, by omega, by go_num, set_mix qx (by rw [show (.bool false : Value) = .bool (a5 && b5) by rw [HB.out]; rfl]; rfl), qy.far hne _, qz.far (by show w.heap.size + 1 + 1 ≠ gx; omega) _, hbr.setCell (by show w.heap.size ≤ gx; omega) _⟩
        case measure => simp [intOf]
    · obtain ⟨c0, c1, c2, c3, c4, c5⟩ : wr.cell? ⟨gx, 0, none⟩ = some (.bool (a0 && b0)) ∧ wr.cell? ⟨gx, 1, none⟩ = some (.bool (a1 && b1)) ∧ wr.cell? ⟨gx, 2, none⟩ = some (.bool (a2 && b2)) ∧ wr.cell? ⟨gx, 3, none⟩ = some (.bool (a3 && b3)) ∧ wr.cell? ⟨gx, 4, none⟩ = some (.bool (a4 && b4)) ∧ wr.cell? ⟨gx, 5, none⟩ = some (.bool (a5 && b5)) := ⟨qx.cell (i := 0) rfl, qx.cell (i := 1) rfl, qx.cell (i := 2) rfl, qx.cell (i := 3) rfl, qx.cell (i := 4) rfl, qx.cell (i := 5) rfl⟩
      have hF := qx.frozen 5
      by_cases hb : (a5 && b5) = true
      · have HB := Lib.hid (show (a5 && b5) = true by simpa using hb)
        rw [HB.out] at c5
        have qx5 : Own (wr.setCell ⟨gx, 5, none⟩ (.bool (a3 && b3))) gx 4 #[.bool (a0 && b0), .bool (a1 && b1), .bool (a2 && b2), .bool (a3 && b3), .bool (a4 && b4), .bool ((a5 && b5) && (a3 && b3))] := set_mix qx (by rw [HB.out]; simp only [Bool.true_and]; rfl)
        have qz5 := qz.far (p := ⟨gx, 5, none⟩) (by show w.heap.size + 1 + 1 ≠ gx; omega) (.bool (a3 && b3))
        have hb5 := hbr.setCell (p := ⟨gx, 5, none⟩) (by show w.heap.size ≤ gx; omega) (.bool (a3 && b3))
        clear hb
        have HW := Lib.hid (show bothW a0 a1 a2 a3 a4 a5 b0 b1 b2 b3 b4 b5 = #[.bool (a0 && b0), .bool (a1 && b1), .bool (a2 && b2), .bool (a3 && b3), .bool (a4 && b4), .bool ((a5 && b5) && (a3 && b3))] from rfl)
        generalize (a0 && b0) = v0 at *
        generalize (a1 && b1) = v1 at *
        generalize (a2 && b2) = v2 at *
        generalize (a3 && b3) = v3 at *
        generalize (a4 && b4) = v4 at *
        generalize ((a5 && b5) && v3) = v6 at *
        go_wp2_with fail
        refine (rof5_any gx v0 v1 v2 v3 v4 v6 _ qx5).mono ?_
        rintro e w3 ⟨rfl, hb6⟩
        have qz6 := qz5.step hb6
        have hb7 := bl_trans hb5 hb6
        go_wp2_with (refine wpList_store_row rfl 43 _ _ rfl (w.heap.size + 1 + 1) #[.bool v0, .bool v1, .bool v2, .bool v3, .bool v4, .bool v6] rfl rfl 43 #[.bool false, .bool false, .bool false, .bool false, .bool false, .bool false] qz6 (op_info _ _ _ _ _ _) rfl (op_oneR _ _ _ _ _ _) ?_)
        exact bodyPost_ret (results_cell1 (p := 4) (fn := Try.f29) rfl _ _ (w.heap.size + 1 + 1) 43 #[.bool v0, .bool v1, .bool v2, .bool v3, .bool v4, .bool v6] _ rfl qz6.setRow op_desc rfl (op_info _ _ _ _ _ _)) rfl ⟨by rw [HW.out], bl_setRow hb7 (by omega)⟩
      · have HB := Lib.hid (show (a5 && b5) = false by simpa using hb)
        rw [HB.out] at c5
        have qx5 : Own (wr.setCell ⟨gx, 5, none⟩ (.bool false)) gx 4 #[.bool (a0 && b0), .bool (a1 && b1), .bool (a2 && b2), .bool (a3 && b3), .bool (a4 && b4), .bool ((a5 && b5) && (a3 && b3))] := set_mix qx (by rw [HB.out]; simp only [Bool.false_and]; rfl)
        have qz5 := qz.far (p := ⟨gx, 5, none⟩) (by show w.heap.size + 1 + 1 ≠ gx; omega) (.bool false)
        have hb5 := hbr.setCell (p := ⟨gx, 5, none⟩) (by show w.heap.size ≤ gx; omega) (.bool false)
        clear hb
        have HW := Lib.hid (show bothW a0 a1 a2 a3 a4 a5 b0 b1 b2 b3 b4 b5 = #[.bool (a0 && b0), .bool (a1 && b1), .bool (a2 && b2), .bool (a3 && b3), .bool (a4 && b4), .bool ((a5 && b5) && (a3 && b3))] from rfl)
        generalize (a0 && b0) = v0 at *
        generalize (a1 && b1) = v1 at *
        generalize (a2 && b2) = v2 at *
        generalize (a3 && b3) = v3 at *
        generalize (a4 && b4) = v4 at *
        generalize ((a5 && b5) && v3) = v6 at *
        go_wp2_with fail
        refine (rof5_any gx v0 v1 v2 v3 v4 v6 _ qx5).mono ?_
        rintro e w3 ⟨rfl, hb6⟩
        have qz6 := qz5.step hb6
        have hb7 := bl_trans hb5 hb6
        go_wp2_with (refine wpList_store_row rfl 43 _ _ rfl (w.heap.size + 1 + 1) #[.bool v0, .bool v1, .bool v2, .bool v3, .bool v4, .bool v6] rfl rfl 43 #[.bool false, .bool false, .bool false, .bool false, .bool false, .bool false] qz6 (op_info _ _ _ _ _ _) rfl (op_oneR _ _ _ _ _ _) ?_)
        exact bodyPost_ret (results_cell1 (p := 4) (fn := Try.f29) rfl _ _ (w.heap.size + 1 + 1) 43 #[.bool v0, .bool v1, .bool v2, .bool v3, .bool v4, .bool v6] _ rfl qz6.setRow op_desc rfl (op_info _ _ _ _ _ _)) rfl ⟨by rw [HW.out], bl_setRow hb7 (by omega)⟩
set_option maxRecDepth 100000 in
theorem ovalid_any (a0 a1 a2 a3 a4 a5 : Bool) (w : World) : Calls Try.prog 30 #[.agg #[.bool a0, .bool a1, .bool a2, .bool a3, .bool a4, .bool a5]] w fun e w' => e = .returned (.bool (a3 || !a5)) ∧ Below w.heap.size w w' := by
  have hb0 := bl_alloc (bl_refl w) (.cells #[.bool a0, .bool a1, .bool a2, .bool a3, .bool a4, .bool a5] 43)
  cases a3
  all_goals
    go_enter Try.func30, Try.ntmps30
    go_wp2
    go_ret
    exact ⟨by simp, hb0⟩
set_option maxRecDepth 100000 in
theorem rovalid_any (a0 a1 a2 a3 a4 a5 : Bool) (w : World) : Calls Try.prog 31 #[.agg #[.bool a0, .bool a1, .bool a2, .bool a3, .bool a4, .bool a5]] w fun e w' => e = .returned (.bool (a3 || !a5)) ∧ Below w.heap.size w w' := by
  have hb0 := bl_alloc (bl_refl w) (.cells #[.bool a0, .bool a1, .bool a2, .bool a3, .bool a4, .bool a5] 43)
  cases a3
  all_goals
    go_enter Try.func31, Try.ntmps31
    go_wp2
    go_ret
    exact ⟨by simp, hb0⟩
set_option maxRecDepth 100000 in
theorem owidth_any (a0 a1 a2 a3 a4 a5 : Bool) (w : World) : Calls Try.prog 24 #[.agg #[.bool a0, .bool a1, .bool a2, .bool a3, .bool a4, .bool a5]] w fun e w' => e = .returned (.int .i64 (if a0 then 4 else 2)) ∧ Below w.heap.size w w' := by
  have hb0 := bl_alloc (bl_refl w) (.cells #[.bool a0, .bool a1, .bool a2, .bool a3, .bool a4, .bool a5] 43)
  cases a0
  all_goals
    go_enter Try.func24, Try.ntmps24
    go_wp2
    go_ret
    exact ⟨rfl, hb0⟩
set_option maxRecDepth 100000 in
theorem rowidth_any (a0 a1 a2 a3 a4 a5 : Bool) (w : World) : Calls Try.prog 25 #[.agg #[.bool a0, .bool a1, .bool a2, .bool a3, .bool a4, .bool a5]] w fun e w' => e = .returned (.int .i64 (if a0 then 4 else 2)) ∧ Below w.heap.size w w' := by
  have hb0 := bl_alloc (bl_refl w) (.cells #[.bool a0, .bool a1, .bool a2, .bool a3, .bool a4, .bool a5] 43)
  cases a0
  all_goals
    go_enter Try.func25, Try.ntmps25
    go_wp2
    go_ret
    exact ⟨rfl, hb0⟩
set_option maxRecDepth 100000 in
theorem ompA_any (a0 a1 a2 a3 a4 a5 : Bool) (f : Int) (w : World) : Calls Try.prog 21 #[.agg #[.bool a0, .bool a1, .bool a2, .bool a3, .bool a4, .bool a5], .int .i64 f] w fun e w' => e = .returned (.bool (decide (f = 1) && a2 || decide (f = 2) && a3)) ∧ Below w.heap.size w w' := by
  have hb0 := bl_alloc (bl_refl w) (.cells #[.bool a0, .bool a1, .bool a2, .bool a3, .bool a4, .bool a5] 43)
  have o0 := Own.new w 43 #[.bool a0, .bool a1, .bool a2, .bool a3, .bool a4, .bool a5]
  by_cases h1 : f = 1
  · subst h1
    cases a2
    all_goals
      go_enter Try.func21, Try.ntmps21
      go_wp2
      go_ret
      exact ⟨by simp, hb0⟩
  · by_cases h2 : f = 2
    · subst h2
      go_enter Try.func21, Try.ntmps21
      go_wp2
      go_ret
      exact ⟨by simp, hb0⟩
    · have q1 : (f == 1) = false := by simpa using h1
      have q2 : (f == 2) = false := by simpa using h2
      have HD := Lib.hid (show (decide (f = 1) && a2 || decide (f = 2) && a3) = false by simp [h1, h2])
      clear h1 h2
      go_enter Try.func21, Try.ntmps21
      go_wp2
      go_ret
      exact ⟨by rw [HD.out]; rfl, hb0⟩
set_option maxRecDepth 100000 in
theorem oaddA_any (a0 a1 a2 a3 a4 a5 : Bool) (f : Int) (w : World) : Calls Try.prog 22 #[.agg #[.bool a0, .bool a1, .bool a2, .bool a3, .bool a4, .bool a5], .int .i64 f] w fun e w' => e = .returned (.bool (decide (f = 1) && a4 || decide (f = 2) && a5)) ∧ Below w.heap.size w w' := by
  have hb0 := bl_alloc (bl_refl w) (.cells #[.bool a0, .bool a1, .bool a2, .bool a3, .bool a4, .bool a5] 43)
  have o0 := Own.new w 43 #[.bool a0, .bool a1, .bool a2, .bool a3, .bool a4, .bool a5]
  by_cases h1 : f = 1
  · subst h1
    cases a4
    all_goals
      go_enter Try.func22, Try.ntmps22
      go_wp2
      go_ret
      exact ⟨by simp, hb0⟩
  · by_cases h2 : f = 2
    · subst h2
      go_enter Try.func22, Try.ntmps22
      go_wp2
      go_ret
      exact ⟨by simp, hb0⟩
    · have q1 : (f == 1) = false := by simpa using h1
      have q2 : (f == 2) = false := by simpa using h2
      have HD := Lib.hid (show (decide (f = 1) && a4 || decide (f = 2) && a5) = false by simp [h1, h2])
      clear h1 h2
      go_enter Try.func22, Try.ntmps22
      go_wp2
      go_ret
      exact ⟨by rw [HD.out]; rfl, hb0⟩
set_option maxRecDepth 100000 in
theorem rompA_any (a0 a1 a2 a3 a4 a5 : Bool) (f : Int) (w : World) : Calls Try.prog 19 #[.agg #[.bool a0, .bool a1, .bool a2, .bool a3, .bool a4, .bool a5], .int .i64 f] w fun e w' => e = .returned (.bool (decide (f = 1) && a2 || decide (f = 2) && a3)) ∧ Below w.heap.size w w' := by
  have hb0 := bl_alloc (bl_refl w) (.cells #[.bool a0, .bool a1, .bool a2, .bool a3, .bool a4, .bool a5] 43)
  have o0 := Own.new w 43 #[.bool a0, .bool a1, .bool a2, .bool a3, .bool a4, .bool a5]
  by_cases h1 : f = 1
  · subst h1
    cases a2
    all_goals
      go_enter Try.func19, Try.ntmps19
      go_wp2
      go_ret
      exact ⟨by simp, hb0⟩
  · by_cases h2 : f = 2
    · subst h2
      go_enter Try.func19, Try.ntmps19
      go_wp2
      go_ret
      exact ⟨by simp, hb0⟩
    · have q1 : (f == 1) = false := by simpa using h1
      have q2 : (f == 2) = false := by simpa using h2
      have HD := Lib.hid (show (decide (f = 1) && a2 || decide (f = 2) && a3) = false by simp [h1, h2])
      clear h1 h2
      go_enter Try.func19, Try.ntmps19
      go_wp2
      go_ret
      exact ⟨by rw [HD.out]; rfl, hb0⟩
set_option maxRecDepth 100000 in
theorem roaddA_any (a0 a1 a2 a3 a4 a5 : Bool) (f : Int) (w : World) : Calls Try.prog 23 #[.agg #[.bool a0, .bool a1, .bool a2, .bool a3, .bool a4, .bool a5], .int .i64 f] w fun e w' => e = .returned (.bool (decide (f = 1) && a4 || decide (f = 2) && a5)) ∧ Below w.heap.size w w' := by
  have hb0 := bl_alloc (bl_refl w) (.cells #[.bool a0, .bool a1, .bool a2, .bool a3, .bool a4, .bool a5] 43)
  have o0 := Own.new w 43 #[.bool a0, .bool a1, .bool a2, .bool a3, .bool a4, .bool a5]
  by_cases h1 : f = 1
  · subst h1
    cases a4
    all_goals
      go_enter Try.func23, Try.ntmps23
      go_wp2
      go_ret
      exact ⟨by simp, hb0⟩
  · by_cases h2 : f = 2
    · subst h2
      go_enter Try.func23, Try.ntmps23
      go_wp2
      go_ret
      exact ⟨by simp, hb0⟩
    · have q1 : (f == 1) = false := by simpa using h1
      have q2 : (f == 2) = false := by simpa using h2
      have HD := Lib.hid (show (decide (f = 1) && a4 || decide (f = 2) && a5) = false by simp [h1, h2])
      clear h1 h2
      go_enter Try.func23, Try.ntmps23
      go_wp2
      go_ret
      exact ⟨by rw [HD.out]; rfl, hb0⟩
end Go.Proofs.Ytaopinecidddkaa

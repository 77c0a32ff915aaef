/- XNgM3: XNgGv, XOmA, XOpG, XRfE, XCqO, XCqP in one text -/
import Derived.Test.YtniheakafkakhaaDoorNgM2
import Derived.Deep.DeepCutAuto
import Derived.Test.YtniheakafkakhaaDoorOwn
import Derived.Test.YtniheakafkakhaaDoorRows
import Derived.Test.YtniheakafkakhaaDoorRfD
import Derived.Test.YtniheakafkakhaaDoorPfxB
import Derived.Test.YtniheakafkakhaaDoorPfxM
import Derived.Deep.RegionHeld3
import Derived.Test.YtniheakafkakhaaDoorCqR
/- layer 22: both OPENs are made: what the region leaves -/
namespace Go.Proofs.YtniheakafkakhaaDoor
open Go.RowKit Go.Sort
def sets4 (w : World) (g : Nat) (a b c d : Value) : World := (((w.setCell ⟨g, 0, none⟩ a).setCell ⟨g, 1, none⟩ b).setCell ⟨g, 2, none⟩ c).setCell ⟨g, 3, none⟩ d
section
variable {w : World} {g : Nat} {a b c d : Value}
theorem sets4_own {T : TypeId} {x0 x1 x2 x3 : Value} (h : Own w g T #[x0, x1, x2, x3]) : Own (sets4 w g a b c d) g T #[a, b, c, d] := (((h.set_ 0 a).set_ 1 b).set_ 2 c).set_ 3 d
theorem sets4_far {k : Nat} {T : TypeId} {cs : Array Value} (h : Own w k T cs) (hk : k ≠ g) : Own (sets4 w g a b c d) k T cs := (((h.far (p := ⟨g, 0, none⟩) hk a).far (p := ⟨g, 1, none⟩) hk b).far (p := ⟨g, 2, none⟩) hk c).far (p := ⟨g, 3, none⟩) hk d
theorem sets4_below {w0 : World} {B : Nat} (h : Below B w0 w) (hg : B ≤ g) : Below B w0 (sets4 w g a b c d) := (((h.setCell (p := ⟨g, 0, none⟩) hg a).setCell (p := ⟨g, 1, none⟩) hg b).setCell (p := ⟨g, 2, none⟩) hg c).setCell (p := ⟨g, 3, none⟩) hg d
end
theorem sets4_size {w : World} {g : Nat} {a b c d : Value} : (sets4 w g a b c d).heap.size = w.heap.size := by simp [sets4]
theorem sets4_caps {w : World} {g n : Nat} {A : Option Addr} {ss : List Cp} {T : TypeId} {p q r : Int} {v : Value} (h : Caps w w.heap.size A n ss) (ho : Own w g T #[.int .u32 0, .int .i64 0, .int .u32 0, .slice none 0 0]) : Caps (sets4 w g (.int .u32 p) (.int .i64 q) (.int .u32 r) v) (sets4 w g (.int .u32 p) (.int .i64 q) (.int .u32 r) v).heap.size A n ss := by
  rw [sets4_size]
  exact (((h.otherW ho (noCap_open 0 0 0 _ (by simp) (by simp)) 0 (.int .u32 p)).otherW (ho.set_ 0 (.int .u32 p)) (noCap_open p 0 0 _ (by simp) (by simp)) 1 (.int .i64 q)).otherW ((ho.set_ 0 (.int .u32 p)).set_ 1 (.int .i64 q)) (noCap_open p q 0 _ (by simp) (by simp)) 2 (.int .u32 r)).otherW (((ho.set_ 0 (.int .u32 p)).set_ 1 (.int .i64 q)).set_ 2 (.int .u32 r)) (noCap_open p q r _ (by simp) (by simp)) 3 v
/-- What the region leaves that makes both OPENs. -/
def GivX (w2 : World) (p q r : Int) (n : Nat) (p' q' r' : Int) (n' : Nat) (ss ts : List Cp) (v5 v6 : Value) (wx : World) : Prop := ∃ g5 g6 A1 c1 A3 c3, v5 = .pointer (some ⟨g5, 0, none⟩) ∧ v6 = .pointer (some ⟨g6, 0, none⟩) ∧ Own wx g5 47 #[.int .u32 p, .int .i64 q, .int .u32 r, .slice A1 n c1] ∧ Own wx g6 47 #[.int .u32 p', .int .i64 q', .int .u32 r', .slice A3 n' c3] ∧ Caps wx wx.heap.size A1 n ss ∧ Caps wx wx.heap.size A3 n' ts ∧ Below w2.heap.size w2 wx
end Go.Proofs.YtniheakafkakhaaDoor

/- option.MP, option.Add -/
namespace Go.Proofs.YtniheakafkakhaaDoor
open Go.RowKit

set_option maxRecDepth 100000 in
theorem ompA_any (a0 a1 a2 a3 a4 a5 : Bool) (f : Int) (w : World) : Calls Tryd.prog 55 #[.agg #[.bool a0, .bool a1, .bool a2, .bool a3, .bool a4, .bool a5], .int .i64 f] w fun e w' => e = .returned (.bool (decide (f = 1) && a2 || decide (f = 2) && a3)) ∧ Below w.heap.size w w' := by
  have hb0 := bl_alloc (bl_refl w) (.cells #[.bool a0, .bool a1, .bool a2, .bool a3, .bool a4, .bool a5] 23)
  have o0 := Own.new w 23 #[.bool a0, .bool a1, .bool a2, .bool a3, .bool a4, .bool a5]
  by_cases h1 : f = 1
  · subst h1
    cases a2
    all_goals
      go_enter Tryd.func55, Tryd.ntmps55
      go_wp2
      go_ret
      exact ⟨by simp, hb0⟩
  · by_cases h2 : f = 2
    · subst h2
      go_enter Tryd.func55, Tryd.ntmps55
      go_wp2
      go_ret
      exact ⟨by simp, hb0⟩
    · have q1 : (f == 1) = false := by simpa using h1
      have q2 : (f == 2) = false := by simpa using h2
      have HD := Lib.hid (show (decide (f = 1) && a2 || decide (f = 2) && a3) = false by simp [h1, h2])
      clear h1 h2
      go_enter Tryd.func55, Tryd.ntmps55
      go_wp2
      go_ret
      exact ⟨by rw [HD.out]; rfl, hb0⟩
set_option maxRecDepth 100000 in
theorem oaddA_any (a0 a1 a2 a3 a4 a5 : Bool) (f : Int) (w : World) : Calls Tryd.prog 56 #[.agg #[.bool a0, .bool a1, .bool a2, .bool a3, .bool a4, .bool a5], .int .i64 f] w fun e w' => e = .returned (.bool (decide (f = 1) && a4 || decide (f = 2) && a5)) ∧ Below w.heap.size w w' := by
  have hb0 := bl_alloc (bl_refl w) (.cells #[.bool a0, .bool a1, .bool a2, .bool a3, .bool a4, .bool a5] 23)
  have o0 := Own.new w 23 #[.bool a0, .bool a1, .bool a2, .bool a3, .bool a4, .bool a5]
  by_cases h1 : f = 1
  · subst h1
    cases a4
    all_goals
      go_enter Tryd.func56, Tryd.ntmps56
      go_wp2
      go_ret
      exact ⟨by simp, hb0⟩
  · by_cases h2 : f = 2
    · subst h2
      go_enter Tryd.func56, Tryd.ntmps56
      go_wp2
      go_ret
      exact ⟨by simp, hb0⟩
    · have q1 : (f == 1) = false := by simpa using h1
      have q2 : (f == 2) = false := by simpa using h2
      have HD := Lib.hid (show (decide (f = 1) && a4 || decide (f = 2) && a5) = false by simp [h1, h2])
      clear h1 h2
      go_enter Tryd.func56, Tryd.ntmps56
      go_wp2
      go_ret
      exact ⟨by rw [HD.out]; rfl, hb0⟩
end Go.Proofs.YtniheakafkakhaaDoor

/- peerageref05.Both -/
namespace Go.Proofs.YtniheakafkakhaaDoor
open Go.RowKit Go.Sort
theorem op_oneR (a b c d e f : Bool) : (#[Value.bool a, .bool b, .bool c, .bool d, .bool e, .bool f] : Array Value).all (·.oneCell') = true := by simp [Value.oneCell']
set_option maxRecDepth 100000 in
set_option maxHeartbeats 800000 in
theorem rof5_any (g : Nat) (a0 a1 a2 a3 a4 a5 : Bool) (w : World) (h : Own w g 4 #[.bool a0, .bool a1, .bool a2, .bool a3, .bool a4, .bool a5]) : Calls Tryd.prog 97 #[.slice (some ⟨g, 0, none⟩) 6 6] w fun e w' => e = .returned (.agg #[.bool a0, .bool a1, .bool a2, .bool a3, .bool a4, .bool a5]) ∧ Below w.heap.size w w' := by
  have oz := Own.new w 23 #[.bool false, .bool false, .bool false, .bool false, .bool false, .bool false]
  have hb0 := bl_alloc (bl_refl w) (.cells #[.bool false, .bool false, .bool false, .bool false, .bool false, .bool false] 23)
  have ho := h.alloc (.cells #[.bool false, .bool false, .bool false, .bool false, .bool false, .bool false] 23)
  obtain ⟨c0, c1, c2, c3, c4, c5⟩ : (w.alloc (.cells #[.bool false, .bool false, .bool false, .bool false, .bool false, .bool false] 23)).cell? ⟨g, 0, none⟩ = some (.bool a0) ∧ (w.alloc (.cells #[.bool false, .bool false, .bool false, .bool false, .bool false, .bool false] 23)).cell? ⟨g, 1, none⟩ = some (.bool a1) ∧ (w.alloc (.cells #[.bool false, .bool false, .bool false, .bool false, .bool false, .bool false] 23)).cell? ⟨g, 2, none⟩ = some (.bool a2) ∧ (w.alloc (.cells #[.bool false, .bool false, .bool false, .bool false, .bool false, .bool false] 23)).cell? ⟨g, 3, none⟩ = some (.bool a3) ∧ (w.alloc (.cells #[.bool false, .bool false, .bool false, .bool false, .bool false, .bool false] 23)).cell? ⟨g, 4, none⟩ = some (.bool a4) ∧ (w.alloc (.cells #[.bool false, .bool false, .bool false, .bool false, .bool false, .bool false] 23)).cell? ⟨g, 5, none⟩ = some (.bool a5) := ⟨ho.cell (i := 0) rfl, ho.cell (i := 1) rfl, ho.cell (i := 2) rfl, ho.cell (i := 3) rfl, ho.cell (i := 4) rfl, ho.cell (i := 5) rfl⟩
  go_enter Tryd.func97, Tryd.ntmps97
  go_wp2_with fail
  generalize w.alloc (.cells #[.bool false, .bool false, .bool false, .bool false, .bool false, .bool false] 23) = W at *
  refine wp_region_still_tail 19 (by kernel_rfl) (by kernel_rfl) ?_
  simp only [List.take_succ_cons, List.take_zero, List.drop_succ_cons, List.drop_zero]
  repeat still_step
  refine wpStill_nil ?_
  change wpList _ _ _ _ _ W.drew
  have oD := oz.drew
  have hbD := hb0.drew
  generalize W.drew = X at *
  go_wp2_with (refine wpList_store_row rfl 23 _ _ rfl w.heap.size #[.bool a0, .bool a1, .bool a2, .bool a3, .bool a4, .bool a5] rfl rfl 23 #[.bool false, .bool false, .bool false, .bool false, .bool false, .bool false] oD (op_info _ _ _ _ _ _) rfl (op_oneR _ _ _ _ _ _) ?_)
  exact bodyPost_ret (results_cell1 (p := 2) (fn := Tryd.f97) rfl _ _ w.heap.size 23 #[.bool a0, .bool a1, .bool a2, .bool a3, .bool a4, .bool a5] _ rfl oD.setRow op_desc rfl (op_info _ _ _ _ _ _)) rfl ⟨rfl, bl_setRow hbD (Nat.le_refl _)⟩
def mixB (a0 a1 a2 a3 a4 a5 b0 b1 b2 b3 b4 b5 : Bool) : Nat → Array Value
  | 0 => #[.bool a0, .bool a1, .bool a2, .bool a3, .bool a4, .bool a5]
  | 1 => #[.bool (a0 && b0), .bool a1, .bool a2, .bool a3, .bool a4, .bool a5]
  | 2 => #[.bool (a0 && b0), .bool (a1 && b1), .bool a2, .bool a3, .bool a4, .bool a5]
  | 3 => #[.bool (a0 && b0), .bool (a1 && b1), .bool (a2 && b2), .bool a3, .bool a4, .bool a5]
  | 4 => #[.bool (a0 && b0), .bool (a1 && b1), .bool (a2 && b2), .bool (a3 && b3), .bool a4, .bool a5]
  | 5 => #[.bool (a0 && b0), .bool (a1 && b1), .bool (a2 && b2), .bool (a3 && b3), .bool (a4 && b4), .bool a5]
  | _ => #[.bool (a0 && b0), .bool (a1 && b1), .bool (a2 && b2), .bool (a3 && b3), .bool (a4 && b4), .bool (a5 && b5)]
theorem set_mix {w : World} {g : Nat} {T : TypeId} {cs ds : Array Value} {i : Nat} {v : Value} (h : Own w g T cs) (e : cs.setIfInBounds i v = ds) : Own (w.setCell ⟨g, i, none⟩ v) g T ds := by
  rw [← e]
  exact h.set_ i v
def bothW (a0 a1 a2 a3 a4 a5 b0 b1 b2 b3 b4 b5 : Bool) : Array Value := #[.bool (a0 && b0), .bool (a1 && b1), .bool (a2 && b2), .bool (a3 && b3), .bool (a4 && b4), .bool ((a5 && b5) && (a3 && b3))]
set_option maxRecDepth 100000 in
set_option maxHeartbeats 6400000 in
theorem roboth_any (a0 a1 a2 a3 a4 a5 b0 b1 b2 b3 b4 b5 : Bool) (w : World) :
    Calls Tryd.prog 43 #[.agg #[.bool a0, .bool a1, .bool a2, .bool a3, .bool a4, .bool a5], .agg #[.bool b0, .bool b1, .bool b2, .bool b3, .bool b4, .bool b5]] w fun e w' => e = .returned (.agg (bothW a0 a1 a2 a3 a4 a5 b0 b1 b2 b3 b4 b5)) ∧ Below w.heap.size w w' := by
  have oz := Own.new ((w.alloc (.cells #[.bool a0, .bool a1, .bool a2, .bool a3, .bool a4, .bool a5] 23)).alloc (.cells #[.bool b0, .bool b1, .bool b2, .bool b3, .bool b4, .bool b5] 23)) 23 #[.bool false, .bool false, .bool false, .bool false, .bool false, .bool false]
  rw [show ((w.alloc (.cells #[.bool a0, .bool a1, .bool a2, .bool a3, .bool a4, .bool a5] 23)).alloc (.cells #[.bool b0, .bool b1, .bool b2, .bool b3, .bool b4, .bool b5] 23)).heap.size = w.heap.size + 1 + 1 by simp] at oz
  have hb0 := bl_alloc (bl_alloc (bl_alloc (bl_refl w) (.cells #[.bool a0, .bool a1, .bool a2, .bool a3, .bool a4, .bool a5] 23)) (.cells #[.bool b0, .bool b1, .bool b2, .bool b3, .bool b4, .bool b5] 23)) (.cells #[.bool false, .bool false, .bool false, .bool false, .bool false, .bool false] 23)
  have ob := (Own.new (w.alloc (.cells #[.bool a0, .bool a1, .bool a2, .bool a3, .bool a4, .bool a5] 23)) 23 #[.bool b0, .bool b1, .bool b2, .bool b3, .bool b4, .bool b5]).alloc (.cells #[.bool false, .bool false, .bool false, .bool false, .bool false, .bool false] 23)
  rw [show (w.alloc (.cells #[.bool a0, .bool a1, .bool a2, .bool a3, .bool a4, .bool a5] 23)).heap.size = w.heap.size + 1 by simp] at ob
  go_enter Tryd.func43, Tryd.ntmps43
  go_wp2_with fail
  refine (rlist_any a0 a1 a2 a3 a4 a5 _).mono ?_
  rintro e w1 ⟨gx, rfl, hgx, ox, hb1⟩
  have hgx1 : w.heap.size + 1 + 1 < gx := by have := oz.lt; omega
  have oz1 := oz.step hb1
  have ob1 := ob.step hb1
  have hb2 := bl_trans hb0 hb1
  clear oz ob hb0 hb1
  obtain ⟨d0, d1, d2, d3, d4, d5⟩ : w1.cell? ⟨w.heap.size + 1, 0, none⟩ = some (.bool b0) ∧ w1.cell? ⟨w.heap.size + 1, 1, none⟩ = some (.bool b1) ∧ w1.cell? ⟨w.heap.size + 1, 2, none⟩ = some (.bool b2) ∧ w1.cell? ⟨w.heap.size + 1, 3, none⟩ = some (.bool b3) ∧ w1.cell? ⟨w.heap.size + 1, 4, none⟩ = some (.bool b4) ∧ w1.cell? ⟨w.heap.size + 1, 5, none⟩ = some (.bool b5) := ⟨ob1.cell (i := 0) rfl, ob1.cell (i := 1) rfl, ob1.cell (i := 2) rfl, ob1.cell (i := 3) rfl, ob1.cell (i := 4) rfl, ob1.cell (i := 5) rfl⟩
  go_wp2_with fail
  refine (rlist_any b0 b1 b2 b3 b4 b5 _).mono ?_
  rintro e w2 ⟨gy, rfl, hgy, oy, hb3⟩
  have hne : gy ≠ gx := by have := ox.lt; omega
  have oz2 := oz1.step hb3
  have ox2 := ox.step hb3
  have hb4 := bl_trans hb2 hb3
  clear oz1 ob1 hb2 hb3 ox d0 d1 d2 d3 d4 d5 hgy
  go_wp2_with fail
  go_loopw [7] (fun i wr => ∃ k : Nat, k ≤ 6 ∧ i = .int .i64 k ∧ Own wr gx 4 (mixB a0 a1 a2 a3 a4 a5 b0 b1 b2 b3 b4 b5 k) ∧ Own wr gy 4 #[.bool b0, .bool b1, .bool b2, .bool b3, .bool b4, .bool b5] ∧ Own wr (w.heap.size + 1 + 1) 23 #[.bool false, .bool false, .bool false, .bool false, .bool false, .bool false] ∧ Below w.heap.size w wr) (fun i _ => 6 - (intOf i).toNat)
  case atStart => exact ⟨0, by omega, rfl, ox2, oy, oz2, hb4⟩
  case round =>
    obtain ⟨k, hk, rfl, qx, qy, qz, hbr⟩ := hrel
    clear ox2 oy oz2 hb4
    have hk6 : k = 0 ∨ k = 1 ∨ k = 2 ∨ k = 3 ∨ k = 4 ∨ k = 5 ∨ k = 6 := by omega
    rcases hk6 with rfl | rfl | rfl | rfl | rfl | rfl | rfl
    · by_cases hb : a0 = true
      · have HB := Lib.hid (show a0 = true by simpa using hb)
        clear hb
        have hc : wr.cell? ⟨gx, 0, none⟩ = some (.bool true) := by have := qx.cell (i := 0) (v := .bool a0) rfl; rw [HB.out] at this; exact this
        have hy : wr.cell? ⟨gy, 0, none⟩ = some (.bool b0) := qy.cell (i := 0) (v := .bool b0) rfl
        have hF := qx.frozen 0
        go_wp2
        go_roundw
        case rel => exact ⟨1, by omega, by go_num, set_mix qx (by rw [show (.bool b0 : Value) = .bool (a0 && b0) by rw [HB.out]; rfl]; rfl), qy.far hne _, qz.far (by show w.heap.size + 1 + 1 ≠ gx; omega) _, hbr.setCell (by show w.heap.size ≤ gx; omega) _⟩
        case measure => simp [intOf]
      · have HB := Lib.hid (show a0 = false by simpa using hb)
        clear hb
        have hc : wr.cell? ⟨gx, 0, none⟩ = some (.bool false) := by have := qx.cell (i := 0) (v := .bool a0) rfl; rw [HB.out] at this; exact this
        have hy : wr.cell? ⟨gy, 0, none⟩ = some (.bool b0) := qy.cell (i := 0) (v := .bool b0) rfl
        have hF := qx.frozen 0
        go_wp2
        go_roundw
        case rel => exact ⟨1, by omega, by go_num, set_mix qx (by rw [show (.bool false : Value) = .bool (a0 && b0) by rw [HB.out]; rfl]; rfl), qy.far hne _, qz.far (by show w.heap.size + 1 + 1 ≠ gx; omega) _, hbr.setCell (by show w.heap.size ≤ gx; omega) _⟩
        case measure => simp [intOf]
    · by_cases hb : a1 = true
      · have HB := Lib.hid (show a1 = true by simpa using hb)
        clear hb
        have hc : wr.cell? ⟨gx, 1, none⟩ = some (.bool true) := by have := qx.cell (i := 1) (v := .bool a1) rfl; rw [HB.out] at this; exact this
        have hy : wr.cell? ⟨gy, 1, none⟩ = some (.bool b1) := qy.cell (i := 1) (v := .bool b1) rfl
        have hF := qx.frozen 1
        go_wp2
        go_roundw
        case rel => exact ⟨2, by omega, by go_num, set_mix qx (by rw [show (.bool b1 : Value) = .bool (a1 && b1) by rw [HB.out]; rfl]; rfl), qy.far hne _, qz.far (by show w.heap.size + 1 + 1 ≠ gx; omega) _, hbr.setCell (by show w.heap.size ≤ gx; omega) _⟩
        case measure => simp [intOf]
      · have HB := Lib.hid (show a1 = false by simpa using hb)
        clear hb
        have hc : wr.cell? ⟨gx, 1, none⟩ = some (.bool false) := by have := qx.cell (i := 1) (v := .bool a1) rfl; rw [HB.out] at this; exact this
        have hy : wr.cell? ⟨gy, 1, none⟩ = some (.bool b1) := qy.cell (i := 1) (v := .bool b1) rfl
        have hF := qx.frozen 1
        go_wp2
        go_roundw
        case rel => exact ⟨2, by omega, by go_num, set_mix qx (by rw [show (.bool false : Value) = .bool (a1 && b1) by rw [HB.out]; rfl]; rfl), qy.far hne _, qz.far (by show w.heap.size + 1 + 1 ≠ gx; omega) _, hbr.setCell (by show w.heap.size ≤ gx; omega) _⟩
        case measure => simp [intOf]
    · by_cases hb : a2 = true
      · have HB := Lib.hid (show a2 = true by simpa using hb)
        clear hb
        have hc : wr.cell? ⟨gx, 2, none⟩ = some (.bool true) := by have := qx.cell (i := 2) (v := .bool a2) rfl; rw [HB.out] at this; exact this
        have hy : wr.cell? ⟨gy, 2, none⟩ = some (.bool b2) := qy.cell (i := 2) (v := .bool b2) rfl
        have hF := qx.frozen 2
        go_wp2
        go_roundw
        case rel => exact ⟨3, by omega, by go_num, set_mix qx (by rw [show (.bool b2 : Value) = .bool (a2 && b2) by rw [HB.out]; rfl]; rfl), qy.far hne _, qz.far (by show w.heap.size + 1 + 1 ≠ gx; omega) _, hbr.setCell (by show w.heap.size ≤ gx; omega) _⟩
        case measure => simp [intOf]
      · have HB := Lib.hid (show a2 = false by simpa using hb)
        clear hb
        have hc : wr.cell? ⟨gx, 2, none⟩ = some (.bool false) := by have := qx.cell (i := 2) (v := .bool a2) rfl; rw [HB.out] at this; exact this
        have hy : wr.cell? ⟨gy, 2, none⟩ = some (.bool b2) := qy.cell (i := 2) (v := .bool b2) rfl
        have hF := qx.frozen 2
        go_wp2
        go_roundw
        case rel => exact ⟨3, by omega, by go_num, set_mix qx (by rw [show (.bool false : Value) = .bool (a2 && b2) by rw [HB.out]; rfl]; rfl), qy.far hne _, qz.far (by show w.heap.size + 1 + 1 ≠ gx; omega) _, hbr.setCell (by show w.heap.size ≤ gx; omega) _⟩
        case measure => simp [intOf]
    · by_cases hb : a3 = true
      · have HB := Lib.hid (show a3 = true by simpa using hb)
        clear hb
        have hc : wr.cell? ⟨gx, 3, none⟩ = some (.bool true) := by have := qx.cell (i := 3) (v := .bool a3) rfl; rw [HB.out] at this; exact this
        have hy : wr.cell? ⟨gy, 3, none⟩ = some (.bool b3) := qy.cell (i := 3) (v := .bool b3) rfl
        have hF := qx.frozen 3
        go_wp2
        go_roundw
        case rel => exact ⟨4, by omega, by go_num, set_mix qx (by rw [show (.bool b3 : Value) = .bool (a3 && b3) by rw [HB.out]; rfl]; rfl), qy.far hne _, qz.far (by show w.heap.size + 1 + 1 ≠ gx; omega) _, hbr.setCell (by show w.heap.size ≤ gx; omega) _⟩
        case measure => simp [intOf]
      · have HB := Lib.hid (show a3 = false by simpa using hb)
        clear hb
        have hc : wr.cell? ⟨gx, 3, none⟩ = some (.bool false) := by have := qx.cell (i := 3) (v := .bool a3) rfl; rw [HB.out] at this; exact this
        have hy : wr.cell? ⟨gy, 3, none⟩ = some (.bool b3) := qy.cell (i := 3) (v := .bool b3) rfl
        have hF := qx.frozen 3
        go_wp2
        go_roundw
        case rel => exact ⟨4, by omega, by go_num, set_mix qx (by rw [show (.bool false : Value) = .bool (a3 && b3) by rw [HB.out]; rfl]; rfl), qy.far hne _, qz.far (by show w.heap.size + 1 + 1 ≠ gx; omega) _, hbr.setCell (by show w.heap.size ≤ gx; omega) _⟩
        case measure => simp [intOf]
    · by_cases hb : a4 = true
      · have HB := Lib.hid (show a4 = true by simpa using hb)
        clear hb
        have hc : wr.cell? ⟨gx, 4, none⟩ = some (.bool true) := by have := qx.cell (i := 4) (v := .bool a4) rfl; rw [HB.out] at this; exact this
        have hy : wr.cell? ⟨gy, 4, none⟩ = some (.bool b4) := qy.cell (i := 4) (v := .bool b4) rfl
        have hF := qx.frozen 4
        go_wp2
        go_roundw
        case rel => exact ⟨5, by omega, by go_num, set_mix qx (by rw [show (.bool b4 : Value) = .bool (a4 && b4) by rw [HB.out]; rfl]; rfl), qy.far hne _, qz.far (by show w.heap.size + 1 + 1 ≠ gx; omega) _, hbr.setCell (by show w.heap.size ≤ gx; omega) _⟩
        case measure => simp [intOf]
      · have HB := Lib.hid (show a4 = false by simpa using hb)
        clear hb
        have hc : wr.cell? ⟨gx, 4, none⟩ = some (.bool false) := by have := qx.cell (i := 4) (v := .bool a4) rfl; rw [HB.out] at this; exact this
        have hy : wr.cell? ⟨gy, 4, none⟩ = some (.bool b4) := qy.cell (i := 4) (v := .bool b4) rfl
        have hF := qx.frozen 4
        go_wp2
        go_roundw
        case rel => exact ⟨5, by omega, by go_num, set_mix qx (by rw [show (.bool false : Value) = .bool (a4 && b4) by rw [HB.out]; rfl]; rfl), qy.far hne _, qz.far (by show w.heap.size + 1 + 1 ≠ gx; omega) _, hbr.setCell (by show w.heap.size ≤ gx; omega) _⟩
        case measure => simp [intOf]
    · by_cases hb : a5 = true
      · have HB := Lib.hid (show a5 = true by simpa using hb)
        clear hb
        have hc : wr.cell? ⟨gx, 5, none⟩ = some (.bool true) := by have := qx.cell (i := 5) (v := .bool a5) rfl; rw [HB.out] at this; exact this
        have hy : wr.cell? ⟨gy, 5, none⟩ = some (.bool b5) := qy.cell (i := 5) (v := .bool b5) rfl
        have hF := qx.frozen 5
        go_wp2
        go_roundw
        case rel => exact ⟨6, by omega, by go_num, set_mix qx (by rw [show (.bool b5 : Value) = .bool (a5 && b5) by rw [HB.out]; rfl]; rfl), qy.far hne _, qz.far (by show w.heap.size + 1 + 1 ≠ gx; omega) _, hbr.setCell (by show w.heap.size ≤ gx; omega) _⟩
        case measure => simp [intOf]
      · have HB := Lib.hid (show a5 = false by simpa using hb)
        clear hb
        have hc : wr.cell? ⟨gx, 5, none⟩ = some (.bool false) := by have := qx.cell (i := 5) (v := .bool a5) rfl; rw [HB.out] at this; exact this
        have hy : wr.cell? ⟨gy, 5, none⟩ = some (.bool b5) := qy.cell (i := 5) (v := .bool b5) rfl
        have hF := qx.frozen 5
        go_wp2
        go_roundw
        case rel => exact ⟨6, by omega, by go_num, set_mix qx (by rw [show (.bool false : Value) = .bool (a5 && b5) by rw [HB.out]; rfl]; rfl), qy.far hne _, qz.far (by show w.heap.size + 1 + 1 ≠ gx; omega) _, hbr.setCell (by show w.heap.size ≤ gx; omega) _⟩
        case measure => simp [intOf]
    · obtain ⟨c0, c1, c2, c3, c4, c5⟩ : wr.cell? ⟨gx, 0, none⟩ = some (.bool (a0 && b0)) ∧ wr.cell? ⟨gx, 1, none⟩ = some (.bool (a1 && b1)) ∧ wr.cell? ⟨gx, 2, none⟩ = some (.bool (a2 && b2)) ∧ wr.cell? ⟨gx, 3, none⟩ = some (.bool (a3 && b3)) ∧ wr.cell? ⟨gx, 4, none⟩ = some (.bool (a4 && b4)) ∧ wr.cell? ⟨gx, 5, none⟩ = some (.bool (a5 && b5)) := ⟨qx.cell (i := 0) rfl, qx.cell (i := 1) rfl, qx.cell (i := 2) rfl, qx.cell (i := 3) rfl, qx.cell (i := 4) rfl, qx.cell (i := 5) rfl⟩
      have hF := qx.frozen 5
      by_cases hb : (a5 && b5) = true
      · have HB := Lib.hid (show (a5 && b5) = true by simpa using hb)
        rw [HB.out] at c5
        have qx5 : Own (wr.setCell ⟨gx, 5, none⟩ (.bool (a3 && b3))) gx 4 #[.bool (a0 && b0), .bool (a1 && b1), .bool (a2 && b2), .bool (a3 && b3), .bool (a4 && b4), .bool ((a5 && b5) && (a3 && b3))] := set_mix qx (by rw [HB.out]; simp only [Bool.true_and]; rfl)
        have qz5 := qz.far (p := ⟨gx, 5, none⟩) (by show w.heap.size + 1 + 1 ≠ gx; omega) (.bool (a3 && b3))
        have hb5 := hbr.setCell (p := ⟨gx, 5, none⟩) (by show w.heap.size ≤ gx; omega) (.bool (a3 && b3))
        clear hb
        have HW := Lib.hid (show bothW a0 a1 a2 a3 a4 a5 b0 b1 b2 b3 b4 b5 = #[.bool (a0 && b0), .bool (a1 && b1), .bool (a2 && b2), .bool (a3 && b3), .bool (a4 && b4), .bool ((a5 && b5) && (a3 && b3))] from rfl)
        generalize (a0 && b0) = v0 at *
        generalize (a1 && b1) = v1 at *
        generalize (a2 && b2) = v2 at *
        generalize (a3 && b3) = v3 at *
        generalize (a4 && b4) = v4 at *
        generalize ((a5 && b5) && v3) = v6 at *
        go_wp2_with fail
        refine (rof5_any gx v0 v1 v2 v3 v4 v6 _ qx5).mono ?_
        rintro e w3 ⟨rfl, hb6⟩
        have qz6 := qz5.step hb6
        have hb7 := bl_trans hb5 hb6
        go_wp2_with (refine wpList_store_row rfl 23 _ _ rfl (w.heap.size + 1 + 1) #[.bool v0, .bool v1, .bool v2, .bool v3, .bool v4, .bool v6] rfl rfl 23 #[.bool false, .bool false, .bool false, .bool false, .bool false, .bool false] qz6 (op_info _ _ _ _ _ _) rfl (op_oneR _ _ _ _ _ _) ?_)
        exact bodyPost_ret (results_cell1 (p := 4) (fn := Tryd.f43) rfl _ _ (w.heap.size + 1 + 1) 23 #[.bool v0, .bool v1, .bool v2, .bool v3, .bool v4, .bool v6] _ rfl qz6.setRow op_desc rfl (op_info _ _ _ _ _ _)) rfl ⟨by rw [HW.out], bl_setRow hb7 (by omega)⟩
      · have HB := Lib.hid (show (a5 && b5) = false by simpa using hb)
        rw [HB.out] at c5
        have qx5 : Own (wr.setCell ⟨gx, 5, none⟩ (.bool false)) gx 4 #[.bool (a0 && b0), .bool (a1 && b1), .bool (a2 && b2), .bool (a3 && b3), .bool (a4 && b4), .bool ((a5 && b5) && (a3 && b3))] := set_mix qx (by rw [HB.out]; simp only [Bool.false_and]; rfl)
        have qz5 := qz.far (p := ⟨gx, 5, none⟩) (by show w.heap.size + 1 + 1 ≠ gx; omega) (.bool false)
        have hb5 := hbr.setCell (p := ⟨gx, 5, none⟩) (by show w.heap.size ≤ gx; omega) (.bool false)
        clear hb
        have HW := Lib.hid (show bothW a0 a1 a2 a3 a4 a5 b0 b1 b2 b3 b4 b5 = #[.bool (a0 && b0), .bool (a1 && b1), .bool (a2 && b2), .bool (a3 && b3), .bool (a4 && b4), .bool ((a5 && b5) && (a3 && b3))] from rfl)
        generalize (a0 && b0) = v0 at *
        generalize (a1 && b1) = v1 at *
        generalize (a2 && b2) = v2 at *
        generalize (a3 && b3) = v3 at *
        generalize (a4 && b4) = v4 at *
        generalize ((a5 && b5) && v3) = v6 at *
        go_wp2_with fail
        refine (rof5_any gx v0 v1 v2 v3 v4 v6 _ qx5).mono ?_
        rintro e w3 ⟨rfl, hb6⟩
        have qz6 := qz5.step hb6
        have hb7 := bl_trans hb5 hb6
        go_wp2_with (refine wpList_store_row rfl 23 _ _ rfl (w.heap.size + 1 + 1) #[.bool v0, .bool v1, .bool v2, .bool v3, .bool v4, .bool v6] rfl rfl 23 #[.bool false, .bool false, .bool false, .bool false, .bool false, .bool false] qz6 (op_info _ _ _ _ _ _) rfl (op_oneR _ _ _ _ _ _) ?_)
        exact bodyPost_ret (results_cell1 (p := 4) (fn := Tryd.f43) rfl _ _ (w.heap.size + 1 + 1) 23 #[.bool v0, .bool v1, .bool v2, .bool v3, .bool v4, .bool v6] _ rfl qz6.setRow op_desc rfl (op_info _ _ _ _ _ _)) rfl ⟨by rw [HW.out], bl_setRow hb7 (by omega)⟩
end Go.Proofs.YtniheakafkakhaaDoor

/- mp.Codes, refresh.Make -/
namespace Go.Proofs.YtniheakafkakhaaDoor
open Go.RowKit Extern.Stop

theorem own_threeE {w : World} {g : Nat} {t : TypeId} {a b c : Value} (h : Own w g t #[a, b, c]) (x y z : Value) :
    Own (((w.setCell ⟨g, 0, none⟩ x).setCell ⟨g, 1, none⟩ y).setCell ⟨g, 2, none⟩ z) g t #[x, y, z] := by
  have h2 := ((h.set_ 0 x).set_ 1 y).set_ 2 z
  simpa using h2
set_option maxRecDepth 100000 in
theorem codes_yes (f : Int) (w : World) (hf : f = 1 ∨ f = 2) (ht : Fams w) :
    Calls Tryd.prog 54 #[.int .i64 f] w fun e w' => ∃ g, e = .returned (.tuple #[.slice (some ⟨g, 0, none⟩) 3 3, .bool true]) ∧ w.heap.size ≤ g ∧ Own w' g 5 #[.int .u8 0, .int .u8 f, .int .u8 1] ∧ Below w.heap.size w w' := by
  have key : ∀ (W w1 : World), Own w1 W.heap.size 5 ((digitsOf (2 : Int).toNat f).map (Value.int .u8)).toArray → Below W.heap.size W w1 →
      Calls Tryd.prog 53 #[.slice (some ⟨w1.heap.size + 1, 0, none⟩) 2 2] ((w1.alloc (.cells #[.int .u8 1] 5)).alloc (.cells #[.slice (some ⟨W.heap.size, 0, none⟩) 2 2, .slice (some ⟨w1.heap.size, 0, none⟩) 1 1] 43)) fun e w' => ∃ g, e = .returned (.slice (some ⟨g, 0, none⟩) 3 3) ∧ W.heap.size ≤ g ∧ Own w' g 5 #[.int .u8 0, .int .u8 f, .int .u8 1] ∧ Below W.heap.size W w' := by
    intro W w1 ho hb
    have hba := bl_alloc (bl_alloc (bl_refl w1) (.cells #[.int .u8 1] 5)) (.cells #[.slice (some ⟨W.heap.size, 0, none⟩) 2 2, .slice (some ⟨w1.heap.size, 0, none⟩) 1 1] 43)
    have om := ((Own.new w1 5 #[.int .u8 1]).alloc (.cells #[.slice (some ⟨W.heap.size, 0, none⟩) 2 2, .slice (some ⟨w1.heap.size, 0, none⟩) 1 1] 43))
    have b1 := Bytes.of_owned (xs := [1]) om (by intro x hx; simp at hx; omega) om.lt
    have o2 := ho.step hba
    have b2 := Bytes.of_owned (xs := digitsOf (2 : Int).toNat f) o2 (digitsOf_range _ _) o2.lt
    rw [digitsOf_len] at b2
    have hs2 : (w1.alloc (.cells #[.int .u8 1] 5)).heap.size = w1.heap.size + 1 := by simp
    have on := Own.new (w1.alloc (.cells #[.int .u8 1] 5)) 43 #[.slice (some ⟨W.heap.size, 0, none⟩) 2 2, .slice (some ⟨w1.heap.size, 0, none⟩) 1 1]
    rw [hs2] at on
    have hpt := parts_two (c1 := 2) (c2 := 1) on b2 b1
    have hfl : flat [⟨some ⟨W.heap.size, 0, none⟩, 2, 2, digitsOf (2 : Int).toNat f⟩, ⟨some ⟨w1.heap.size, 0, none⟩, 1, 1, [1]⟩] = [0, f, 1] := by
      rcases hf with rfl | rfl <;> rfl
    refine (cat_own (c := 2) hpt (by omega) (by rw [hfl]; simp)).mono ?_
    rw [hfl]
    rintro e w2 ⟨rfl, ho2, hb2⟩
    exact ⟨_, rfl, by have := hb.size; simp; omega, ho2, bl_trans (bl_trans hb hba) hb2⟩
  obtain ⟨f1, f2, _⟩ := ht
  rcases hf with rfl | rfl
  · go_enter Tryd.func54, Tryd.ntmps54
    go_wp2_with fail
    refine (put_yes 2 1 _ (by omega) (by omega) (by omega) (by decide)).mono ?_
    rintro e w1 ⟨rfl, ho1, hb1⟩
    go_wp2_with fail
    refine (key _ _ ho1 hb1).mono ?_
    rintro e w2 ⟨g, rfl, hg, ho2, hb2⟩
    go_wp2
    go_ret2
    exact ⟨_, rfl, hg, ho2, hb2⟩
  · go_enter Tryd.func54, Tryd.ntmps54
    go_wp2_with fail
    refine (put_yes 2 2 _ (by omega) (by omega) (by omega) (by decide)).mono ?_
    rintro e w1 ⟨rfl, ho1, hb1⟩
    go_wp2_with fail
    refine (key _ _ ho1 hb1).mono ?_
    rintro e w2 ⟨g, rfl, hg, ho2, hb2⟩
    go_wp2
    go_ret2
    exact ⟨_, rfl, hg, ho2, hb2⟩
set_option maxRecDepth 100000 in
theorem codes_no (f : Int) (w : World) (h1 : f ≠ 1) (h2 : f ≠ 2) :
    Calls Tryd.prog 54 #[.int .i64 f] w fun e w' => e = .returned (.tuple #[.slice none 0 0, .bool false]) ∧ w = w' := by
  have e1 : (f != 1) = true := by simpa using h1
  have e2 : (f != 2) = true := by simpa using h2
  go_enter Tryd.func54, Tryd.ntmps54
  go_wp2
  go_ret2
  exact ⟨rfl, rfl⟩
theorem far3 {w : World} {g b : Nat} {T : TypeId} {a0 a1 a2 : Value} (ho : Own w g T #[a0, a1, a2]) (hne : g ≠ b) (x y z : Value) :
    (((w.setCell ⟨b, 0, none⟩ x).setCell ⟨b, 1, none⟩ y).setCell ⟨b, 2, none⟩ z).drew.cell? ⟨g, 0, none⟩ = some a0 ∧ (((w.setCell ⟨b, 0, none⟩ x).setCell ⟨b, 1, none⟩ y).setCell ⟨b, 2, none⟩ z).drew.cell? ⟨g, 1, none⟩ = some a1 ∧ (((w.setCell ⟨b, 0, none⟩ x).setCell ⟨b, 1, none⟩ y).setCell ⟨b, 2, none⟩ z).drew.cell? ⟨g, 2, none⟩ = some a2 := by
  have h := (((ho.far (p := ⟨b, 0, none⟩) hne x).far (p := ⟨b, 1, none⟩) hne y).far (p := ⟨b, 2, none⟩) hne z).drew
  exact ⟨h.cell rfl, h.cell rfl, h.cell rfl⟩
end Go.Proofs.YtniheakafkakhaaDoor

/- capability.Of -/
namespace Go.Proofs.YtniheakafkakhaaDoor
open Go.RowKit

theorem CRow.restX {T : TypeId} {w w' : World} {base : Nat} {v : Value} {L : List Cp} {P : Nat → Prop} (h : CRow T w base v L) (k : Rest w w' P) (hp : ∀ j, v.ownBlock = some j → ¬ P j) (hq : ∀ s ∈ L, ∀ j, (Value.slice s.A s.n s.c).ownBlock = some j → ¬ P j) : CRow T w' base v L :=
  ⟨row_rest h.1 k hp, fun s hs => ⟨row_rest (h.2 s hs).1 k (hq s hs), (h.2 s hs).2⟩⟩
/-- A list of capabilities under way, and groups under way, in rows of their own. -/
def OfS (T : TypeId) (B : Nat) (W : World) (v : Value) (L : List (Int × List Int)) (gv : Value) (G : List Int) : Prop :=
  ∃ L', CRow T W B v L' ∧ L'.map cpK = L ∧ (∀ s ∈ L', s.n ≤ 1000) ∧ W.ownsRow B 5 1 gv G.length (G.map (Value.int .u8)) ∧ (∀ s ∈ L', ∀ j, (Value.slice s.A s.n s.c).ownBlock = some j → gv.ownBlock ≠ some j)
theorem OfS.rest {T : TypeId} {B : Nat} {W W' : World} {v gv : Value} {L : List (Int × List Int)} {G : List Int} {P : Nat → Prop} (h : OfS T B W v L gv G) (k : Rest W W' P) (hp : ∀ j t, t = T ∨ t = 5 → B ≤ j → Typed W j t → ¬ P j) : OfS T B W' v L gv G := by
  obtain ⟨L', h1, h2, h3, h4, h5⟩ := h
  exact ⟨L', h1.rest k hp, h2, h3, row_rest h4 k (fun j hj => hp j _ (.inr rfl) (row_typed h4 hj).2 (row_typed h4 hj).1), h5⟩
theorem OfS.below {T : TypeId} {B : Nat} {W W' : World} {v gv : Value} {L : List (Int × List Int)} {G : List Int} (h : OfS T B W v L gv G) (k : Below W.heap.size W W') : OfS T B W' v L gv G :=
  h.rest (Rest.of_below k (fun _ => False)) (fun _ _ _ _ _ f => f)
theorem OfS.nil (T : TypeId) (B : Nat) (W : World) : OfS T B W (.slice none 0 0) [] (.slice none 0 0) [] :=
  ⟨[], CRow.nil _ _ _, rfl, by simp, World.ownsRow_nil _ _ _ _, by simp⟩
theorem ofS_push {T : TypeId} (hT : T ≠ 5) {B : Nat} {W X w' : World} {v v' gv : Value} {L : List (Int × List Int)} {G : List Int} {L' : List Cp} {q : Cp} (h1 : CRow T W B v L') (h2 : L'.map cpK = L) (h3 : ∀ s ∈ L', s.n ≤ 1000) (h4 : W.ownsRow B 5 1 gv G.length (G.map (Value.int .u8))) (h5 : ∀ s ∈ L', ∀ j, (Value.slice s.A s.n s.c).ownBlock = some j → gv.ownBlock ≠ some j)
    (hX : Below W.heap.size W X) (hq : CD X B q) (hqn : q.n ≤ 1000) (hf : ∀ j, (Value.slice q.A q.n q.c).ownBlock = some j → W.heap.size ≤ j) (hown : w'.ownsRow B T 2 v' (L'.length + 1) (cellsP L' ++ [.int .i64 q.k, .slice q.A q.n q.c])) (hgr : X.grownBy w' v.ownBlock) : OfS T B w' v' (L ++ [cpK q]) gv G := by
  have hXr := h1.below hX
  have hXg := own_belowG h4 hX
  refine ⟨L' ++ [q], CRow.push hT hXr hq hown hgr, by rw [List.map_append, h2]; rfl, fun s hs => ?_, row_rest hXg (Rest.of_grown hgr (P := fun j => v.ownBlock = some j) (fun j e => e)) (fun j hj e => (row_typed hXr.1 e).1.ne (row_typed hXg hj).1 hT rfl), fun s hs j hj e => ?_⟩
  · rcases List.mem_append.1 hs with hs | hs
    · exact h3 s hs
    · rw [List.mem_singleton] at hs
      subst hs
      exact hqn
  · rcases List.mem_append.1 hs with hs | hs
    · exact h5 s hs j hj e
    · rw [List.mem_singleton] at hs
      subst hs
      have := hf j hj
      have := (row_typed h4 e).1.lt
      omega
theorem ofS_grow {T : TypeId} (hT : T ≠ 5) {B m : Nat} {W X w' : World} {v gv gv' : Value} {L : List (Int × List Int)} {G zs : List Int} (h : OfS T B W v L gv G) (hX : Below W.heap.size W X)
    (hown : w'.ownsRow B 5 1 gv' (G.length + m) (G.map (Value.int .u8) ++ zs.map (Value.int .u8))) (hm : m = zs.length) (hgr : X.grownBy w' gv.ownBlock) (hat : gv'.ownBlock = gv.ownBlock ∨ gv'.ownBlock = some X.heap.size) : OfS T B w' v L gv' (G ++ zs) := by
  obtain ⟨L', h1, h2, h3, h4, h5⟩ := h
  have hXr := h1.below hX
  have R := Rest.of_grown hgr (P := fun j => gv.ownBlock = some j) (fun j e => e)
  refine ⟨L', hXr.restX R (fun j hj e => (row_typed hXr.1 hj).1.ne (row_typed (own_belowG h4 hX) e).1 hT rfl) (fun s hs j hj e => h5 s hs j hj e), h2, h3, by rw [List.length_append, ← hm, List.map_append]; exact hown, fun s hs j hj e => ?_⟩
  rcases hat with e2 | e2
  · exact h5 s hs j hj (e2.symm.trans e)
  · rw [e2] at e
    cases e
    have := (row_typed (h1.2 s hs).1 hj).1.lt
    have := hX.size
    omega
/-- The walk of capability.Of between two statements. -/
structure OfI (w : World) (opts : Array Value) (W : World) (L : List (Int × List Int)) (gv : Value) (G : List Int) : Prop where
  bel : Below w.heap.size w W
  o1 : Own W w.heap.size 23 opts
  box : ∃ v, Own W (w.heap.size + 1) 25 #[v] ∧ OfS 83 (w.heap.size + 2) W v L gv G
  lo : w.heap.size + 2 ≤ W.heap.size
theorem of_types : 83 ≠ 5 ∧ 83 ≠ 25 ∧ 5 ≠ 25 ∧ 23 ≠ 25 ∧ 23 ≠ 83 ∧ 89 ≠ 5 := by decide
theorem OfI.below {w W X : World} {opts : Array Value} {L : List (Int × List Int)} {gv : Value} {G : List Int} (h : OfI w opts W L gv G) (hb : Below W.heap.size W X) : OfI w opts X L gv G := by
  obtain ⟨h1, h2, ⟨v, h3, h4⟩, h5⟩ := h
  exact ⟨bl_trans h1 hb, h2.step hb, ⟨v, h3.step hb, h4.below hb⟩, Nat.le_trans h5 hb.size⟩
/-- What is neither a list of capabilities nor a box of one lies as it lay. -/
def KeepO (W W' : World) : Prop := ∀ i t cs, Own W i t cs → t ≠ 25 → t ≠ 83 → Own W' i t cs
def ofPut (b : Bool) (code : Int) (xs : List Int) (L : List (Int × List Int)) : List (Int × List Int) := if b then L ++ [(code, xs)] else L
set_option maxRecDepth 100000 in
theorem cput_no (code : Int) (A : Option Addr) (n c g : Nat) (w : World) : Calls Tryd.prog 52 #[.bool false, .int .i64 code, .slice A n c, .pointer (some ⟨g, 0, none⟩)] w fun e w' => (∃ u, e = .returned u) ∧ w = w' := by
  go_enter Tryd.func52, Tryd.ntmps52
  go_wp2
  go_end0
  exact ⟨⟨_, rfl⟩, rfl⟩
/-- What put leaves. -/
def PutR (w : World) (opts : Array Value) (W : World) (L : List (Int × List Int)) (gv : Value) (G : List Int) (W' : World) : Prop := OfI w opts W' L gv G ∧ KeepO W W' ∧ W.heap.size ≤ W'.heap.size
theorem put_end {w W X w5 : World} {opts : Array Value} {L : List (Int × List Int)} {gv v v' : Value} {G : List Int} {L' : List Cp} {q : Cp} (hI : OfI w opts W L gv G) (ob : Own W (w.heap.size + 1) 25 #[v]) (h1 : CRow 83 W (w.heap.size + 2) v L') (h2 : L'.map cpK = L) (h3 : ∀ s ∈ L', s.n ≤ 1000) (h4 : W.ownsRow (w.heap.size + 2) 5 1 gv G.length (G.map (Value.int .u8))) (h5 : ∀ s ∈ L', ∀ j, (Value.slice s.A s.n s.c).ownBlock = some j → gv.ownBlock ≠ some j)
    (hX : Below W.heap.size W X) (hq : CD X (w.heap.size + 2) q) (hqn : q.n ≤ 1000) (hf : ∀ j, (Value.slice q.A q.n q.c).ownBlock = some j → W.heap.size ≤ j) (hown : w5.ownsRow (w.heap.size + 2) 83 2 v' (L'.length + 1) (cellsP L' ++ [.int .i64 q.k, .slice q.A q.n q.c])) (hgr : X.grownBy w5 v.ownBlock) :
    PutR w opts W (L ++ [cpK q]) gv G (w5.setCell ⟨w.heap.size + 1, 0, none⟩ v') := by
  have hS := ofS_push of_types.1 h1 h2 h3 h4 h5 hX hq hqn hf hown hgr
  have hvT : ∀ j, v.ownBlock = some j → Typed W j 83 ∧ w.heap.size + 2 ≤ j := fun j hj => row_typed h1.1 hj
  have R5 : Rest W w5 (fun i => v.ownBlock = some i) := (Rest.of_below hX (fun i => v.ownBlock = some i)).trans (Rest.of_grown hgr (P := fun i => v.ownBlock = some i) (fun j e => e)) (fun i _ h => h)
  have R6 := Rest.setCell w5 ⟨w.heap.size + 1, 0, none⟩ v'
  have R : Rest W (w5.setCell ⟨w.heap.size + 1, 0, none⟩ v') (fun i => i = w.heap.size + 1 ∨ v.ownBlock = some i) := (R5.mono (fun i h => .inr h)).trans R6 (fun i _ h => .inl h)
  have ob5 : Own w5 (w.heap.size + 1) 25 #[v] := R5.own ob (fun e => by have := (hvT _ e).2; omega)
  have ob6 : Own (w5.setCell ⟨w.heap.size + 1, 0, none⟩ v') (w.heap.size + 1) 25 #[v'] := by
    have := ob5.set_ 0 v'
    simpa using this
  refine ⟨⟨hI.bel.trans (R.to_below hI.bel.size (by
    rintro i hi (e | e)
    · omega
    · have := (hvT i e).2; omega)), R.own hI.o1 (by
    rintro (e | e)
    · omega
    · have := (hvT _ e).2; omega), ⟨v', ob6, hS.rest R6 (fun j t ht hB _ e => by dsimp only at e; omega)⟩, Nat.le_trans hI.lo R.size⟩, fun i t cs ho n1 n2 => R.own ho ?_, R.size⟩
  rintro (e | e)
  · subst e
    exact n1 (by
      have h1 : W.heap[w.heap.size + 1]? = some (.cells #[v] 25 (0, 0)) := ob
      have h2 : W.heap[w.heap.size + 1]? = some (.cells cs t (0, 0)) := ho
      rw [h1] at h2
      injection h2 with h2
      injection h2 with _ h2 _
      exact h2.symm)
  · exact (hvT i e).1.ne ho.typed (fun e => n2 e.symm) rfl
set_option maxRecDepth 100000 in
set_option maxHeartbeats 3200000 in
theorem cput_yes (code : Int) (A : Option Addr) (n c : Nat) (xs : List Int) (w W : World) (opts : Array Value) (L : List (Int × List Int)) (gv : Value) (G : List Int) (hI : OfI w opts W L gv G) (hx : Bytes W W.heap.size A n xs) (hn : n ≤ 1000) (hL : L.length ≤ 1000) :
    Calls Tryd.prog 52 #[.bool true, .int .i64 code, .slice A n c, .pointer (some ⟨w.heap.size + 1, 0, none⟩)] W fun e W' => (∃ u, e = .returned u) ∧ PutR w opts W (L ++ [(code, xs)]) gv G W' := by
  have HI := Lib.hid hI
  obtain ⟨v, ob, L', h1, h2, h3, h4, h5⟩ := hI.box
  obtain ⟨A1, c1, rfl⟩ := h1.form
  have hLl : L'.length ≤ 1000 := by rw [← h2, List.length_map] at hL; exact hL
  have HE := Lib.hid (fun (X w5 : World) v' q => put_end (X := X) (w5 := w5) (v' := v') (q := q) hI ob h1 h2 h3 h4 h5)
  have hrow := Lib.hid h1.1
  have hlo := hI.lo
  have hXn := Lib.hid hx.1
  have hXr := Lib.hid hx.2.1
  have hfl : flat [(⟨A, n, c, xs⟩ : Part)] = xs := by simp [flat]
  have hpt := Lib.hid (show Parts (W.alloc (.cells #[.slice A n c] 43)).drew (W.alloc (.cells #[.slice A n c] 43)).drew.heap.size (some ⟨W.heap.size, 0, none⟩) 1 [(⟨A, n, c, xs⟩ : Part)] from parts_one (c := c) hx 43)
  have hC := Lib.hid (fun (X : World) (A0 : Option Addr) (hp : Parts X X.heap.size A0 1 [(⟨A, n, c, xs⟩ : Part)]) => cat_own (c := 1) hp (by omega) (by rw [hfl]; have := hXn.out; omega))
  rw [hfl] at hC
  clear hI h1 h2 h3 h4 h5 hx hL
  go_enter Tryd.func52, Tryd.ntmps52
  go_wp2_with fail
  refine wp_region_held_drew (S := fun _ => True) (by kernel_rfl) trivial (fun hHeld => ?_)
  refine wpAnyH_take (i := 1) (v := ?_) rfl (by kernel_rfl) (by kernel_rfl) (by kernel_rfl) (fun _ _ _ h => h) (Or.inl ⟨by rfl, ?_⟩) (by assumption) ?_
  rotate_left
  · (intro W hSw; have s0 := hSw; go_simp; try with_reducible rfl)
  simp only [Act.put, List.getElem_toArray, List.getElem_cons_zero, List.getElem_cons_succ, List.setIfInBounds_toArray, List.set_cons_zero, List.set_cons_succ]
  refine wpAnyH_take (i := 2) (v := ?_) rfl (by kernel_rfl) (by kernel_rfl) (by kernel_rfl) (fun _ _ _ h => h) (Or.inl ⟨by rfl, ?_⟩) (by assumption) ?_
  rotate_left
  · (intro W hSw; have s0 := hSw; go_simp; try with_reducible rfl)
  simp only [Act.put, List.getElem_toArray, List.getElem_cons_zero, List.getElem_cons_succ, List.setIfInBounds_toArray, List.set_cons_zero, List.set_cons_succ]
  refine wpAnyH_ready (rs := [0, 3]) (by kernel_rfl) (by simp) ?_
  refine AllReadyH.cons rfl (fun K hK => ?_) (AllReadyH.cons rfl (fun K hK => ?_) AllReadyH.nil)
  · skip
    have c0 := ob.drew.cell (i := 0) (v := .slice A1 L'.length c1) rfl
    go_simp
    refine hK.out _ _ trivial (fun hHeld2 => ?_)
    clear hK K hHeld
    have hHeld := hHeld2
    clear hHeld2
    try simp only [Act.put, List.getElem_toArray, List.getElem_cons_zero, List.getElem_cons_succ, List.setIfInBounds_toArray, List.set_cons_zero, List.set_cons_succ]
    clear c0
    refine wpAnyH_ready (rs := [3]) (by kernel_rfl) (by simp) ?_
    refine AllReadyH.cons rfl (fun K hK => ?_) AllReadyH.nil
    go_simp
    refine hK.out _ _ trivial (fun hHeld2 => ?_)
    clear hK K hHeld
    have hHeld := hHeld2
    clear hHeld2
    try simp only [Act.put, List.getElem_toArray, List.getElem_cons_zero, List.getElem_cons_succ, List.setIfInBounds_toArray, List.set_cons_zero, List.set_cons_succ]
    have hb1 : Below W.heap.size W (W.alloc (.cells #[.slice A n c] 43)).drew := bl_drewN (bl_alloc (bl_refl W) _) 1
    have hs1 : (W.alloc (.cells #[.slice A n c] 43)).drew.heap.size = W.heap.size + 1 := by simp
    have ob1 := ob.step hb1
    have hC1 := hC.out _ _ hpt.out
    rw [hs1] at hC1
    generalize hg1 : (W.alloc (.cells #[.slice A n c] 43)).drew = X1 at *
    clear hg1 hpt
    refine wpAnyH_ready (rs := [4]) (by kernel_rfl) (by simp) ?_
    refine AllReadyH.cons rfl (fun K hK => ?_) AllReadyH.nil
    go_simp
    go_at_call 53
    refine hC1.mono ?_
    rintro e w4 ⟨rfl, ho4, hb4⟩
    rw [← hXn.out]
    have hb5 := bl_trans hb1 (by rw [hs1]; exact hb4)
    have ob4 := ob.step hb5
    refine hK.out _ _ trivial (fun hHeld2 => ?_)
    clear hK K hHeld
    have hHeld := hHeld2
    clear hHeld2
    try simp only [Act.put, List.getElem_toArray, List.getElem_cons_zero, List.getElem_cons_succ, List.setIfInBounds_toArray, List.set_cons_zero, List.set_cons_succ]
    refine wpAnyH_ready (rs := [5]) (by kernel_rfl) (by simp) ?_
    refine AllReadyH.cons rfl (fun K hK => ?_) AllReadyH.nil
    go_simp
    refine hK.out _ _ trivial (fun hHeld2 => ?_)
    clear hK K hHeld
    have hHeld := hHeld2
    clear hHeld2
    try simp only [Act.put, List.getElem_toArray, List.getElem_cons_zero, List.getElem_cons_succ, List.setIfInBounds_toArray, List.set_cons_zero, List.set_cons_succ]
    refine wpAnyH_ready (rs := [6]) (by kernel_rfl) (by simp) ?_
    refine AllReadyH.cons rfl (fun K hK => ?_) AllReadyH.nil
    go_simp
    refine hK.out _ _ trivial (fun hHeld2 => ?_)
    clear hK K hHeld
    have hHeld := hHeld2
    clear hHeld2
    try simp only [Act.put, List.getElem_toArray, List.getElem_cons_zero, List.getElem_cons_succ, List.setIfInBounds_toArray, List.set_cons_zero, List.set_cons_succ]
    have hb6 := bl_alloc hb5 (.cells #[.int .i64 code, .slice (some ⟨W.heap.size + 1, 0, none⟩) n n] 83)
    have oC := Own.new w4 83 #[.int .i64 code, .slice (some ⟨W.heap.size + 1, 0, none⟩) n n]
    have oD := ho4.alloc (.cells #[.int .i64 code, .slice (some ⟨W.heap.size + 1, 0, none⟩) n n] 83)
    have hs6 : w4.heap.size < (w4.alloc (.cells #[.int .i64 code, .slice (some ⟨W.heap.size + 1, 0, none⟩) n n] 83)).heap.size := by simp
    have ob6 := ob.step hb6
    have hr6 := own_belowG hrow.out hb6
    have hs7 := hb6.size
    have hCD : CD (w4.alloc (.cells #[.int .i64 code, .slice (some ⟨W.heap.size + 1, 0, none⟩) n n] 83)) (w.heap.size + 2) ⟨code, some ⟨W.heap.size + 1, 0, none⟩, n, n, xs⟩ := ⟨Own.rowC oD hXn.out.symm (by omega) (show n ≤ maxLen by unfold maxLen; omega), hXn.out, hXr.out⟩
    generalize hg6 : w4.alloc (.cells #[.int .i64 code, .slice (some ⟨W.heap.size + 1, 0, none⟩) n n] 83) = X6 at *
    clear hg6
    refine wpAnyH_ready (rs := [7]) (by kernel_rfl) (by simp) ?_
    refine AllReadyH.cons rfl (fun K hK => ?_) AllReadyH.nil
    refine step_append_at _ rfl _ _ rfl sl_cps (w.heap.size + 2) _ _ _ rfl hr6 _ (some ⟨w4.heap.size, 0, none⟩) 1 1 [.int .i64 code, .slice (some ⟨W.heap.size + 1, 0, none⟩) n n] rfl rfl (Shows.of_owned (xs := [.int .i64 code, .slice (some ⟨W.heap.size + 1, 0, none⟩) n n]) oC hs6) (oneP _ _ _ _) (by unfold maxLen; omega) (by omega) (by omega) ?_
    intro v5 w5 ho5 hg5 _
    obtain ⟨A5, c5, rfl⟩ := own_form ho5
    have hfin := HE.out X6 w5 _ ⟨code, some ⟨W.heap.size + 1, 0, none⟩, n, n, xs⟩ hb6 hCD hn (fun j hj => by cases hj; exact Nat.le_succ _) ho5 hg5
    have ob7 : Own w5 (w.heap.size + 1) 25 #[.slice A1 L'.length c1] := ob6.grown hg5 (fun e => by have := (row_typed hr6 e.symm).2; omega)
    have hf7 := ob7.frozen 0
    refine hK.out _ _ trivial (fun hHeld2 => ?_)
    clear hK K hHeld
    have hHeld := hHeld2
    clear hHeld2
    try simp only [Act.put, List.getElem_toArray, List.getElem_cons_zero, List.getElem_cons_succ, List.setIfInBounds_toArray, List.set_cons_zero, List.set_cons_succ]
    refine wpAnyH_ready (rs := [8]) (by kernel_rfl) (by simp) ?_
    refine AllReadyH.cons rfl (fun K hK => ?_) AllReadyH.nil
    have hc7 := ob7.cell (i := 0) (v := .slice A1 L'.length c1) rfl
    go_simp
    refine hK.out _ _ trivial (fun hHeld2 => ?_)
    clear hK K hHeld
    have hHeld := hHeld2
    clear hHeld2
    try simp only [Act.put, List.getElem_toArray, List.getElem_cons_zero, List.getElem_cons_succ, List.setIfInBounds_toArray, List.set_cons_zero, List.set_cons_succ]
    refine wpAnyH_done (by kernel_rfl) ?_ _
    go_wp2
    go_end0
    exact ⟨⟨_, rfl⟩, hfin⟩
  · skip
    go_simp
    refine hK.out _ _ trivial (fun hHeld2 => ?_)
    clear hK K hHeld
    have hHeld := hHeld2
    clear hHeld2
    try simp only [Act.put, List.getElem_toArray, List.getElem_cons_zero, List.getElem_cons_succ, List.setIfInBounds_toArray, List.set_cons_zero, List.set_cons_succ]
    have hb1 : Below W.heap.size W (W.alloc (.cells #[.slice A n c] 43)).drew := bl_drewN (bl_alloc (bl_refl W) _) 1
    have hs1 : (W.alloc (.cells #[.slice A n c] 43)).drew.heap.size = W.heap.size + 1 := by simp
    have ob1 := ob.step hb1
    have hC1 := hC.out _ _ hpt.out
    rw [hs1] at hC1
    generalize hg1 : (W.alloc (.cells #[.slice A n c] 43)).drew = X1 at *
    clear hg1 hpt
    refine wpAnyH_ready (rs := [0, 4]) (by kernel_rfl) (by simp) ?_
    refine AllReadyH.cons rfl (fun K hK => ?_) (AllReadyH.cons rfl (fun K hK => ?_) AllReadyH.nil)
    · skip
      have c0 := ob1.cell (i := 0) (v := .slice A1 L'.length c1) rfl
      go_simp
      refine hK.out _ _ trivial (fun hHeld2 => ?_)
      clear hK K hHeld
      have hHeld := hHeld2
      clear hHeld2
      try simp only [Act.put, List.getElem_toArray, List.getElem_cons_zero, List.getElem_cons_succ, List.setIfInBounds_toArray, List.set_cons_zero, List.set_cons_succ]
      clear c0
      refine wpAnyH_ready (rs := [4]) (by kernel_rfl) (by simp) ?_
      refine AllReadyH.cons rfl (fun K hK => ?_) AllReadyH.nil
      go_simp
      go_at_call 53
      refine hC1.mono ?_
      rintro e w4 ⟨rfl, ho4, hb4⟩
      rw [← hXn.out]
      have hb5 := bl_trans hb1 (by rw [hs1]; exact hb4)
      have ob4 := ob.step hb5
      refine hK.out _ _ trivial (fun hHeld2 => ?_)
      clear hK K hHeld
      have hHeld := hHeld2
      clear hHeld2
      try simp only [Act.put, List.getElem_toArray, List.getElem_cons_zero, List.getElem_cons_succ, List.setIfInBounds_toArray, List.set_cons_zero, List.set_cons_succ]
      refine wpAnyH_ready (rs := [5]) (by kernel_rfl) (by simp) ?_
      refine AllReadyH.cons rfl (fun K hK => ?_) AllReadyH.nil
      go_simp
      refine hK.out _ _ trivial (fun hHeld2 => ?_)
      clear hK K hHeld
      have hHeld := hHeld2
      clear hHeld2
      try simp only [Act.put, List.getElem_toArray, List.getElem_cons_zero, List.getElem_cons_succ, List.setIfInBounds_toArray, List.set_cons_zero, List.set_cons_succ]
      refine wpAnyH_ready (rs := [6]) (by kernel_rfl) (by simp) ?_
      refine AllReadyH.cons rfl (fun K hK => ?_) AllReadyH.nil
      go_simp
      refine hK.out _ _ trivial (fun hHeld2 => ?_)
      clear hK K hHeld
      have hHeld := hHeld2
      clear hHeld2
      try simp only [Act.put, List.getElem_toArray, List.getElem_cons_zero, List.getElem_cons_succ, List.setIfInBounds_toArray, List.set_cons_zero, List.set_cons_succ]
      have hb6 := bl_alloc hb5 (.cells #[.int .i64 code, .slice (some ⟨W.heap.size + 1, 0, none⟩) n n] 83)
      have oC := Own.new w4 83 #[.int .i64 code, .slice (some ⟨W.heap.size + 1, 0, none⟩) n n]
      have oD := ho4.alloc (.cells #[.int .i64 code, .slice (some ⟨W.heap.size + 1, 0, none⟩) n n] 83)
      have hs6 : w4.heap.size < (w4.alloc (.cells #[.int .i64 code, .slice (some ⟨W.heap.size + 1, 0, none⟩) n n] 83)).heap.size := by simp
      have ob6 := ob.step hb6
      have hr6 := own_belowG hrow.out hb6
      have hs7 := hb6.size
      have hCD : CD (w4.alloc (.cells #[.int .i64 code, .slice (some ⟨W.heap.size + 1, 0, none⟩) n n] 83)) (w.heap.size + 2) ⟨code, some ⟨W.heap.size + 1, 0, none⟩, n, n, xs⟩ := ⟨Own.rowC oD hXn.out.symm (by omega) (show n ≤ maxLen by unfold maxLen; omega), hXn.out, hXr.out⟩
      generalize hg6 : w4.alloc (.cells #[.int .i64 code, .slice (some ⟨W.heap.size + 1, 0, none⟩) n n] 83) = X6 at *
      clear hg6
      refine wpAnyH_ready (rs := [7]) (by kernel_rfl) (by simp) ?_
      refine AllReadyH.cons rfl (fun K hK => ?_) AllReadyH.nil
      refine step_append_at _ rfl _ _ rfl sl_cps (w.heap.size + 2) _ _ _ rfl hr6 _ (some ⟨w4.heap.size, 0, none⟩) 1 1 [.int .i64 code, .slice (some ⟨W.heap.size + 1, 0, none⟩) n n] rfl rfl (Shows.of_owned (xs := [.int .i64 code, .slice (some ⟨W.heap.size + 1, 0, none⟩) n n]) oC hs6) (oneP _ _ _ _) (by unfold maxLen; omega) (by omega) (by omega) ?_
      intro v5 w5 ho5 hg5 _
      obtain ⟨A5, c5, rfl⟩ := own_form ho5
      have hfin := HE.out X6 w5 _ ⟨code, some ⟨W.heap.size + 1, 0, none⟩, n, n, xs⟩ hb6 hCD hn (fun j hj => by cases hj; exact Nat.le_succ _) ho5 hg5
      have ob7 : Own w5 (w.heap.size + 1) 25 #[.slice A1 L'.length c1] := ob6.grown hg5 (fun e => by have := (row_typed hr6 e.symm).2; omega)
      have hf7 := ob7.frozen 0
      refine hK.out _ _ trivial (fun hHeld2 => ?_)
      clear hK K hHeld
      have hHeld := hHeld2
      clear hHeld2
      try simp only [Act.put, List.getElem_toArray, List.getElem_cons_zero, List.getElem_cons_succ, List.setIfInBounds_toArray, List.set_cons_zero, List.set_cons_succ]
      refine wpAnyH_ready (rs := [8]) (by kernel_rfl) (by simp) ?_
      refine AllReadyH.cons rfl (fun K hK => ?_) AllReadyH.nil
      have hc7 := ob7.cell (i := 0) (v := .slice A1 L'.length c1) rfl
      go_simp
      refine hK.out _ _ trivial (fun hHeld2 => ?_)
      clear hK K hHeld
      have hHeld := hHeld2
      clear hHeld2
      try simp only [Act.put, List.getElem_toArray, List.getElem_cons_zero, List.getElem_cons_succ, List.setIfInBounds_toArray, List.set_cons_zero, List.set_cons_succ]
      refine wpAnyH_done (by kernel_rfl) ?_ _
      go_wp2
      go_end0
      exact ⟨⟨_, rfl⟩, hfin⟩
    · skip
      go_simp
      go_at_call 53
      refine hC1.mono ?_
      rintro e w4 ⟨rfl, ho4, hb4⟩
      rw [← hXn.out]
      have hb5 := bl_trans hb1 (by rw [hs1]; exact hb4)
      have ob4 := ob.step hb5
      refine hK.out _ _ trivial (fun hHeld2 => ?_)
      clear hK K hHeld
      have hHeld := hHeld2
      clear hHeld2
      try simp only [Act.put, List.getElem_toArray, List.getElem_cons_zero, List.getElem_cons_succ, List.setIfInBounds_toArray, List.set_cons_zero, List.set_cons_succ]
      refine wpAnyH_ready (rs := [0, 5]) (by kernel_rfl) (by simp) ?_
      refine AllReadyH.cons rfl (fun K hK => ?_) (AllReadyH.cons rfl (fun K hK => ?_) AllReadyH.nil)
      · skip
        have c0 := ob4.cell (i := 0) (v := .slice A1 L'.length c1) rfl
        go_simp
        refine hK.out _ _ trivial (fun hHeld2 => ?_)
        clear hK K hHeld
        have hHeld := hHeld2
        clear hHeld2
        try simp only [Act.put, List.getElem_toArray, List.getElem_cons_zero, List.getElem_cons_succ, List.setIfInBounds_toArray, List.set_cons_zero, List.set_cons_succ]
        clear c0
        refine wpAnyH_ready (rs := [5]) (by kernel_rfl) (by simp) ?_
        refine AllReadyH.cons rfl (fun K hK => ?_) AllReadyH.nil
        go_simp
        refine hK.out _ _ trivial (fun hHeld2 => ?_)
        clear hK K hHeld
        have hHeld := hHeld2
        clear hHeld2
        try simp only [Act.put, List.getElem_toArray, List.getElem_cons_zero, List.getElem_cons_succ, List.setIfInBounds_toArray, List.set_cons_zero, List.set_cons_succ]
        refine wpAnyH_ready (rs := [6]) (by kernel_rfl) (by simp) ?_
        refine AllReadyH.cons rfl (fun K hK => ?_) AllReadyH.nil
        go_simp
        refine hK.out _ _ trivial (fun hHeld2 => ?_)
        clear hK K hHeld
        have hHeld := hHeld2
        clear hHeld2
        try simp only [Act.put, List.getElem_toArray, List.getElem_cons_zero, List.getElem_cons_succ, List.setIfInBounds_toArray, List.set_cons_zero, List.set_cons_succ]
        have hb6 := bl_alloc hb5 (.cells #[.int .i64 code, .slice (some ⟨W.heap.size + 1, 0, none⟩) n n] 83)
        have oC := Own.new w4 83 #[.int .i64 code, .slice (some ⟨W.heap.size + 1, 0, none⟩) n n]
        have oD := ho4.alloc (.cells #[.int .i64 code, .slice (some ⟨W.heap.size + 1, 0, none⟩) n n] 83)
        have hs6 : w4.heap.size < (w4.alloc (.cells #[.int .i64 code, .slice (some ⟨W.heap.size + 1, 0, none⟩) n n] 83)).heap.size := by simp
        have ob6 := ob.step hb6
        have hr6 := own_belowG hrow.out hb6
        have hs7 := hb6.size
        have hCD : CD (w4.alloc (.cells #[.int .i64 code, .slice (some ⟨W.heap.size + 1, 0, none⟩) n n] 83)) (w.heap.size + 2) ⟨code, some ⟨W.heap.size + 1, 0, none⟩, n, n, xs⟩ := ⟨Own.rowC oD hXn.out.symm (by omega) (show n ≤ maxLen by unfold maxLen; omega), hXn.out, hXr.out⟩
        generalize hg6 : w4.alloc (.cells #[.int .i64 code, .slice (some ⟨W.heap.size + 1, 0, none⟩) n n] 83) = X6 at *
        clear hg6
        refine wpAnyH_ready (rs := [7]) (by kernel_rfl) (by simp) ?_
        refine AllReadyH.cons rfl (fun K hK => ?_) AllReadyH.nil
        refine step_append_at _ rfl _ _ rfl sl_cps (w.heap.size + 2) _ _ _ rfl hr6 _ (some ⟨w4.heap.size, 0, none⟩) 1 1 [.int .i64 code, .slice (some ⟨W.heap.size + 1, 0, none⟩) n n] rfl rfl (Shows.of_owned (xs := [.int .i64 code, .slice (some ⟨W.heap.size + 1, 0, none⟩) n n]) oC hs6) (oneP _ _ _ _) (by unfold maxLen; omega) (by omega) (by omega) ?_
        intro v5 w5 ho5 hg5 _
        obtain ⟨A5, c5, rfl⟩ := own_form ho5
        have hfin := HE.out X6 w5 _ ⟨code, some ⟨W.heap.size + 1, 0, none⟩, n, n, xs⟩ hb6 hCD hn (fun j hj => by cases hj; exact Nat.le_succ _) ho5 hg5
        have ob7 : Own w5 (w.heap.size + 1) 25 #[.slice A1 L'.length c1] := ob6.grown hg5 (fun e => by have := (row_typed hr6 e.symm).2; omega)
        have hf7 := ob7.frozen 0
        refine hK.out _ _ trivial (fun hHeld2 => ?_)
        clear hK K hHeld
        have hHeld := hHeld2
        clear hHeld2
        try simp only [Act.put, List.getElem_toArray, List.getElem_cons_zero, List.getElem_cons_succ, List.setIfInBounds_toArray, List.set_cons_zero, List.set_cons_succ]
        refine wpAnyH_ready (rs := [8]) (by kernel_rfl) (by simp) ?_
        refine AllReadyH.cons rfl (fun K hK => ?_) AllReadyH.nil
        have hc7 := ob7.cell (i := 0) (v := .slice A1 L'.length c1) rfl
        go_simp
        refine hK.out _ _ trivial (fun hHeld2 => ?_)
        clear hK K hHeld
        have hHeld := hHeld2
        clear hHeld2
        try simp only [Act.put, List.getElem_toArray, List.getElem_cons_zero, List.getElem_cons_succ, List.setIfInBounds_toArray, List.set_cons_zero, List.set_cons_succ]
        refine wpAnyH_done (by kernel_rfl) ?_ _
        go_wp2
        go_end0
        exact ⟨⟨_, rfl⟩, hfin⟩
      · skip
        go_simp
        refine hK.out _ _ trivial (fun hHeld2 => ?_)
        clear hK K hHeld
        have hHeld := hHeld2
        clear hHeld2
        try simp only [Act.put, List.getElem_toArray, List.getElem_cons_zero, List.getElem_cons_succ, List.setIfInBounds_toArray, List.set_cons_zero, List.set_cons_succ]
        refine wpAnyH_ready (rs := [0, 6]) (by kernel_rfl) (by simp) ?_
        refine AllReadyH.cons rfl (fun K hK => ?_) (AllReadyH.cons rfl (fun K hK => ?_) AllReadyH.nil)
        · skip
          have c0 := ob4.cell (i := 0) (v := .slice A1 L'.length c1) rfl
          go_simp
          refine hK.out _ _ trivial (fun hHeld2 => ?_)
          clear hK K hHeld
          have hHeld := hHeld2
          clear hHeld2
          try simp only [Act.put, List.getElem_toArray, List.getElem_cons_zero, List.getElem_cons_succ, List.setIfInBounds_toArray, List.set_cons_zero, List.set_cons_succ]
          clear c0
          refine wpAnyH_ready (rs := [6]) (by kernel_rfl) (by simp) ?_
          refine AllReadyH.cons rfl (fun K hK => ?_) AllReadyH.nil
          go_simp
          refine hK.out _ _ trivial (fun hHeld2 => ?_)
          clear hK K hHeld
          have hHeld := hHeld2
          clear hHeld2
          try simp only [Act.put, List.getElem_toArray, List.getElem_cons_zero, List.getElem_cons_succ, List.setIfInBounds_toArray, List.set_cons_zero, List.set_cons_succ]
          have hb6 := bl_alloc hb5 (.cells #[.int .i64 code, .slice (some ⟨W.heap.size + 1, 0, none⟩) n n] 83)
          have oC := Own.new w4 83 #[.int .i64 code, .slice (some ⟨W.heap.size + 1, 0, none⟩) n n]
          have oD := ho4.alloc (.cells #[.int .i64 code, .slice (some ⟨W.heap.size + 1, 0, none⟩) n n] 83)
          have hs6 : w4.heap.size < (w4.alloc (.cells #[.int .i64 code, .slice (some ⟨W.heap.size + 1, 0, none⟩) n n] 83)).heap.size := by simp
          have ob6 := ob.step hb6
          have hr6 := own_belowG hrow.out hb6
          have hs7 := hb6.size
          have hCD : CD (w4.alloc (.cells #[.int .i64 code, .slice (some ⟨W.heap.size + 1, 0, none⟩) n n] 83)) (w.heap.size + 2) ⟨code, some ⟨W.heap.size + 1, 0, none⟩, n, n, xs⟩ := ⟨Own.rowC oD hXn.out.symm (by omega) (show n ≤ maxLen by unfold maxLen; omega), hXn.out, hXr.out⟩
          generalize hg6 : w4.alloc (.cells #[.int .i64 code, .slice (some ⟨W.heap.size + 1, 0, none⟩) n n] 83) = X6 at *
          clear hg6
          refine wpAnyH_ready (rs := [7]) (by kernel_rfl) (by simp) ?_
          refine AllReadyH.cons rfl (fun K hK => ?_) AllReadyH.nil
          refine step_append_at _ rfl _ _ rfl sl_cps (w.heap.size + 2) _ _ _ rfl hr6 _ (some ⟨w4.heap.size, 0, none⟩) 1 1 [.int .i64 code, .slice (some ⟨W.heap.size + 1, 0, none⟩) n n] rfl rfl (Shows.of_owned (xs := [.int .i64 code, .slice (some ⟨W.heap.size + 1, 0, none⟩) n n]) oC hs6) (oneP _ _ _ _) (by unfold maxLen; omega) (by omega) (by omega) ?_
          intro v5 w5 ho5 hg5 _
          obtain ⟨A5, c5, rfl⟩ := own_form ho5
          have hfin := HE.out X6 w5 _ ⟨code, some ⟨W.heap.size + 1, 0, none⟩, n, n, xs⟩ hb6 hCD hn (fun j hj => by cases hj; exact Nat.le_succ _) ho5 hg5
          have ob7 : Own w5 (w.heap.size + 1) 25 #[.slice A1 L'.length c1] := ob6.grown hg5 (fun e => by have := (row_typed hr6 e.symm).2; omega)
          have hf7 := ob7.frozen 0
          refine hK.out _ _ trivial (fun hHeld2 => ?_)
          clear hK K hHeld
          have hHeld := hHeld2
          clear hHeld2
          try simp only [Act.put, List.getElem_toArray, List.getElem_cons_zero, List.getElem_cons_succ, List.setIfInBounds_toArray, List.set_cons_zero, List.set_cons_succ]
          refine wpAnyH_ready (rs := [8]) (by kernel_rfl) (by simp) ?_
          refine AllReadyH.cons rfl (fun K hK => ?_) AllReadyH.nil
          have hc7 := ob7.cell (i := 0) (v := .slice A1 L'.length c1) rfl
          go_simp
          refine hK.out _ _ trivial (fun hHeld2 => ?_)
          clear hK K hHeld
          have hHeld := hHeld2
          clear hHeld2
          try simp only [Act.put, List.getElem_toArray, List.getElem_cons_zero, List.getElem_cons_succ, List.setIfInBounds_toArray, List.set_cons_zero, List.set_cons_succ]
          refine wpAnyH_done (by kernel_rfl) ?_ _
          go_wp2
          go_end0
          exact ⟨⟨_, rfl⟩, hfin⟩
        · skip
          go_simp
          refine hK.out _ _ trivial (fun hHeld2 => ?_)
          clear hK K hHeld
          have hHeld := hHeld2
          clear hHeld2
          try simp only [Act.put, List.getElem_toArray, List.getElem_cons_zero, List.getElem_cons_succ, List.setIfInBounds_toArray, List.set_cons_zero, List.set_cons_succ]
          have hb6 := bl_alloc hb5 (.cells #[.int .i64 code, .slice (some ⟨W.heap.size + 1, 0, none⟩) n n] 83)
          have oC := Own.new w4 83 #[.int .i64 code, .slice (some ⟨W.heap.size + 1, 0, none⟩) n n]
          have oD := ho4.alloc (.cells #[.int .i64 code, .slice (some ⟨W.heap.size + 1, 0, none⟩) n n] 83)
          have hs6 : w4.heap.size < (w4.alloc (.cells #[.int .i64 code, .slice (some ⟨W.heap.size + 1, 0, none⟩) n n] 83)).heap.size := by simp
          have ob6 := ob.step hb6
          have hr6 := own_belowG hrow.out hb6
          have hs7 := hb6.size
          have hCD : CD (w4.alloc (.cells #[.int .i64 code, .slice (some ⟨W.heap.size + 1, 0, none⟩) n n] 83)) (w.heap.size + 2) ⟨code, some ⟨W.heap.size + 1, 0, none⟩, n, n, xs⟩ := ⟨Own.rowC oD hXn.out.symm (by omega) (show n ≤ maxLen by unfold maxLen; omega), hXn.out, hXr.out⟩
          generalize hg6 : w4.alloc (.cells #[.int .i64 code, .slice (some ⟨W.heap.size + 1, 0, none⟩) n n] 83) = X6 at *
          clear hg6
          refine wpAnyH_ready (rs := [0]) (by kernel_rfl) (by simp) ?_
          refine AllReadyH.cons rfl (fun K hK => ?_) AllReadyH.nil
          have c0 := ob6.cell (i := 0) (v := .slice A1 L'.length c1) rfl
          go_simp
          refine hK.out _ _ trivial (fun hHeld2 => ?_)
          clear hK K hHeld
          have hHeld := hHeld2
          clear hHeld2
          try simp only [Act.put, List.getElem_toArray, List.getElem_cons_zero, List.getElem_cons_succ, List.setIfInBounds_toArray, List.set_cons_zero, List.set_cons_succ]
          clear c0
          refine wpAnyH_ready (rs := [7]) (by kernel_rfl) (by simp) ?_
          refine AllReadyH.cons rfl (fun K hK => ?_) AllReadyH.nil
          refine step_append_at _ rfl _ _ rfl sl_cps (w.heap.size + 2) _ _ _ rfl hr6 _ (some ⟨w4.heap.size, 0, none⟩) 1 1 [.int .i64 code, .slice (some ⟨W.heap.size + 1, 0, none⟩) n n] rfl rfl (Shows.of_owned (xs := [.int .i64 code, .slice (some ⟨W.heap.size + 1, 0, none⟩) n n]) oC hs6) (oneP _ _ _ _) (by unfold maxLen; omega) (by omega) (by omega) ?_
          intro v5 w5 ho5 hg5 _
          obtain ⟨A5, c5, rfl⟩ := own_form ho5
          have hfin := HE.out X6 w5 _ ⟨code, some ⟨W.heap.size + 1, 0, none⟩, n, n, xs⟩ hb6 hCD hn (fun j hj => by cases hj; exact Nat.le_succ _) ho5 hg5
          have ob7 : Own w5 (w.heap.size + 1) 25 #[.slice A1 L'.length c1] := ob6.grown hg5 (fun e => by have := (row_typed hr6 e.symm).2; omega)
          have hf7 := ob7.frozen 0
          refine hK.out _ _ trivial (fun hHeld2 => ?_)
          clear hK K hHeld
          have hHeld := hHeld2
          clear hHeld2
          try simp only [Act.put, List.getElem_toArray, List.getElem_cons_zero, List.getElem_cons_succ, List.setIfInBounds_toArray, List.set_cons_zero, List.set_cons_succ]
          refine wpAnyH_ready (rs := [8]) (by kernel_rfl) (by simp) ?_
          refine AllReadyH.cons rfl (fun K hK => ?_) AllReadyH.nil
          have hc7 := ob7.cell (i := 0) (v := .slice A1 L'.length c1) rfl
          go_simp
          refine hK.out _ _ trivial (fun hHeld2 => ?_)
          clear hK K hHeld
          have hHeld := hHeld2
          clear hHeld2
          try simp only [Act.put, List.getElem_toArray, List.getElem_cons_zero, List.getElem_cons_succ, List.setIfInBounds_toArray, List.set_cons_zero, List.set_cons_succ]
          refine wpAnyH_done (by kernel_rfl) ?_ _
          go_wp2
          go_end0
          exact ⟨⟨_, rfl⟩, hfin⟩
end Go.Proofs.YtniheakafkakhaaDoor

/- capability.Of: the walk -/
namespace Go.Proofs.YtniheakafkakhaaDoor
open Go.RowKit

theorem PutR.refl {w W : World} {opts : Array Value} {L : List (Int × List Int)} {gv : Value} {G : List Int} (hI : OfI w opts W L gv G) : PutR w opts W L gv G W := ⟨hI, fun _ _ _ h _ _ => h, Nat.le_refl _⟩
set_option maxRecDepth 100000 in
theorem cput_any (b : Bool) (code : Int) (A : Option Addr) (n c : Nat) (xs : List Int) (w W : World) (opts : Array Value) (L : List (Int × List Int)) (gv : Value) (G : List Int) (hI : OfI w opts W L gv G) (hx : Bytes W W.heap.size A n xs) (hn : n ≤ 1000) (hL : L.length ≤ 1000) :
    Calls Tryd.prog 52 #[.bool b, .int .i64 code, .slice A n c, .pointer (some ⟨w.heap.size + 1, 0, none⟩)] W fun e W' => (∃ u, e = .returned u) ∧ PutR w opts W (ofPut b code xs L) gv G W' := by
  cases b
  · refine (cput_no code A n c _ W).mono ?_
    rintro e w' ⟨h1, rfl⟩
    exact ⟨h1, PutR.refl hI⟩
  · exact cput_yes code A n c xs w W opts L gv G hI hx hn hL
theorem ofPut_len (b : Bool) (code : Int) (xs : List Int) (L : List (Int × List Int)) : (ofPut b code xs L).length ≤ L.length + 1 := by
  unfold ofPut
  split <;> simp
theorem OfI.grow {w W X w' : World} {opts : Array Value} {L : List (Int × List Int)} {gv gv' : Value} {G zs : List Int} {m : Nat} (h : OfI w opts W L gv G) (hX : Below W.heap.size W X)
    (hown : w'.ownsRow (w.heap.size + 2) 5 1 gv' (G.length + m) (G.map (Value.int .u8) ++ zs.map (Value.int .u8))) (hm : m = zs.length) (hgr : X.grownBy w' gv.ownBlock) (hat : gv'.ownBlock = gv.ownBlock ∨ gv'.ownBlock = some X.heap.size) : OfI w opts w' L gv' (G ++ zs) := by
  obtain ⟨h1, h2, ⟨v, h3, h4⟩, h5⟩ := h
  have h4' := h4
  obtain ⟨L', _, _, _, hg, _⟩ := h4'
  have hgX := own_belowG hg hX
  have hT : ∀ j, gv.ownBlock = some j → Typed X j 5 ∧ w.heap.size + 2 ≤ j := fun j hj => row_typed hgX hj
  have R := Rest.of_grown hgr (P := fun j => gv.ownBlock = some j) (fun j e => e)
  refine ⟨(bl_trans h1 hX).trans (R.to_below (bl_trans h1 hX).size (fun i hi e => by have := (hT i e).2; omega)), R.own (h2.step hX) (fun e => by have := (hT _ e).2; omega), ⟨v, R.own (h3.step hX) (fun e => by have := (hT _ e).2; omega), ofS_grow of_types.1 h4 hX hown hm hgr hat⟩, Nat.le_trans h5 (Nat.le_trans hX.size R.size)⟩
def ofL (a2 a3 : Bool) : Nat → List (Int × List Int)
  | 0 => []
  | 1 => ofPut a2 1 [0, 1, 0, 1] []
  | _ => ofPut a3 1 [0, 2, 0, 1] (ofPut a2 1 [0, 1, 0, 1] [])
def ofG (a4 a5 : Bool) : Nat → List Int
  | 0 => []
  | 1 => if a4 then [0, 1, 1, 3] else []
  | _ => (if a4 then [0, 1, 1, 3] else []) ++ (if a5 then [0, 2, 1, 3] else [])
theorem ofL_len (a2 a3 : Bool) (j : Nat) : (ofL a2 a3 j).length ≤ 2 := by
  rcases j with _ | _ | j
  · simp [ofL]
  · have := ofPut_len a2 1 [0, 1, 0, 1] []
    simp only [ofL, List.length_nil] at *
    omega
  · have h1 := ofPut_len a2 1 [0, 1, 0, 1] []
    have h2 := ofPut_len a3 1 [0, 2, 0, 1] (ofPut a2 1 [0, 1, 0, 1] [])
    simp only [ofL, List.length_nil] at *
    omega
theorem ofG_ok (a4 a5 : Bool) (j : Nat) : (ofG a4 a5 j).length ≤ 8 ∧ ∀ x ∈ ofG a4 a5 j, 0 ≤ x ∧ x ≤ 255 := by
  rcases j with _ | _ | j <;> cases a4 <;> cases a5 <;> simp [ofG]
set_option maxRecDepth 100000 in
theorem of_round (a2 a3 a4 a5 : Bool) {j : Nat} (hj : j < 2) : ∃ (f : Int) (b g : Bool), (f = 1 ∨ f = 2) ∧ ofL a2 a3 (j + 1) = ofPut b 1 [0, f, 0, 1] (ofL a2 a3 j) ∧ ofG a4 a5 (j + 1) = ofG a4 a5 j ++ (if g then [0, f, 1, 3] else []) ∧
    (∀ W, (Instr.index 85 (.agg #[.int .i64 1, .int .i64 2]) (.int .i64 (j : Int))).run Tryd.prog W = .ok (.int .i64 f) W) ∧ (decide (f = 1) && a2 || decide (f = 2) && a3) = b ∧ (decide (f = 1) && a4 || decide (f = 2) && a5) = g := by
  rcases j with _ | _ | j
  · exact ⟨1, a2, a4, .inl rfl, rfl, by simp [ofG], fun W => by kernel_rfl, by simp, by simp⟩
  · exact ⟨2, a3, a5, .inr rfl, rfl, by simp [ofG], fun W => by kernel_rfl, by simp, by simp⟩
  · omega
/-- The capabilities for options. -/
def ofK (a0 a1 a2 a3 a4 a5 : Bool) (n : Int) : List (Int × List Int) :=
  ofPut (decide (0 < (ofG a4 a5 2).length)) 69 (ofG a4 a5 2) (ofPut a0 65 (digitsOf 4 n) (ofPut a1 6 [] (ofPut true 2 [] (ofL a2 a3 2))))
set_option maxRecDepth 100000 in
theorem op_descO : Tryd.prog.underlying 23 = some (.struct (Tryd.prog.fieldsOf 23)) := by kernel_rfl
set_option maxRecDepth 100000 in
theorem op_infoO (a b c d e f : Value) : (Tryd.prog.info? 23).map (·.size) = some (#[a, b, c, d, e, f] : Array Value).size := by kernel_rfl
set_option maxRecDepth 100000 in
set_option maxHeartbeats 6400000 in
theorem cof_any (a0 a1 a2 a3 a4 a5 : Bool) (an : Int) (h0 : 0 ≤ an) (h1 : an < 4294967296) (w : World) (hf : Fams w) :
    Calls Tryd.prog 11 #[.agg #[.bool a0, .bool a1, .bool a2, .bool a3, .bool a4, .bool a5], .int .u32 an] w fun e w' => ∃ A c L', e = .returned (.slice A (List.length L') c) ∧ Caps w' w'.heap.size A L'.length L' ∧ L'.map cpK = ofK a0 a1 a2 a3 a4 a5 an ∧ (∀ s ∈ L', s.n ≤ 1000) ∧ Below w.heap.size w w' := by
  have HF := Lib.hid hf
  have hPut := Lib.hid (fun W => put_4 an W h0 h1)
  have hR := Lib.hid (fun (j : Nat) (hj : j < 2) => of_round a2 a3 a4 a5 hj)
  have hMP := Lib.hid (fun (f : Int) W => ompA_any a0 a1 a2 a3 a4 a5 f W)
  have hAD := Lib.hid (fun (f : Int) W => oaddA_any a0 a1 a2 a3 a4 a5 f W)
  have hI0 : OfI w #[.bool a0, .bool a1, .bool a2, .bool a3, .bool a4, .bool a5] ((w.alloc (.cells #[.bool a0, .bool a1, .bool a2, .bool a3, .bool a4, .bool a5] 23)).alloc (.cells #[.slice none 0 0] 25)) [] (.slice none 0 0) [] :=
    ⟨bl_alloc (bl_alloc (bl_refl w) _) _, (Own.new w _ _).alloc _, ⟨.slice none 0 0, by have := Own.new (w.alloc (.cells #[.bool a0, .bool a1, .bool a2, .bool a3, .bool a4, .bool a5] 23)) 25 #[.slice none 0 0]; rwa [World.size_alloc] at this, OfS.nil _ _ _⟩, by simp⟩
  clear h0 h1 hf
  go_enter Tryd.func11, Tryd.ntmps11
  go_wp2_with fail
  go_loopw [7, 16] (fun gv i wr => ∃ j : Nat, j ≤ 2 ∧ i = .int .i64 j ∧ OfI w #[.bool a0, .bool a1, .bool a2, .bool a3, .bool a4, .bool a5] wr (ofL a2 a3 j) gv (ofG a4 a5 j)) (fun _ i _ => 2 - (intOf i).toNat)
  case atStart => exact ⟨0, Nat.zero_le _, rfl, hI0⟩
  case round =>
    obtain ⟨j, hj, rfl, hI⟩ := hrel
    clear hI0
    have hbx := hI.box
    obtain ⟨v0, _, hS0⟩ := hbx
    obtain ⟨_, _, _, _, hg0, _⟩ := hS0
    obtain ⟨gvA, gvc, rfl⟩ := own_form hg0
    have HgL : Hid (∀ i : Nat, (Value.slice gvA (ofG a4 a5 j).length gvc).ownBlock = some i → i < wr.heap.size) := Lib.hid (fun i hi => (row_typed hg0 hi).1.lt)
    clear hg0
    by_cases hlt : j < 2
    · obtain ⟨f, b, g, hf12, hL, hG, hidx, hb1, hg1⟩ := hR.out j hlt
      have HL := Lib.hid hL
      have HG := Lib.hid hG
      have H12 := Lib.hid hf12
      have hMP1 := Lib.hid (hMP.out f)
      have hAD1 := Lib.hid (hAD.out f)
      rw [hb1] at hMP1
      rw [hg1] at hAD1
      have hLn := Lib.hid (ofL_len a2 a3 j)
      have hGn := Lib.hid (ofG_ok a4 a5 j)
      have hd4 : Hid (∀ x ∈ [0, f, 0, 1], (0 : Int) ≤ x ∧ x ≤ 255) := Lib.hid (by rcases hf12 with rfl | rfl <;> simp)
      generalize ofL a2 a3 j = L at *
      generalize ofG a4 a5 j = G at *
      clear hL hG hf12 hb1 hg1
      go_wp2_with fail
      refine (codes_yes f _ H12.out (HF.out.below hI.bel)).mono ?_
      rintro e w1 ⟨gC, rfl, hgC, oC, hbC⟩
      have hI1 := hI.below hbC
      clear hI hbC hidx
      go_wp2_with fail
      refine wp_region_held_drew (S := fun X => Own X gC 5 #[.int .u8 0, .int .u8 f, .int .u8 1] ∧ Own X w.heap.size 23 #[.bool a0, .bool a1, .bool a2, .bool a3, .bool a4, .bool a5]) (by kernel_rfl) ⟨oC.drew, hI1.o1.drew⟩ (fun hHeld => ?_)
      have hI2 := hI1.below (bl_drewN (bl_refl w1) 1)
      have oC2 : Own (w1.drewN 1) gC 5 #[.int .u8 0, .int .u8 f, .int .u8 1] := oC
      change OfI w #[.bool a0, .bool a1, .bool a2, .bool a3, .bool a4, .bool a5] w1.drew L _ G at hI2
      change Own w1.drew gC _ _ at oC2
      generalize w1.drew = w2 at *
      clear hI1 oC
      refine wpAnyH_take (i := 0) (v := ?_) rfl (by kernel_rfl) (by kernel_rfl) (by kernel_rfl) (fun _ _ _ h => h) (Or.inl ⟨by rfl, ?_⟩) (by assumption) ?_
      rotate_left
      · (intro W hSw; obtain ⟨s0, s1⟩ := hSw; have e0 := s0.cell (i := 0) (v := .int .u8 0) rfl; have e1 := s0.cell (i := 1) (v := .int .u8 f) rfl; have e2 := s0.cell (i := 2) (v := .int .u8 1) rfl; have q0 := s1.cell (i := 0) (v := .bool a0) rfl; have q1 := s1.cell (i := 1) (v := .bool a1) rfl; have q2 := s1.cell (i := 2) (v := .bool a2) rfl; have q3 := s1.cell (i := 3) (v := .bool a3) rfl; have q4 := s1.cell (i := 4) (v := .bool a4) rfl; have q5 := s1.cell (i := 5) (v := .bool a5) rfl; go_simp; try with_reducible rfl)
      simp only [Act.put, List.getElem_toArray, List.getElem_cons_zero, List.setIfInBounds_toArray, List.set_cons_zero, List.set_cons_succ]
      refine wpAnyH_take (i := 1) (v := ?_) rfl (by kernel_rfl) (by kernel_rfl) (by kernel_rfl) (fun _ _ _ h => h) (Or.inl ⟨by rfl, ?_⟩) (by assumption) ?_
      rotate_left
      · (intro W hSw; obtain ⟨s0, s1⟩ := hSw; have e0 := s0.cell (i := 0) (v := .int .u8 0) rfl; have e1 := s0.cell (i := 1) (v := .int .u8 f) rfl; have e2 := s0.cell (i := 2) (v := .int .u8 1) rfl; have q0 := s1.cell (i := 0) (v := .bool a0) rfl; have q1 := s1.cell (i := 1) (v := .bool a1) rfl; have q2 := s1.cell (i := 2) (v := .bool a2) rfl; have q3 := s1.cell (i := 3) (v := .bool a3) rfl; have q4 := s1.cell (i := 4) (v := .bool a4) rfl; have q5 := s1.cell (i := 5) (v := .bool a5) rfl; go_simp; try with_reducible rfl)
      simp only [Act.put, List.getElem_toArray, List.getElem_cons_zero, List.getElem_cons_succ, List.setIfInBounds_toArray, List.set_cons_zero, List.set_cons_succ]
      refine wpAnyH_take (i := 2) (v := ?_) rfl (by kernel_rfl) (by kernel_rfl) (by kernel_rfl) (fun _ _ _ h => h) (Or.inl ⟨by rfl, ?_⟩) (by assumption) ?_
      rotate_left
      · (intro W hSw; obtain ⟨s0, s1⟩ := hSw; have e0 := s0.cell (i := 0) (v := .int .u8 0) rfl; have e1 := s0.cell (i := 1) (v := .int .u8 f) rfl; have e2 := s0.cell (i := 2) (v := .int .u8 1) rfl; have q0 := s1.cell (i := 0) (v := .bool a0) rfl; have q1 := s1.cell (i := 1) (v := .bool a1) rfl; have q2 := s1.cell (i := 2) (v := .bool a2) rfl; have q3 := s1.cell (i := 3) (v := .bool a3) rfl; have q4 := s1.cell (i := 4) (v := .bool a4) rfl; have q5 := s1.cell (i := 5) (v := .bool a5) rfl; go_simp; try with_reducible rfl)
      simp only [Act.put, List.getElem_toArray, List.getElem_cons_zero, List.getElem_cons_succ, List.setIfInBounds_toArray, List.set_cons_zero, List.set_cons_succ]
      refine wpAnyH_take (i := 4) (v := ?_) rfl (by kernel_rfl) (by kernel_rfl) (by kernel_rfl) (fun _ _ _ h => h) (Or.inl ⟨by rfl, ?_⟩) (by assumption) ?_
      rotate_left
      · (intro W hSw; obtain ⟨s0, s1⟩ := hSw; have e0 := s0.cell (i := 0) (v := .int .u8 0) rfl; have e1 := s0.cell (i := 1) (v := .int .u8 f) rfl; have e2 := s0.cell (i := 2) (v := .int .u8 1) rfl; have q0 := s1.cell (i := 0) (v := .bool a0) rfl; have q1 := s1.cell (i := 1) (v := .bool a1) rfl; have q2 := s1.cell (i := 2) (v := .bool a2) rfl; have q3 := s1.cell (i := 3) (v := .bool a3) rfl; have q4 := s1.cell (i := 4) (v := .bool a4) rfl; have q5 := s1.cell (i := 5) (v := .bool a5) rfl; go_simp; try with_reducible rfl)
      simp only [Act.put, List.getElem_toArray, List.getElem_cons_zero, List.getElem_cons_succ, List.setIfInBounds_toArray, List.set_cons_zero, List.set_cons_succ]
      refine wpAnyH_take (i := 5) (v := ?_) rfl (by kernel_rfl) (by kernel_rfl) (by kernel_rfl) (fun _ _ _ h => h) (Or.inl ⟨by rfl, ?_⟩) (by assumption) ?_
      rotate_left
      · (intro W hSw; obtain ⟨s0, s1⟩ := hSw; have e0 := s0.cell (i := 0) (v := .int .u8 0) rfl; have e1 := s0.cell (i := 1) (v := .int .u8 f) rfl; have e2 := s0.cell (i := 2) (v := .int .u8 1) rfl; have q0 := s1.cell (i := 0) (v := .bool a0) rfl; have q1 := s1.cell (i := 1) (v := .bool a1) rfl; have q2 := s1.cell (i := 2) (v := .bool a2) rfl; have q3 := s1.cell (i := 3) (v := .bool a3) rfl; have q4 := s1.cell (i := 4) (v := .bool a4) rfl; have q5 := s1.cell (i := 5) (v := .bool a5) rfl; go_simp; try with_reducible rfl)
      simp only [Act.put, List.getElem_toArray, List.getElem_cons_zero, List.getElem_cons_succ, List.setIfInBounds_toArray, List.set_cons_zero, List.set_cons_succ]
      refine wpAnyH_take (i := 6) (v := ?_) rfl (by kernel_rfl) (by kernel_rfl) (by kernel_rfl) (fun _ _ _ h => h) (Or.inl ⟨by rfl, ?_⟩) (by assumption) ?_
      rotate_left
      · (intro W hSw; obtain ⟨s0, s1⟩ := hSw; have e0 := s0.cell (i := 0) (v := .int .u8 0) rfl; have e1 := s0.cell (i := 1) (v := .int .u8 f) rfl; have e2 := s0.cell (i := 2) (v := .int .u8 1) rfl; have q0 := s1.cell (i := 0) (v := .bool a0) rfl; have q1 := s1.cell (i := 1) (v := .bool a1) rfl; have q2 := s1.cell (i := 2) (v := .bool a2) rfl; have q3 := s1.cell (i := 3) (v := .bool a3) rfl; have q4 := s1.cell (i := 4) (v := .bool a4) rfl; have q5 := s1.cell (i := 5) (v := .bool a5) rfl; go_simp; try with_reducible rfl)
      simp only [Act.put, List.getElem_toArray, List.getElem_cons_zero, List.getElem_cons_succ, List.setIfInBounds_toArray, List.set_cons_zero, List.set_cons_succ]
      refine wpAnyH_take (i := 7) (v := ?_) rfl (by kernel_rfl) (by kernel_rfl) (by kernel_rfl) (fun _ _ _ h => h) (Or.inl ⟨by rfl, ?_⟩) (by assumption) ?_
      rotate_left
      · (intro W hSw; obtain ⟨s0, s1⟩ := hSw; have e0 := s0.cell (i := 0) (v := .int .u8 0) rfl; have e1 := s0.cell (i := 1) (v := .int .u8 f) rfl; have e2 := s0.cell (i := 2) (v := .int .u8 1) rfl; have q0 := s1.cell (i := 0) (v := .bool a0) rfl; have q1 := s1.cell (i := 1) (v := .bool a1) rfl; have q2 := s1.cell (i := 2) (v := .bool a2) rfl; have q3 := s1.cell (i := 3) (v := .bool a3) rfl; have q4 := s1.cell (i := 4) (v := .bool a4) rfl; have q5 := s1.cell (i := 5) (v := .bool a5) rfl; go_simp; try with_reducible rfl)
      simp only [Act.put, List.getElem_toArray, List.getElem_cons_zero, List.getElem_cons_succ, List.setIfInBounds_toArray, List.set_cons_zero, List.set_cons_succ]
      refine wpAnyH_take (i := 8) (v := ?_) rfl (by kernel_rfl) (by kernel_rfl) (by kernel_rfl) (fun _ _ _ h => h) (Or.inl ⟨by rfl, ?_⟩) (by assumption) ?_
      rotate_left
      · (intro W hSw; obtain ⟨s0, s1⟩ := hSw; have e0 := s0.cell (i := 0) (v := .int .u8 0) rfl; have e1 := s0.cell (i := 1) (v := .int .u8 f) rfl; have e2 := s0.cell (i := 2) (v := .int .u8 1) rfl; have q0 := s1.cell (i := 0) (v := .bool a0) rfl; have q1 := s1.cell (i := 1) (v := .bool a1) rfl; have q2 := s1.cell (i := 2) (v := .bool a2) rfl; have q3 := s1.cell (i := 3) (v := .bool a3) rfl; have q4 := s1.cell (i := 4) (v := .bool a4) rfl; have q5 := s1.cell (i := 5) (v := .bool a5) rfl; go_simp; try with_reducible rfl)
      simp only [Act.put, List.getElem_toArray, List.getElem_cons_zero, List.getElem_cons_succ, List.setIfInBounds_toArray, List.set_cons_zero, List.set_cons_succ]
      refine wpAnyH_take (i := 9) (v := ?_) rfl (by kernel_rfl) (by kernel_rfl) (by kernel_rfl) (fun _ _ _ h => h) (Or.inl ⟨by rfl, ?_⟩) (by assumption) ?_
      rotate_left
      · (intro W hSw; obtain ⟨s0, s1⟩ := hSw; have e0 := s0.cell (i := 0) (v := .int .u8 0) rfl; have e1 := s0.cell (i := 1) (v := .int .u8 f) rfl; have e2 := s0.cell (i := 2) (v := .int .u8 1) rfl; have q0 := s1.cell (i := 0) (v := .bool a0) rfl; have q1 := s1.cell (i := 1) (v := .bool a1) rfl; have q2 := s1.cell (i := 2) (v := .bool a2) rfl; have q3 := s1.cell (i := 3) (v := .bool a3) rfl; have q4 := s1.cell (i := 4) (v := .bool a4) rfl; have q5 := s1.cell (i := 5) (v := .bool a5) rfl; go_simp; try with_reducible rfl)
      simp only [Act.put, List.getElem_toArray, List.getElem_cons_zero, List.getElem_cons_succ, List.setIfInBounds_toArray, List.set_cons_zero, List.set_cons_succ]
      refine wpAnyH_take (i := 10) (v := ?_) rfl (by kernel_rfl) (by kernel_rfl) (by kernel_rfl) (fun _ _ _ h => h) (Or.inl ⟨by rfl, ?_⟩) (by assumption) ?_
      rotate_left
      · (intro W hSw; obtain ⟨s0, s1⟩ := hSw; have e0 := s0.cell (i := 0) (v := .int .u8 0) rfl; have e1 := s0.cell (i := 1) (v := .int .u8 f) rfl; have e2 := s0.cell (i := 2) (v := .int .u8 1) rfl; have q0 := s1.cell (i := 0) (v := .bool a0) rfl; have q1 := s1.cell (i := 1) (v := .bool a1) rfl; have q2 := s1.cell (i := 2) (v := .bool a2) rfl; have q3 := s1.cell (i := 3) (v := .bool a3) rfl; have q4 := s1.cell (i := 4) (v := .bool a4) rfl; have q5 := s1.cell (i := 5) (v := .bool a5) rfl; go_simp; try with_reducible rfl)
      simp only [Act.put, List.getElem_toArray, List.getElem_cons_zero, List.getElem_cons_succ, List.setIfInBounds_toArray, List.set_cons_zero, List.set_cons_succ]
      refine wpAnyH_take (i := 11) (v := ?_) rfl (by kernel_rfl) (by kernel_rfl) (by kernel_rfl) (fun _ _ _ h => h) (Or.inl ⟨by rfl, ?_⟩) (by assumption) ?_
      rotate_left
      · (intro W hSw; obtain ⟨s0, s1⟩ := hSw; have e0 := s0.cell (i := 0) (v := .int .u8 0) rfl; have e1 := s0.cell (i := 1) (v := .int .u8 f) rfl; have e2 := s0.cell (i := 2) (v := .int .u8 1) rfl; have q0 := s1.cell (i := 0) (v := .bool a0) rfl; have q1 := s1.cell (i := 1) (v := .bool a1) rfl; have q2 := s1.cell (i := 2) (v := .bool a2) rfl; have q3 := s1.cell (i := 3) (v := .bool a3) rfl; have q4 := s1.cell (i := 4) (v := .bool a4) rfl; have q5 := s1.cell (i := 5) (v := .bool a5) rfl; go_simp; try with_reducible rfl)
      simp only [Act.put, List.getElem_toArray, List.getElem_cons_zero, List.getElem_cons_succ, List.setIfInBounds_toArray, List.set_cons_zero, List.set_cons_succ]
      refine wpAnyH_take (i := 12) (v := ?_) rfl (by kernel_rfl) (by kernel_rfl) (by kernel_rfl) (fun _ _ _ h => h) (Or.inl ⟨by rfl, ?_⟩) (by assumption) ?_
      rotate_left
      · (intro W hSw; obtain ⟨s0, s1⟩ := hSw; have e0 := s0.cell (i := 0) (v := .int .u8 0) rfl; have e1 := s0.cell (i := 1) (v := .int .u8 f) rfl; have e2 := s0.cell (i := 2) (v := .int .u8 1) rfl; have q0 := s1.cell (i := 0) (v := .bool a0) rfl; have q1 := s1.cell (i := 1) (v := .bool a1) rfl; have q2 := s1.cell (i := 2) (v := .bool a2) rfl; have q3 := s1.cell (i := 3) (v := .bool a3) rfl; have q4 := s1.cell (i := 4) (v := .bool a4) rfl; have q5 := s1.cell (i := 5) (v := .bool a5) rfl; go_simp; try with_reducible rfl)
      simp only [Act.put, List.getElem_toArray, List.getElem_cons_zero, List.getElem_cons_succ, List.setIfInBounds_toArray, List.set_cons_zero, List.set_cons_succ]
      refine wpAnyH_ready (rs := [3, 13]) (by kernel_rfl) (by simp) ?_
      refine (AllReadyH.cons rfl (fun K hK => ?_) (AllReadyH.cons rfl (fun K hK => ?_) AllReadyH.nil))
      · skip
        go_simp
        go_at_call 55
        refine (hMP1.out _).mono ?_
        rintro e w4 ⟨rfl, hbM⟩
        have hI3 := hI2.below hbM
        have oC3 := oC2.step hbM
        clear hbM
        refine hK.out _ _ ⟨oC3, hI3.o1⟩ (fun hHeld2 => ?_)
        clear hK K hHeld
        have hHeld := hHeld2
        clear hHeld2
        try simp only [Act.put, List.getElem_toArray, List.getElem_cons_zero, List.getElem_cons_succ, List.setIfInBounds_toArray, List.set_cons_zero, List.set_cons_succ]
        refine wpAnyH_ready (rs := [13]) (by kernel_rfl) (by simp) ?_
        refine (AllReadyH.cons rfl (fun K hK => ?_) AllReadyH.nil)
        go_simp
        have hbA := bl_alloc (bl_refl w4) (.cells #[.int .u8 0, .int .u8 f, .int .u8 0, .int .u8 1] 5)
        have hI4 := hI3.below hbA
        have oC4 := oC3.step hbA
        have oD := Own.new w4 5 #[.int .u8 0, .int .u8 f, .int .u8 0, .int .u8 1]
        refine hK.out _ _ ⟨oC4, hI4.o1⟩ (fun hHeld2 => ?_)
        clear hK K hHeld
        have hHeld := hHeld2
        clear hHeld2
        try simp only [Act.put, List.getElem_toArray, List.getElem_cons_zero, List.getElem_cons_succ, List.setIfInBounds_toArray, List.set_cons_zero, List.set_cons_succ]
        generalize hgA : w4.alloc (.cells #[.int .u8 0, .int .u8 f, .int .u8 0, .int .u8 1] 5) = XA at *
        clear hgA hbA
        refine wpAnyH_ready (rs := [14]) (by kernel_rfl) (by simp) ?_
        refine (AllReadyH.cons rfl (fun K hK => ?_) AllReadyH.nil)
        go_simp
        go_at_call 52
        have hBD : Bytes XA XA.heap.size (some ⟨w4.heap.size, 0, none⟩) 4 [0, f, 0, 1] := Bytes.of_owned (xs := [0, f, 0, 1]) oD hd4.out oD.lt
        refine (cput_any b 1 (some ⟨w4.heap.size, 0, none⟩) 4 4 [0, f, 0, 1] w XA #[.bool a0, .bool a1, .bool a2, .bool a3, .bool a4, .bool a5] L _ G hI4 hBD (by omega) (by have := hLn.out; omega)).mono ?_
        rintro e w6 ⟨⟨u38, rfl⟩, hP6⟩
        rw [← HL.out] at hP6
        have oC6 := hP6.2.1 _ _ _ oC4 (by decide) (by decide)
        refine hK.out _ _ ⟨oC6, hP6.1.o1⟩ (fun hHeld2 => ?_)
        clear hK K hHeld
        have hHeld := hHeld2
        clear hHeld2
        try simp only [Act.put, List.getElem_toArray, List.getElem_cons_zero, List.getElem_cons_succ, List.setIfInBounds_toArray, List.set_cons_zero, List.set_cons_succ]
        refine wpAnyH_done (by kernel_rfl) ?_ _
        have hI6 := hP6.1
        clear hP6 oD hBD
        go_wp2_with (first | (refine wpList_load_row rfl 23 _ rfl w.heap.size rfl 23 #[.bool a0, .bool a1, .bool a2, .bool a3, .bool a4, .bool a5] (0, 0) (.struct (Tryd.prog.fieldsOf 23)) hI6.o1 op_descO rfl (op_infoO _ _ _ _ _ _) ?_))
        refine (hAD1.out _).mono ?_
        rintro e w7 ⟨rfl, hb7⟩
        have hI7 := hI6.below hb7
        have oC7 := oC6.step hb7
        clear hI6 oC6 hb7
        cases g
        · rw [if_neg (by decide), List.append_nil] at HG
          go_wp2
          go_roundw
          case rel => exact ⟨j + 1, hlt, by go_num, by rw [HG.out]; exact hI7⟩
          case measure => simp [intOf]; omega
        · rw [if_pos rfl] at HG
          go_wp2_with fail
          refine wp_region_held_drew (S := fun X => Own X gC 5 #[.int .u8 0, .int .u8 f, .int .u8 1]) (by kernel_rfl) oC7.drew (fun hHeld => ?_)
          have hI8 := hI7.below (bl_drewN (bl_refl w7) 1)
          have oC8 : Own (w7.drewN 1) gC 5 #[.int .u8 0, .int .u8 f, .int .u8 1] := oC7
          change OfI w #[.bool a0, .bool a1, .bool a2, .bool a3, .bool a4, .bool a5] w7.drew _ _ G at hI8
          change Own w7.drew gC _ _ at oC8
          generalize w7.drew = w8 at *
          clear hI7 oC7
          refine wpAnyH_take (i := 0) (v := ?_) rfl (by kernel_rfl) (by kernel_rfl) (by kernel_rfl) (fun _ _ _ h => h) (Or.inl ⟨by rfl, ?_⟩) (by assumption) ?_
          rotate_left
          · (intro W hSw; have s0 : Own W gC 5 #[.int .u8 0, .int .u8 f, .int .u8 1] := hSw; have e0 := s0.cell (i := 0) (v := .int .u8 0) rfl; have e1 := s0.cell (i := 1) (v := .int .u8 f) rfl; have e2 := s0.cell (i := 2) (v := .int .u8 1) rfl; go_simp; try with_reducible rfl)
          simp only [Act.put, List.getElem_toArray, List.getElem_cons_zero, List.setIfInBounds_toArray, List.set_cons_zero, List.set_cons_succ]
          refine wpAnyH_take (i := 1) (v := ?_) rfl (by kernel_rfl) (by kernel_rfl) (by kernel_rfl) (fun _ _ _ h => h) (Or.inl ⟨by rfl, ?_⟩) (by assumption) ?_
          rotate_left
          · (intro W hSw; have s0 : Own W gC 5 #[.int .u8 0, .int .u8 f, .int .u8 1] := hSw; have e0 := s0.cell (i := 0) (v := .int .u8 0) rfl; have e1 := s0.cell (i := 1) (v := .int .u8 f) rfl; have e2 := s0.cell (i := 2) (v := .int .u8 1) rfl; go_simp; try with_reducible rfl)
          simp only [Act.put, List.getElem_toArray, List.getElem_cons_zero, List.getElem_cons_succ, List.setIfInBounds_toArray, List.set_cons_zero, List.set_cons_succ]
          refine wpAnyH_take (i := 2) (v := ?_) rfl (by kernel_rfl) (by kernel_rfl) (by kernel_rfl) (fun _ _ _ h => h) (Or.inl ⟨by rfl, ?_⟩) (by assumption) ?_
          rotate_left
          · (intro W hSw; have s0 : Own W gC 5 #[.int .u8 0, .int .u8 f, .int .u8 1] := hSw; have e0 := s0.cell (i := 0) (v := .int .u8 0) rfl; have e1 := s0.cell (i := 1) (v := .int .u8 f) rfl; have e2 := s0.cell (i := 2) (v := .int .u8 1) rfl; go_simp; try with_reducible rfl)
          simp only [Act.put, List.getElem_toArray, List.getElem_cons_zero, List.getElem_cons_succ, List.setIfInBounds_toArray, List.set_cons_zero, List.set_cons_succ]
          refine wpAnyH_take (i := 3) (v := ?_) rfl (by kernel_rfl) (by kernel_rfl) (by kernel_rfl) (fun _ _ _ h => h) (Or.inl ⟨by rfl, ?_⟩) (by assumption) ?_
          rotate_left
          · (intro W hSw; have s0 : Own W gC 5 #[.int .u8 0, .int .u8 f, .int .u8 1] := hSw; have e0 := s0.cell (i := 0) (v := .int .u8 0) rfl; have e1 := s0.cell (i := 1) (v := .int .u8 f) rfl; have e2 := s0.cell (i := 2) (v := .int .u8 1) rfl; go_simp; try with_reducible rfl)
          simp only [Act.put, List.getElem_toArray, List.getElem_cons_zero, List.getElem_cons_succ, List.setIfInBounds_toArray, List.set_cons_zero, List.set_cons_succ]
          refine wpAnyH_take (i := 4) (v := ?_) rfl (by kernel_rfl) (by kernel_rfl) (by kernel_rfl) (fun _ _ _ h => h) (Or.inl ⟨by rfl, ?_⟩) (by assumption) ?_
          rotate_left
          · (intro W hSw; have s0 : Own W gC 5 #[.int .u8 0, .int .u8 f, .int .u8 1] := hSw; have e0 := s0.cell (i := 0) (v := .int .u8 0) rfl; have e1 := s0.cell (i := 1) (v := .int .u8 f) rfl; have e2 := s0.cell (i := 2) (v := .int .u8 1) rfl; go_simp; try with_reducible rfl)
          simp only [Act.put, List.getElem_toArray, List.getElem_cons_zero, List.getElem_cons_succ, List.setIfInBounds_toArray, List.set_cons_zero, List.set_cons_succ]
          refine wpAnyH_take (i := 5) (v := ?_) rfl (by kernel_rfl) (by kernel_rfl) (by kernel_rfl) (fun _ _ _ h => h) (Or.inl ⟨by rfl, ?_⟩) (by assumption) ?_
          rotate_left
          · (intro W hSw; have s0 : Own W gC 5 #[.int .u8 0, .int .u8 f, .int .u8 1] := hSw; have e0 := s0.cell (i := 0) (v := .int .u8 0) rfl; have e1 := s0.cell (i := 1) (v := .int .u8 f) rfl; have e2 := s0.cell (i := 2) (v := .int .u8 1) rfl; go_simp; try with_reducible rfl)
          simp only [Act.put, List.getElem_toArray, List.getElem_cons_zero, List.getElem_cons_succ, List.setIfInBounds_toArray, List.set_cons_zero, List.set_cons_succ]
          refine wpAnyH_take (i := 6) (v := ?_) rfl (by kernel_rfl) (by kernel_rfl) (by kernel_rfl) (fun _ _ _ h => h) (Or.inl ⟨by rfl, ?_⟩) (by assumption) ?_
          rotate_left
          · (intro W hSw; have s0 : Own W gC 5 #[.int .u8 0, .int .u8 f, .int .u8 1] := hSw; have e0 := s0.cell (i := 0) (v := .int .u8 0) rfl; have e1 := s0.cell (i := 1) (v := .int .u8 f) rfl; have e2 := s0.cell (i := 2) (v := .int .u8 1) rfl; go_simp; try with_reducible rfl)
          simp only [Act.put, List.getElem_toArray, List.getElem_cons_zero, List.getElem_cons_succ, List.setIfInBounds_toArray, List.set_cons_zero, List.set_cons_succ]
          refine wpAnyH_take (i := 7) (v := ?_) rfl (by kernel_rfl) (by kernel_rfl) (by kernel_rfl) (fun _ _ _ h => h) (Or.inl ⟨by rfl, ?_⟩) (by assumption) ?_
          rotate_left
          · (intro W hSw; have s0 : Own W gC 5 #[.int .u8 0, .int .u8 f, .int .u8 1] := hSw; have e0 := s0.cell (i := 0) (v := .int .u8 0) rfl; have e1 := s0.cell (i := 1) (v := .int .u8 f) rfl; have e2 := s0.cell (i := 2) (v := .int .u8 1) rfl; go_simp; try with_reducible rfl)
          simp only [Act.put, List.getElem_toArray, List.getElem_cons_zero, List.getElem_cons_succ, List.setIfInBounds_toArray, List.set_cons_zero, List.set_cons_succ]
          refine wpAnyH_take (i := 8) (v := ?_) rfl (by kernel_rfl) (by kernel_rfl) (by kernel_rfl) (fun _ _ _ h => h) (Or.inl ⟨by rfl, ?_⟩) (by assumption) ?_
          rotate_left
          · (intro W hSw; have s0 : Own W gC 5 #[.int .u8 0, .int .u8 f, .int .u8 1] := hSw; have e0 := s0.cell (i := 0) (v := .int .u8 0) rfl; have e1 := s0.cell (i := 1) (v := .int .u8 f) rfl; have e2 := s0.cell (i := 2) (v := .int .u8 1) rfl; go_simp; try with_reducible rfl)
          simp only [Act.put, List.getElem_toArray, List.getElem_cons_zero, List.getElem_cons_succ, List.setIfInBounds_toArray, List.set_cons_zero, List.set_cons_succ]
          refine wpAnyH_take (i := 9) (v := ?_) rfl (by kernel_rfl) (by kernel_rfl) (by kernel_rfl) (fun _ _ _ h => h) (Or.inl ⟨by rfl, ?_⟩) (by assumption) ?_
          rotate_left
          · (intro W hSw; have s0 : Own W gC 5 #[.int .u8 0, .int .u8 f, .int .u8 1] := hSw; have e0 := s0.cell (i := 0) (v := .int .u8 0) rfl; have e1 := s0.cell (i := 1) (v := .int .u8 f) rfl; have e2 := s0.cell (i := 2) (v := .int .u8 1) rfl; go_simp; try with_reducible rfl)
          simp only [Act.put, List.getElem_toArray, List.getElem_cons_zero, List.getElem_cons_succ, List.setIfInBounds_toArray, List.set_cons_zero, List.set_cons_succ]
          refine wpAnyH_ready (rs := [10]) (by kernel_rfl) (by simp) ?_
          refine (AllReadyH.cons rfl (fun K hK => ?_) AllReadyH.nil)
          go_simp
          have hbB := bl_alloc (bl_refl w8) (.cells #[.int .u8 0, .int .u8 f, .int .u8 1, .int .u8 3] 5)
          have oE := Own.new w8 5 #[.int .u8 0, .int .u8 f, .int .u8 1, .int .u8 3]
          have hsB : w8.heap.size < (w8.alloc (.cells #[.int .u8 0, .int .u8 f, .int .u8 1, .int .u8 3] 5)).heap.size := by simp
          have oC9 := oC8.step hbB
          refine hK.out _ _ oC9 (fun hHeld2 => ?_)
          clear hK K hHeld
          have hHeld := hHeld2
          clear hHeld2
          try simp only [Act.put, List.getElem_toArray, List.getElem_cons_zero, List.getElem_cons_succ, List.setIfInBounds_toArray, List.set_cons_zero, List.set_cons_succ]
          generalize hgB : w8.alloc (.cells #[.int .u8 0, .int .u8 f, .int .u8 1, .int .u8 3] 5) = XB at *
          clear hgB
          have hgr9 : XB.ownsRow (w.heap.size + 2) 5 1 (.slice gvA G.length gvc) G.length (G.map (Value.int .u8)) := by
            obtain ⟨v, _, hS⟩ := hI8.box
            obtain ⟨_, _, _, _, hg, _⟩ := hS
            exact own_belowG hg hbB
          have hlo9 := Nat.le_trans hI8.lo hbB.size
          refine wpAnyH_ready (rs := [11]) (by kernel_rfl) (by simp) ?_
          refine (AllReadyH.cons rfl (fun K hK => ?_) AllReadyH.nil)
          refine step_append_at _ rfl _ _ rfl sl_bytes (w.heap.size + 2) _ _ _ rfl hgr9 _ (some ⟨w8.heap.size, 0, none⟩) 4 4 [.int .u8 0, .int .u8 f, .int .u8 1, .int .u8 3] rfl rfl (Shows.of_owned (xs := [.int .u8 0, .int .u8 f, .int .u8 1, .int .u8 3]) oE hsB) (one8 [0, f, 1, 3]) (by unfold maxLen; have := hGn.out.1; omega) (by have := hGn.out.1; omega) hlo9 ?_
          intro v5 w9 ho9 hg9 hat9
          have hI9 := hI8.grow (zs := [0, f, 1, 3]) hbB ho9 rfl hg9 hat9
          rw [← HG.out] at hI9
          have oC11 : Own w9 gC 5 #[.int .u8 0, .int .u8 f, .int .u8 1] := oC9.grown hg9 (fun e => by have := HgL.out _ e.symm; omega)
          refine hK.out _ _ oC11 (fun hHeld2 => ?_)
          clear hK K hHeld
          have hHeld := hHeld2
          clear hHeld2
          try simp only [Act.put, List.getElem_toArray, List.getElem_cons_zero, List.getElem_cons_succ, List.setIfInBounds_toArray, List.set_cons_zero, List.set_cons_succ]
          refine wpAnyH_ready (rs := [12]) (by kernel_rfl) (by simp) ?_
          refine (AllReadyH.cons rfl (fun K hK => ?_) AllReadyH.nil)
          go_simp
          refine hK.out _ _ oC11 (fun hHeld2 => ?_)
          clear hK K hHeld
          have hHeld := hHeld2
          clear hHeld2
          try simp only [Act.put, List.getElem_toArray, List.getElem_cons_zero, List.getElem_cons_succ, List.setIfInBounds_toArray, List.set_cons_zero, List.set_cons_succ]
          refine wpAnyH_done (by kernel_rfl) ?_ _
          go_wp2
          go_roundw
          case rel => exact ⟨j + 1, hlt, by go_num, hI9⟩
          case measure => simp [intOf]; omega
      · skip
        go_simp
        have hbA := bl_alloc (bl_refl w2) (.cells #[.int .u8 0, .int .u8 f, .int .u8 0, .int .u8 1] 5)
        have hI3a := hI2.below hbA
        have oC3a := oC2.step hbA
        have oD := Own.new w2 5 #[.int .u8 0, .int .u8 f, .int .u8 0, .int .u8 1]
        refine hK.out _ _ ⟨oC3a, hI3a.o1⟩ (fun hHeld2 => ?_)
        clear hK K hHeld
        have hHeld := hHeld2
        clear hHeld2
        try simp only [Act.put, List.getElem_toArray, List.getElem_cons_zero, List.getElem_cons_succ, List.setIfInBounds_toArray, List.set_cons_zero, List.set_cons_succ]
        generalize hgA : w2.alloc (.cells #[.int .u8 0, .int .u8 f, .int .u8 0, .int .u8 1] 5) = XA at *
        clear hgA hbA
        refine wpAnyH_ready (rs := [3]) (by kernel_rfl) (by simp) ?_
        refine (AllReadyH.cons rfl (fun K hK => ?_) AllReadyH.nil)
        go_simp
        go_at_call 55
        refine (hMP1.out _).mono ?_
        rintro e w4 ⟨rfl, hbM⟩
        have hI4 := hI3a.below hbM
        have oC4 := oC3a.step hbM
        replace oD := oD.step hbM
        clear hbM
        refine hK.out _ _ ⟨oC4, hI4.o1⟩ (fun hHeld2 => ?_)
        clear hK K hHeld
        have hHeld := hHeld2
        clear hHeld2
        try simp only [Act.put, List.getElem_toArray, List.getElem_cons_zero, List.getElem_cons_succ, List.setIfInBounds_toArray, List.set_cons_zero, List.set_cons_succ]
        refine wpAnyH_ready (rs := [14]) (by kernel_rfl) (by simp) ?_
        refine (AllReadyH.cons rfl (fun K hK => ?_) AllReadyH.nil)
        go_simp
        go_at_call 52
        have hBD : Bytes w4 w4.heap.size (some ⟨w2.heap.size, 0, none⟩) 4 [0, f, 0, 1] := Bytes.of_owned (xs := [0, f, 0, 1]) oD hd4.out oD.lt
        refine (cput_any b 1 (some ⟨w2.heap.size, 0, none⟩) 4 4 [0, f, 0, 1] w w4 #[.bool a0, .bool a1, .bool a2, .bool a3, .bool a4, .bool a5] L _ G hI4 hBD (by omega) (by have := hLn.out; omega)).mono ?_
        rintro e w6 ⟨⟨u38, rfl⟩, hP6⟩
        rw [← HL.out] at hP6
        have oC6 := hP6.2.1 _ _ _ oC4 (by decide) (by decide)
        refine hK.out _ _ ⟨oC6, hP6.1.o1⟩ (fun hHeld2 => ?_)
        clear hK K hHeld
        have hHeld := hHeld2
        clear hHeld2
        try simp only [Act.put, List.getElem_toArray, List.getElem_cons_zero, List.getElem_cons_succ, List.setIfInBounds_toArray, List.set_cons_zero, List.set_cons_succ]
        refine wpAnyH_done (by kernel_rfl) ?_ _
        have hI6 := hP6.1
        clear hP6 oD hBD
        go_wp2_with (first | (refine wpList_load_row rfl 23 _ rfl w.heap.size rfl 23 #[.bool a0, .bool a1, .bool a2, .bool a3, .bool a4, .bool a5] (0, 0) (.struct (Tryd.prog.fieldsOf 23)) hI6.o1 op_descO rfl (op_infoO _ _ _ _ _ _) ?_))
        refine (hAD1.out _).mono ?_
        rintro e w7 ⟨rfl, hb7⟩
        have hI7 := hI6.below hb7
        have oC7 := oC6.step hb7
        clear hI6 oC6 hb7
        cases g
        · rw [if_neg (by decide), List.append_nil] at HG
          go_wp2
          go_roundw
          case rel => exact ⟨j + 1, hlt, by go_num, by rw [HG.out]; exact hI7⟩
          case measure => simp [intOf]; omega
        · rw [if_pos rfl] at HG
          go_wp2_with fail
          refine wp_region_held_drew (S := fun X => Own X gC 5 #[.int .u8 0, .int .u8 f, .int .u8 1]) (by kernel_rfl) oC7.drew (fun hHeld => ?_)
          have hI8 := hI7.below (bl_drewN (bl_refl w7) 1)
          have oC8 : Own (w7.drewN 1) gC 5 #[.int .u8 0, .int .u8 f, .int .u8 1] := oC7
          change OfI w #[.bool a0, .bool a1, .bool a2, .bool a3, .bool a4, .bool a5] w7.drew _ _ G at hI8
          change Own w7.drew gC _ _ at oC8
          generalize w7.drew = w8 at *
          clear hI7 oC7
          refine wpAnyH_take (i := 0) (v := ?_) rfl (by kernel_rfl) (by kernel_rfl) (by kernel_rfl) (fun _ _ _ h => h) (Or.inl ⟨by rfl, ?_⟩) (by assumption) ?_
          rotate_left
          · (intro W hSw; have s0 : Own W gC 5 #[.int .u8 0, .int .u8 f, .int .u8 1] := hSw; have e0 := s0.cell (i := 0) (v := .int .u8 0) rfl; have e1 := s0.cell (i := 1) (v := .int .u8 f) rfl; have e2 := s0.cell (i := 2) (v := .int .u8 1) rfl; go_simp; try with_reducible rfl)
          simp only [Act.put, List.getElem_toArray, List.getElem_cons_zero, List.setIfInBounds_toArray, List.set_cons_zero, List.set_cons_succ]
          refine wpAnyH_take (i := 1) (v := ?_) rfl (by kernel_rfl) (by kernel_rfl) (by kernel_rfl) (fun _ _ _ h => h) (Or.inl ⟨by rfl, ?_⟩) (by assumption) ?_
          rotate_left
          · (intro W hSw; have s0 : Own W gC 5 #[.int .u8 0, .int .u8 f, .int .u8 1] := hSw; have e0 := s0.cell (i := 0) (v := .int .u8 0) rfl; have e1 := s0.cell (i := 1) (v := .int .u8 f) rfl; have e2 := s0.cell (i := 2) (v := .int .u8 1) rfl; go_simp; try with_reducible rfl)
          simp only [Act.put, List.getElem_toArray, List.getElem_cons_zero, List.getElem_cons_succ, List.setIfInBounds_toArray, List.set_cons_zero, List.set_cons_succ]
          refine wpAnyH_take (i := 2) (v := ?_) rfl (by kernel_rfl) (by kernel_rfl) (by kernel_rfl) (fun _ _ _ h => h) (Or.inl ⟨by rfl, ?_⟩) (by assumption) ?_
          rotate_left
          · (intro W hSw; have s0 : Own W gC 5 #[.int .u8 0, .int .u8 f, .int .u8 1] := hSw; have e0 := s0.cell (i := 0) (v := .int .u8 0) rfl; have e1 := s0.cell (i := 1) (v := .int .u8 f) rfl; have e2 := s0.cell (i := 2) (v := .int .u8 1) rfl; go_simp; try with_reducible rfl)
          simp only [Act.put, List.getElem_toArray, List.getElem_cons_zero, List.getElem_cons_succ, List.setIfInBounds_toArray, List.set_cons_zero, List.set_cons_succ]
          refine wpAnyH_take (i := 3) (v := ?_) rfl (by kernel_rfl) (by kernel_rfl) (by kernel_rfl) (fun _ _ _ h => h) (Or.inl ⟨by rfl, ?_⟩) (by assumption) ?_
          rotate_left
          · (intro W hSw; have s0 : Own W gC 5 #[.int .u8 0, .int .u8 f, .int .u8 1] := hSw; have e0 := s0.cell (i := 0) (v := .int .u8 0) rfl; have e1 := s0.cell (i := 1) (v := .int .u8 f) rfl; have e2 := s0.cell (i := 2) (v := .int .u8 1) rfl; go_simp; try with_reducible rfl)
          simp only [Act.put, List.getElem_toArray, List.getElem_cons_zero, List.getElem_cons_succ, List.setIfInBounds_toArray, List.set_cons_zero, List.set_cons_succ]
          refine wpAnyH_take (i := 4) (v := ?_) rfl (by kernel_rfl) (by kernel_rfl) (by kernel_rfl) (fun _ _ _ h => h) (Or.inl ⟨by rfl, ?_⟩) (by assumption) ?_
          rotate_left
          · (intro W hSw; have s0 : Own W gC 5 #[.int .u8 0, .int .u8 f, .int .u8 1] := hSw; have e0 := s0.cell (i := 0) (v := .int .u8 0) rfl; have e1 := s0.cell (i := 1) (v := .int .u8 f) rfl; have e2 := s0.cell (i := 2) (v := .int .u8 1) rfl; go_simp; try with_reducible rfl)
          simp only [Act.put, List.getElem_toArray, List.getElem_cons_zero, List.getElem_cons_succ, List.setIfInBounds_toArray, List.set_cons_zero, List.set_cons_succ]
          refine wpAnyH_take (i := 5) (v := ?_) rfl (by kernel_rfl) (by kernel_rfl) (by kernel_rfl) (fun _ _ _ h => h) (Or.inl ⟨by rfl, ?_⟩) (by assumption) ?_
          rotate_left
          · (intro W hSw; have s0 : Own W gC 5 #[.int .u8 0, .int .u8 f, .int .u8 1] := hSw; have e0 := s0.cell (i := 0) (v := .int .u8 0) rfl; have e1 := s0.cell (i := 1) (v := .int .u8 f) rfl; have e2 := s0.cell (i := 2) (v := .int .u8 1) rfl; go_simp; try with_reducible rfl)
          simp only [Act.put, List.getElem_toArray, List.getElem_cons_zero, List.getElem_cons_succ, List.setIfInBounds_toArray, List.set_cons_zero, List.set_cons_succ]
          refine wpAnyH_take (i := 6) (v := ?_) rfl (by kernel_rfl) (by kernel_rfl) (by kernel_rfl) (fun _ _ _ h => h) (Or.inl ⟨by rfl, ?_⟩) (by assumption) ?_
          rotate_left
          · (intro W hSw; have s0 : Own W gC 5 #[.int .u8 0, .int .u8 f, .int .u8 1] := hSw; have e0 := s0.cell (i := 0) (v := .int .u8 0) rfl; have e1 := s0.cell (i := 1) (v := .int .u8 f) rfl; have e2 := s0.cell (i := 2) (v := .int .u8 1) rfl; go_simp; try with_reducible rfl)
          simp only [Act.put, List.getElem_toArray, List.getElem_cons_zero, List.getElem_cons_succ, List.setIfInBounds_toArray, List.set_cons_zero, List.set_cons_succ]
          refine wpAnyH_take (i := 7) (v := ?_) rfl (by kernel_rfl) (by kernel_rfl) (by kernel_rfl) (fun _ _ _ h => h) (Or.inl ⟨by rfl, ?_⟩) (by assumption) ?_
          rotate_left
          · (intro W hSw; have s0 : Own W gC 5 #[.int .u8 0, .int .u8 f, .int .u8 1] := hSw; have e0 := s0.cell (i := 0) (v := .int .u8 0) rfl; have e1 := s0.cell (i := 1) (v := .int .u8 f) rfl; have e2 := s0.cell (i := 2) (v := .int .u8 1) rfl; go_simp; try with_reducible rfl)
          simp only [Act.put, List.getElem_toArray, List.getElem_cons_zero, List.getElem_cons_succ, List.setIfInBounds_toArray, List.set_cons_zero, List.set_cons_succ]
          refine wpAnyH_take (i := 8) (v := ?_) rfl (by kernel_rfl) (by kernel_rfl) (by kernel_rfl) (fun _ _ _ h => h) (Or.inl ⟨by rfl, ?_⟩) (by assumption) ?_
          rotate_left
          · (intro W hSw; have s0 : Own W gC 5 #[.int .u8 0, .int .u8 f, .int .u8 1] := hSw; have e0 := s0.cell (i := 0) (v := .int .u8 0) rfl; have e1 := s0.cell (i := 1) (v := .int .u8 f) rfl; have e2 := s0.cell (i := 2) (v := .int .u8 1) rfl; go_simp; try with_reducible rfl)
          simp only [Act.put, List.getElem_toArray, List.getElem_cons_zero, List.getElem_cons_succ, List.setIfInBounds_toArray, List.set_cons_zero, List.set_cons_succ]
          refine wpAnyH_take (i := 9) (v := ?_) rfl (by kernel_rfl) (by kernel_rfl) (by kernel_rfl) (fun _ _ _ h => h) (Or.inl ⟨by rfl, ?_⟩) (by assumption) ?_
          rotate_left
          · (intro W hSw; have s0 : Own W gC 5 #[.int .u8 0, .int .u8 f, .int .u8 1] := hSw; have e0 := s0.cell (i := 0) (v := .int .u8 0) rfl; have e1 := s0.cell (i := 1) (v := .int .u8 f) rfl; have e2 := s0.cell (i := 2) (v := .int .u8 1) rfl; go_simp; try with_reducible rfl)
          simp only [Act.put, List.getElem_toArray, List.getElem_cons_zero, List.getElem_cons_succ, List.setIfInBounds_toArray, List.set_cons_zero, List.set_cons_succ]
          refine wpAnyH_ready (rs := [10]) (by kernel_rfl) (by simp) ?_
          refine (AllReadyH.cons rfl (fun K hK => ?_) AllReadyH.nil)
          go_simp
          have hbB := bl_alloc (bl_refl w8) (.cells #[.int .u8 0, .int .u8 f, .int .u8 1, .int .u8 3] 5)
          have oE := Own.new w8 5 #[.int .u8 0, .int .u8 f, .int .u8 1, .int .u8 3]
          have hsB : w8.heap.size < (w8.alloc (.cells #[.int .u8 0, .int .u8 f, .int .u8 1, .int .u8 3] 5)).heap.size := by simp
          have oC9 := oC8.step hbB
          refine hK.out _ _ oC9 (fun hHeld2 => ?_)
          clear hK K hHeld
          have hHeld := hHeld2
          clear hHeld2
          try simp only [Act.put, List.getElem_toArray, List.getElem_cons_zero, List.getElem_cons_succ, List.setIfInBounds_toArray, List.set_cons_zero, List.set_cons_succ]
          generalize hgB : w8.alloc (.cells #[.int .u8 0, .int .u8 f, .int .u8 1, .int .u8 3] 5) = XB at *
          clear hgB
          have hgr9 : XB.ownsRow (w.heap.size + 2) 5 1 (.slice gvA G.length gvc) G.length (G.map (Value.int .u8)) := by
            obtain ⟨v, _, hS⟩ := hI8.box
            obtain ⟨_, _, _, _, hg, _⟩ := hS
            exact own_belowG hg hbB
          have hlo9 := Nat.le_trans hI8.lo hbB.size
          refine wpAnyH_ready (rs := [11]) (by kernel_rfl) (by simp) ?_
          refine (AllReadyH.cons rfl (fun K hK => ?_) AllReadyH.nil)
          refine step_append_at _ rfl _ _ rfl sl_bytes (w.heap.size + 2) _ _ _ rfl hgr9 _ (some ⟨w8.heap.size, 0, none⟩) 4 4 [.int .u8 0, .int .u8 f, .int .u8 1, .int .u8 3] rfl rfl (Shows.of_owned (xs := [.int .u8 0, .int .u8 f, .int .u8 1, .int .u8 3]) oE hsB) (one8 [0, f, 1, 3]) (by unfold maxLen; have := hGn.out.1; omega) (by have := hGn.out.1; omega) hlo9 ?_
          intro v5 w9 ho9 hg9 hat9
          have hI9 := hI8.grow (zs := [0, f, 1, 3]) hbB ho9 rfl hg9 hat9
          rw [← HG.out] at hI9
          have oC11 : Own w9 gC 5 #[.int .u8 0, .int .u8 f, .int .u8 1] := oC9.grown hg9 (fun e => by have := HgL.out _ e.symm; omega)
          refine hK.out _ _ oC11 (fun hHeld2 => ?_)
          clear hK K hHeld
          have hHeld := hHeld2
          clear hHeld2
          try simp only [Act.put, List.getElem_toArray, List.getElem_cons_zero, List.getElem_cons_succ, List.setIfInBounds_toArray, List.set_cons_zero, List.set_cons_succ]
          refine wpAnyH_ready (rs := [12]) (by kernel_rfl) (by simp) ?_
          refine (AllReadyH.cons rfl (fun K hK => ?_) AllReadyH.nil)
          go_simp
          refine hK.out _ _ oC11 (fun hHeld2 => ?_)
          clear hK K hHeld
          have hHeld := hHeld2
          clear hHeld2
          try simp only [Act.put, List.getElem_toArray, List.getElem_cons_zero, List.getElem_cons_succ, List.setIfInBounds_toArray, List.set_cons_zero, List.set_cons_succ]
          refine wpAnyH_done (by kernel_rfl) ?_ _
          go_wp2
          go_roundw
          case rel => exact ⟨j + 1, hlt, by go_num, hI9⟩
          case measure => simp [intOf]; omega
    · obtain rfl : j = 2 := by omega
      have hGn := Lib.hid (ofG_ok a4 a5 2)
      have hLn := Lib.hid (ofL_len a2 a3 2)
      have HK : Hid (ofK a0 a1 a2 a3 a4 a5 an = ofPut (decide (0 < (ofG a4 a5 2).length)) 69 (ofG a4 a5 2) (ofPut a0 65 (digitsOf 4 an) (ofPut a1 6 [] (ofPut true 2 [] (ofL a2 a3 2))))) := Lib.hid rfl
      generalize ofL a2 a3 2 = L at *
      generalize ofG a4 a5 2 = G at *
      go_wp2_with fail
      refine (hPut.out _).mono ?_
      rintro e w1 ⟨rfl, oN, hb1⟩
      have hI1 := hI.below hb1
      have hs1 := hb1.size
      clear hI hb1
      go_wp2_with fail
      go_at_call 52
      refine (cput_any true 2 none 0 0 [] w w1 #[.bool a0, .bool a1, .bool a2, .bool a3, .bool a4, .bool a5] L _ G hI1 (Bytes.nil _ _ _) (by omega) (by have := hLn.out; omega)).mono ?_
      rintro e w2 ⟨⟨u1, rfl⟩, hP2⟩
      have oN2 := hP2.2.1 _ _ _ oN (by decide) (by decide)
      have hI2 := hP2.1
      have hl2 := Lib.hid (ofPut_len true 2 [] L)
      generalize ofPut true 2 [] L = L2 at *
      clear hI1 oN hP2
      have c1 := hI2.o1.cell (i := 1) (v := .bool a1) rfl
      go_wp2_with fail
      go_at_call 52
      refine (cput_any a1 6 none 0 0 [] w w2 #[.bool a0, .bool a1, .bool a2, .bool a3, .bool a4, .bool a5] L2 _ G hI2 (Bytes.nil _ _ _) (by omega) (by have := hLn.out; have := hl2.out; omega)).mono ?_
      rintro e w3 ⟨⟨u2, rfl⟩, hP3⟩
      have oN3 := hP3.2.1 _ _ _ oN2 (by decide) (by decide)
      have hI3 := hP3.1
      have hl3 := Lib.hid (ofPut_len a1 6 [] L2)
      generalize ofPut a1 6 [] L2 = L3 at *
      clear hI2 oN2 hP3 c1
      have c0 := hI3.o1.cell (i := 0) (v := .bool a0) rfl
      have hBN := Bytes.of_owned oN3 (digitsOf_range 4 an) oN3.lt
      rw [digitsOf_len] at hBN
      go_wp2_with fail
      go_at_call 52
      refine (cput_any a0 65 _ 4 4 (digitsOf 4 an) w w3 #[.bool a0, .bool a1, .bool a2, .bool a3, .bool a4, .bool a5] L3 _ G hI3 hBN (by omega) (by have := hLn.out; have := hl2.out; have := hl3.out; omega)).mono ?_
      rintro e w4 ⟨⟨u3, rfl⟩, hP4⟩
      have hI4 := hP4.1
      have hl4 := Lib.hid (ofPut_len a0 65 (digitsOf 4 an) L3)
      generalize ofPut a0 65 (digitsOf 4 an) L3 = L4 at *
      clear hI3 oN3 hP4 c0 hBN
      have hgb : Bytes w4 w4.heap.size gvA G.length G := by
        obtain ⟨v, _, _, _, _, _, hg, _⟩ := hI4.box
        exact ⟨rfl, hGn.out.2, Shows.of_own hg⟩
      go_wp2_with fail
      go_at_call 52
      refine (cput_any _ 69 gvA G.length gvc G w w4 #[.bool a0, .bool a1, .bool a2, .bool a3, .bool a4, .bool a5] L4 _ G hI4 hgb (by have := hGn.out.1; omega) (by have := hLn.out; have := hl2.out; have := hl3.out; have := hl4.out; omega)).mono ?_
      rintro e w5 ⟨⟨u4, rfl⟩, hP5⟩
      obtain ⟨v5, ob5, L5, hr5, hm5, hs5, _, _⟩ := hP5.1.box
      obtain ⟨A5, c5, rfl⟩ := hr5.form
      have cc := ob5.cell (i := 0) (v := .slice A5 L5.length c5) rfl
      have HM := Lib.hid (hm5.trans HK.out.symm)
      have HC := Lib.hid hr5.caps
      have HB := Lib.hid hP5.1.bel
      have HS5 := Lib.hid hs5
      clear hP5 hI4 hr5 hm5 hs5 ob5 hgb
      go_wp2
      go_ret
      exact ⟨_, _, L5, rfl, HC.out, HM.out, HS5.out, HB.out⟩
end Go.Proofs.YtniheakafkakhaaDoor

/- alive of layer 12: mp.Has, option.MP, option.Add, basic.Plain, mp.Valid at the example -/
import Derived.Test.YtmlmgjdjbpipcaaDoorRfE
import Derived.Test.YtmlmgjdjbpipcaaDoorEq
import Derived.Test.YtmlmgjdjbpipcaaDoorTenQ
import Derived.Test.YtmlmgjdjbpipcaaDoorNb
namespace Go.Proofs.YtmlmgjdjbpipcaaDoor
open Go.RowKit Go.Sort

def hasB (x : Int) : Bool := decide (x = 14 ∨ x = 15)
set_option maxRecDepth 100000 in
theorem mhas_any (x : Int) (w : World) : Calls Tryd.prog 33 #[.int .i64 x] w fun e w' => e = .returned (.bool (hasB x)) ∧ w = w' := by
  by_cases h : x = 14
  · subst h
    go_enter Tryd.func33, Tryd.ntmps33
    go_wp2
    go_ret
    exact ⟨rfl, rfl⟩
  · have hq : (x == 14) = false := by simpa using h
    have hh : Hid (hasB x = (x == 15)) := Lib.hid (by unfold hasB; rw [Bool.eq_iff_iff]; simp [h])
    clear h
    go_enter Tryd.func33, Tryd.ntmps33
    go_wp2
    go_ret
    exact ⟨by rw [hh.out]; rfl, rfl⟩
set_option maxRecDepth 100000 in
theorem rmhas_any (x : Int) (w : World) : Calls Tryd.prog 71 #[.int .i64 x] w fun e w' => e = .returned (.bool (hasB x)) ∧ w = w' := by
  by_cases h : x = 14
  · subst h
    go_enter Tryd.func71, Tryd.ntmps71
    go_wp2
    go_ret
    exact ⟨rfl, rfl⟩
  · have hq : (x == 14) = false := by simpa using h
    have hh : Hid (hasB x = (x == 15)) := Lib.hid (by unfold hasB; rw [Bool.eq_iff_iff]; simp [h])
    clear h
    go_enter Tryd.func71, Tryd.ntmps71
    go_wp2
    go_ret
    exact ⟨by rw [hh.out]; rfl, rfl⟩
def exO : Array Value := #[.bool false, .bool false, .bool false, .bool true, .bool false, .bool false]
def exA : Array Value := #[.int .i64 15, .bool false, .int .u32 0, .int .u32 0, .slice none 0 0, .slice none 0 0, .slice none 0 0, .int .i64 2, .slice none 0 0]
def exP : Array Value := #[.int .i64 15, .bool false, .int .u32 0, .int .u32 0, .slice none 0 0, .slice none 0 0, .slice none 0 0, .int .i64 0, .slice none 0 0]
set_option maxRecDepth 100000 in
theorem omp_ex (w : World) : Calls Tryd.prog 34 #[.agg exO, .int .i64 2] w fun e w' => e = .returned (.bool true) ∧ Below w.heap.size w w' := by
  unfold exO
  go_enter Tryd.func34, Tryd.ntmps34
  go_wp2
  go_ret
  exact ⟨rfl, bl_alloc (bl_refl w) _⟩
set_option maxRecDepth 100000 in
theorem oadd_ex (w : World) : Calls Tryd.prog 28 #[.agg exO, .int .i64 2] w fun e w' => e = .returned (.bool false) ∧ Below w.heap.size w w' := by
  unfold exO
  go_enter Tryd.func28, Tryd.ntmps28
  go_wp2
  go_ret
  exact ⟨rfl, bl_alloc (bl_refl w) _⟩
set_option maxRecDepth 100000 in
theorem copy_none (g : Nat) (w : World) : (Builtin.copy_ #[26, 26] 3 #[.slice (some ⟨g, 0, none⟩) 2 2, .slice none 0 0]).run Tryd.prog w = .ok (.int .i64 0) w := by kernel_rfl
set_option maxRecDepth 100000 in
set_option maxHeartbeats 800000 in
theorem plain_ex (w : World) : Calls Tryd.prog 37 #[.agg exP, .slice none 0 0] w fun e w' => e = .returned (.bool true) ∧ Below w.heap.size w w' := by
  unfold exP
  go_enter Tryd.func37, Tryd.ntmps37
  go_wp2
  rw [copy_none]
  go_wp2
  go_ret
  exact ⟨rfl, bl_alloc (bl_alloc (bl_refl w) _) _⟩
theorem routes_nil (w : World) (B : Nat) : Routes w B none 0 [] := ⟨rfl, by simp, .inl rfl⟩
set_option maxRecDepth 100000 in
set_option maxHeartbeats 1600000 in
theorem mvalid_ex (w : World) : Calls Tryd.prog 11 #[.agg exO, .agg exA] w fun e w' => e = .returned (.bool true) ∧ Below w.heap.size w w' := by
  have hb0 := bl_alloc (bl_alloc (bl_refl w) (.cells exO 23)) (.cells exA 30)
  have o1 := (Own.new w 23 exO).alloc (.cells exA 30)
  have o2 := Own.new (w.alloc (.cells exO 23)) 30 exA
  rw [show (w.alloc (.cells exO 23)).heap.size = w.heap.size + 1 by simp] at o2
  go_enter Tryd.func11, Tryd.ntmps11
  go_wp2_with fail
  generalize (w.alloc (.cells exO 23)).alloc (.cells exA 30) = W at *
  have hg2 : Hid (w.heap.size ≤ w.heap.size + 1) := Lib.hid (by omega)
  generalize w.heap.size + 1 = g2 at o2 hg2 ⊢
  have q0 := cell_regrown (o2.cell (i := 0) (v := .int .i64 15) rfl)
  have q1 := cell_regrown (o2.cell (i := 1) (v := .bool false) rfl)
  have q7 := cell_regrown (o2.cell (i := 7) (v := .int .i64 2) rfl)
  have q8 := cell_regrown (o2.cell (i := 8) (v := .slice none 0 0) rfl)
  have a1 := Lib.hid (rg_of (w := W) (v := .bool true) (fun W' _ => (mhas_any 15 W').mono (fun e w' h => ⟨h.1, by rw [← h.2]; exact bl_refl W'⟩)))
  have a2 := Lib.hid (rg_of (w := W) (fun W' _ => omp_ex W'))
  have a3 := Lib.hid (rg_of (w := W) (fun W' _ => oadd_ex W'))
  have a4 := Lib.hid (rg_of (w := W) (v := .bool true) (fun W' _ => nvalid_any 2 false none 0 0 [] W' (routes_nil _ _) (by omega)))
  refine wp_region_quiet_below (by kernel_rfl) (by kernel_rfl) ?_
  repeat (first
    | go_big_quiet_skip
    | (refine wpQuiet_load_row (by rfl) 23 _ rfl w.heap.size rfl 23 exO (.struct (Tryd.prog.fieldsOf 23)) o1.rg (by kernel_rfl) rfl (by kernel_rfl) ?_; go_simp)
    | go_big_quiet_step (with_reducible first | exact a1.out _ _ | exact a2.out _ _ | exact a3.out _ _ | exact a4.out _ _))
  refine wpQuiet_nil ?_
  rintro ⟨dq, osq⟩
  have hgw := below_regrown W dq osq
  have x2 := o2.step hgw
  have hb1 := bl_trans hb0 hgw
  generalize grow (redrawn W dq) osq = V at *
  clear q0 q1 q7 q8 a1 a2 a3 a4 o1 o2 hgw hb0
  have c0 := x2.cell (i := 0) (v := .int .i64 15) rfl
  have c6 := x2.cell (i := 6) (v := .slice none 0 0) rfl
  have c7 := x2.cell (i := 7) (v := .int .i64 2) rfl
  have c8 := x2.cell (i := 8) (v := .slice none 0 0) rfl
  have z6 := x2.frozen 6
  have z7 := x2.frozen 7
  have z8 := x2.frozen 8
  have y2 : Own (((V.setCell ⟨g2, 7, none⟩ (.int .i64 0)).setCell ⟨g2, 6, none⟩ (.slice none 0 0)).setCell ⟨g2, 8, none⟩ (.slice none 0 0)) g2 30 exP := ((x2.set_ 7 (.int .i64 0)).set_ 6 (.slice none 0 0)).set_ 8 (.slice none 0 0)
  have hb2 : Below w.heap.size w (((V.setCell ⟨g2, 7, none⟩ (.int .i64 0)).setCell ⟨g2, 6, none⟩ (.slice none 0 0)).setCell ⟨g2, 8, none⟩ (.slice none 0 0)) := ((hb1.setCell hg2.out _).setCell hg2.out _).setCell hg2.out _
  go_wp2_with (refine wpList_load_row rfl 30 _ rfl g2 rfl 30 exP (0, 0) (.struct (Tryd.prog.fieldsOf 30)) y2 (by kernel_rfl) rfl (by kernel_rfl) ?_)
  refine (plain_ex _).mono ?_
  rintro e w3 ⟨rfl, hb3⟩
  go_wp2
  go_ret
  exact ⟨rfl, bl_trans hb2 hb3⟩
end Go.Proofs.YtmlmgjdjbpipcaaDoor

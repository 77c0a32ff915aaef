/- header.failure, peerageref04.bad, slices.IndexFunc at bytes that are not 255 -/
import Derived.Test.YtgahjchngmojlabDoorHdG
namespace Go.Proofs.YtgahjchngmojlabDoor
open Go.RowKit

set_option maxRecDepth 100000 in
theorem vd_desc : Tryd.prog.underlying 49 = some (.struct (Tryd.prog.fieldsOf 49)) := by kernel_rfl
set_option maxRecDepth 100000 in
theorem vd_info (a b c d e : Value) : (Tryd.prog.info? 49).map (·.size) = some (#[a, b, c, d, e] : Array Value).size := by kernel_rfl
theorem own_five {w : World} {g : Nat} {t : TypeId} {a b c d e : Value} (h : Own w g t #[a, b, c, d, e]) (x y z u v : Value) :
    Own (((((w.setCell ⟨g, 0, none⟩ x).setCell ⟨g, 1, none⟩ y).setCell ⟨g, 2, none⟩ z).setCell ⟨g, 3, none⟩ u).setCell ⟨g, 4, none⟩ v) g t #[x, y, z, u, v] := by
  have h2 := ((((h.set_ 0 x).set_ 1 y).set_ 2 z).set_ 3 u).set_ 4 v
  simpa using h2
theorem below_five {w V : World} {g : Nat} (hb : Below w.heap.size w V) (hg : w.heap.size ≤ g) (x y z u v : Value) :
    Below w.heap.size w (((((V.setCell ⟨g, 0, none⟩ x).setCell ⟨g, 1, none⟩ y).setCell ⟨g, 2, none⟩ z).setCell ⟨g, 3, none⟩ u).setCell ⟨g, 4, none⟩ v) :=
  ((((hb.setCell (p := ⟨g, 0, none⟩) hg x).setCell (p := ⟨g, 1, none⟩) hg y).setCell (p := ⟨g, 2, none⟩) hg z).setCell (p := ⟨g, 3, none⟩) hg u).setCell (p := ⟨g, 4, none⟩) hg v
theorem parts_one4 {W : World} {j : Nat} {T : TypeId} {A1 : Option Addr} {n1 c1 : Nat} {xs1 : List Int} (ho : Own W j T #[.slice A1 n1 c1]) (h1 : Bytes W W.heap.size A1 n1 xs1) :
    Parts W W.heap.size (some ⟨j, 0, none⟩) 1 [⟨A1, n1, c1, xs1⟩] := by
  refine ⟨rfl, fun p hp => ?_, Shows.of_owned ho ho.lt⟩
  simp at hp
  rw [hp]
  exact h1
set_option maxRecDepth 100000 in
set_option maxHeartbeats 800000 in
theorem failure_any (s t : Int) (A : Option Addr) (n c : Nat) (xs : List Int) (w : World) (hx : Bytes w w.heap.size A n xs) (hn : n ≤ 1000000000) :
    Calls Tryd.prog 56 #[.int .i64 s, .int .i64 t, .slice A n c] w fun e w' => ∃ g, e = .returned (.agg #[.int .i64 4, .int .i64 1, .int .i64 s, .slice (some ⟨g, 0, none⟩) n n, .int .i64 t]) ∧ w.heap.size ≤ g ∧ Own w' g 5 (xs.map (Value.int .u8)).toArray ∧ Below w.heap.size w w' := by
  have hba := bl_alloc (bl_alloc (bl_refl w) (.cells #[.int .i64 0, .int .i64 0, .int .i64 0, .slice none 0 0, .int .i64 0] 49)) (.cells #[.slice A n c] 26)
  have o0 := (Own.new w 49 #[.int .i64 0, .int .i64 0, .int .i64 0, .slice none 0 0, .int .i64 0]).alloc (.cells #[.slice A n c] 26)
  have hx1 := (hx.below hba).more hba.size
  have hs1 : (w.alloc (.cells #[.int .i64 0, .int .i64 0, .int .i64 0, .slice none 0 0, .int .i64 0] 49)).heap.size = w.heap.size + 1 := by simp
  have on := Own.new (w.alloc (.cells #[.int .i64 0, .int .i64 0, .int .i64 0, .slice none 0 0, .int .i64 0] 49)) 26 #[.slice A n c]
  rw [hs1] at on
  have hpt := parts_one4 (c1 := c) on hx1
  have HX := Lib.hid hx.1
  have hfl : flat [⟨A, n, c, xs⟩] = xs := by simp [flat]
  have HF := Lib.hid hfl
  clear hfl hx1 hx on
  go_enter Tryd.func56, Tryd.ntmps56
  go_wp2_with fail
  refine (cat_own (c := 1) hpt (by omega) (by rw [HF.out]; have := HX.out; omega)).mono ?_
  rw [HF.out, ← HX.out]
  rintro e w1 ⟨rfl, ho, hb⟩
  rw [show ((w.alloc (.cells #[.int .i64 0, .int .i64 0, .int .i64 0, .slice none 0 0, .int .i64 0] 49)).alloc (.cells #[.slice A n c] 26)).heap.size = w.heap.size + 1 + 1 by simp] at ho
  have o1 := o0.step hb
  have c0 := o1.cell (i := 0) (v := .int .i64 0) rfl
  have c1 := o1.cell (i := 1) (v := .int .i64 0) rfl
  have c2 := o1.cell (i := 2) (v := .int .i64 0) rfl
  have c3 := o1.cell (i := 3) (v := .slice none 0 0) rfl
  have c4 := o1.cell (i := 4) (v := .int .i64 0) rfl
  have f0 := o1.frozen 0
  have f1 := o1.frozen 1
  have f2 := o1.frozen 2
  have f3 := o1.frozen 3
  have f4 := o1.frozen 4
  have hlt := o1.lt
  have hbw := bl_trans hba hb
  have hne : w.heap.size + 1 + 1 ≠ w.heap.size := by omega
  have hog := ((((ho.far (p := ⟨w.heap.size, 0, none⟩) hne (.int .i64 4)).far (p := ⟨w.heap.size, 1, none⟩) hne (.int .i64 1)).far (p := ⟨w.heap.size, 2, none⟩) hne (.int .i64 s)).far (p := ⟨w.heap.size, 3, none⟩) hne (.slice (some ⟨w.heap.size + 1 + 1, 0, none⟩) n n)).far (p := ⟨w.heap.size, 4, none⟩) hne (.int .i64 t)
  clear hba o0 hb ho hpt
  go_wp2
  refine bodyPost_ret (results_cell_row (p := 6) (fn := Tryd.f56) rfl _ _ w.heap.size 49 #[.int .i64 4, .int .i64 1, .int .i64 s, .slice (some ⟨w.heap.size + 1 + 1, 0, none⟩) n n, .int .i64 t] (0, 0) _ rfl (own_five o1 _ _ _ _ _) vd_desc rfl (vd_info _ _ _ _ _)) rfl ⟨_, rfl, by omega, hog, below_five hbw (Nat.le_refl _) _ _ _ _ _⟩
set_option maxRecDepth 100000 in
theorem bad_any (s t : Int) (A : Option Addr) (n c : Nat) (w : World) :
    Calls Tryd.prog 51 #[.int .i64 s, .int .i64 t, .slice A n c] w fun e w' => e = .returned (.agg #[.int .i64 4, .int .i64 1, .int .i64 s, .slice A n c, .int .i64 t]) ∧ Below w.heap.size w w' := by
  go_enter Tryd.func51, Tryd.ntmps51
  go_wp2
  refine bodyPost_ret (results_cell_row (p := 6) (fn := Tryd.f51) rfl _ _ w.heap.size 49 #[.int .i64 4, .int .i64 1, .int .i64 s, .slice A n c, .int .i64 t] (0, 0) _ rfl (Own.new w _ _) vd_desc rfl (vd_info _ _ _ _ _)) rfl ⟨rfl, bl_alloc (bl_refl w) _⟩
end Go.Proofs.YtgahjchngmojlabDoor

/- notice.Parse and its reference -/
import Derived.Test.YtalmmddmdnkifaaDoorNtB
import Derived.Test.YtalmmddmdnkifaaDoorPfxM
import Derived.Test.YtalmmddmdnkifaaDoorHdH
namespace Go.Proofs.YtalmmddmdnkifaaDoor
open Go.RowKit Go.Sort

set_option maxRecDepth 100000 in
theorem ntparse_no (A : Option Addr) (n c : Nat) (w : World) (h : n < 2 ∨ 65516 < n) :
    Calls Tryd.prog 18 #[.slice A n c] w fun e w' => e = .returned (.tuple #[.agg #[.int .i64 0, .int .i64 0, .slice none 0 0], .bool false]) ∧ Below w.heap.size w w' := by
  have o0 := Own.new w 29 #[.int .i64 0, .int .i64 0, .slice none 0 0]
  have hb0 := bl_alloc (bl_refl w) (.cells #[.int .i64 0, .int .i64 0, .slice none 0 0] 29)
  rcases h with h | h
  · have d : decide ((n : Int) < 2) = true := by simp; omega
    go_enter Tryd.func18, Tryd.ntmps18
    go_wp2
    refine bodyPost_ret (results_cell_tmp (p := 2) (t := 3) (fn := Tryd.f18) rfl _ _ w.heap.size 29 #[.int .i64 0, .int .i64 0, .slice none 0 0] _ rfl o0 nt_desc rfl (nt_info _ _ _)) rfl ⟨rfl, hb0⟩
  · have d : decide ((n : Int) < 2) = false := by simp; omega
    have d2 : decide ((65516 : Int) < (n : Int)) = true := by simp; omega
    go_enter Tryd.func18, Tryd.ntmps18
    go_wp2
    refine bodyPost_ret (results_cell_tmp (p := 2) (t := 3) (fn := Tryd.f18) rfl _ _ w.heap.size 29 #[.int .i64 0, .int .i64 0, .slice none 0 0] _ rfl o0 nt_desc rfl (nt_info _ _ _)) rfl ⟨rfl, hb0⟩
theorem nt3_own {w : World} {g : Nat} {t : TypeId} {a b c : Value} (h : Own w g t #[a, b, c]) (x y z : Value) :
    Own (((w.setCell ⟨g, 0, none⟩ x).setCell ⟨g, 1, none⟩ y).setCell ⟨g, 2, none⟩ z) g t #[x, y, z] := by
  have h2 := ((h.set_ 0 x).set_ 1 y).set_ 2 z
  simpa using h2
theorem nt3_below {w V : World} {g : Nat} (hb : Below w.heap.size w V) (hg : w.heap.size ≤ g) (x y z : Value) :
    Below w.heap.size w (((V.setCell ⟨g, 0, none⟩ x).setCell ⟨g, 1, none⟩ y).setCell ⟨g, 2, none⟩ z) :=
  ((hb.setCell (p := ⟨g, 0, none⟩) hg x).setCell (p := ⟨g, 1, none⟩) hg y).setCell (p := ⟨g, 2, none⟩) hg z
theorem nt3_far {V : World} {g k : Nat} {t : TypeId} {cs : Array Value} (h : Own V k t cs) (hne : k ≠ g) (x y z : Value) : Own (((V.setCell ⟨g, 0, none⟩ x).setCell ⟨g, 1, none⟩ y).setCell ⟨g, 2, none⟩ z) k t cs := ((h.far hne x).far hne y).far hne z
theorem nt3_cell {V : World} {b o g : Nat} (hne : b ≠ g) (x y z : Value) : (((V.setCell ⟨g, 0, none⟩ x).setCell ⟨g, 1, none⟩ y).setCell ⟨g, 2, none⟩ z).cell? ⟨b, o, none⟩ = V.cell? ⟨b, o, none⟩ := by
  rw [World.cell?_of_block (a := ⟨b, o, none⟩) (Below.heap_setCell _ ⟨g, 2, none⟩ z b hne), World.cell?_of_block (a := ⟨b, o, none⟩) (Below.heap_setCell _ ⟨g, 1, none⟩ y b hne), World.cell?_of_block (a := ⟨b, o, none⟩) (Below.heap_setCell _ ⟨g, 0, none⟩ x b hne)]
theorem nt3_celld {V : World} {b o g : Nat} (hne : b ≠ g) (x y z : Value) : (((V.setCell ⟨g, 0, none⟩ x).setCell ⟨g, 1, none⟩ y).setCell ⟨g, 2, none⟩ z).drew.cell? ⟨b, o, none⟩ = V.cell? ⟨b, o, none⟩ := nt3_cell hne x y z
set_option maxRecDepth 100000 in
set_option maxHeartbeats 1600000 in
theorem ntparse_yes (A : Option Addr) (n c : Nat) (xs : List Int) (w : World) (hx : Bytes w w.heap.size A n xs) (h2 : 2 ≤ n) (hn : n ≤ 65516) (hnc : n ≤ c) :
    Calls Tryd.prog 18 #[.slice A n c] w fun e w' => ∃ g, e = .returned (.tuple #[.agg #[.int .i64 (nth xs 0), .int .i64 (nth xs 1), .slice (some ⟨g, 0, none⟩) (n - 2) (n - 2)], .bool true]) ∧ w.heap.size ≤ g ∧ Own w' g 5 ((xs.drop 2).map (Value.int .u8)).toArray ∧ Below w.heap.size w w' := by
  have o0 := Own.new w 29 #[.int .i64 0, .int .i64 0, .slice none 0 0]
  have hb0 := bl_alloc (bl_refl w) (.cells #[.int .i64 0, .int .i64 0, .slice none 0 0] 29)
  have hxV := hx.below hb0
  have hcut := hxV.cut (k := 2) (cap := c) h2 hnc
  obtain ⟨b, o, rfl, hb, e0, l0, u0⟩ := hxV.at_ (k := 0) (by omega)
  rw [Nat.add_zero] at e0
  obtain ⟨b1, o1, hA, _, e1, l1, u1⟩ := hxV.at_ (k := 1) (by omega)
  obtain ⟨rfl, rfl⟩ : b = b1 ∧ o = o1 := by simpa using hA
  have HN := Lib.hid hx.1
  clear hx hxV hA
  have hcutL := Lib.hid (hcut.1)
  generalize nth xs 0 = y0 at *
  generalize nth xs 1 = y1 at *
  generalize hZ : xs.drop 2 = zs at *
  clear hZ
  have v0 : IntKind.i64.wrap y0 = y0 := by rw [IntKind.wrap_i64]; omega
  have v1 : IntKind.i64.wrap y1 = y1 := by rw [IntKind.wrap_i64]; omega
  have k0 := o0.cell (i := 0) (v := .int .i64 0) rfl
  have k1 := o0.cell (i := 1) (v := .int .i64 0) rfl
  have k2 := o0.cell (i := 2) (v := .slice none 0 0) rfl
  have f0 := o0.frozen 0
  have f1 := o0.frozen 1
  have f2 := o0.frozen 2
  have hlt := o0.lt
  have hbne : b ≠ w.heap.size := by omega
  have d : decide ((n : Int) < 2) = false := by simp; omega
  have d2 : decide ((65516 : Int) < (n : Int)) = false := by simp; omega
  have i0 : (0 : Int) < (n : Int) := by omega
  have i4 : 0 < n := by omega
  have i1 : (1 : Int) < (n : Int) := by omega
  have i2 : (2 : Int) ≤ (n : Int) := by omega
  have i3 : (n : Int) ≤ (c : Int) := by omega
  by_cases hc : c = 2
  · subst hc
    obtain rfl : n = 2 := by omega
    rw [if_pos rfl] at hcut
    obtain rfl : zs = [] := List.length_eq_zero_iff.1 hcutL.out.symm
    go_enter Tryd.func18, Tryd.ntmps18
    go_wp2_with fail
    generalize w.alloc (.cells #[.int .i64 0, .int .i64 0, .slice none 0 0] 29) = V at *
    have hbV : b < V.heap.size := by omega
    have hbA := (bl_alloc (bl_refl V) (.cells #[.slice (some ⟨b, o, none⟩) 0 0] 22)).drew
    have oD := (Own.new V 22 #[.slice (some ⟨b, o, none⟩) 0 0]).drew
    have hcD : Bytes (V.alloc (.cells #[.slice (some ⟨b, o, none⟩) 0 0] 22)).drew (V.alloc (.cells #[.slice (some ⟨b, o, none⟩) 0 0] 22)).drew.heap.size (some ⟨b, o, none⟩) 0 [] := ((hcut.more (Nat.le_of_lt hlt)).keep (fun b' o' hb' => hbA.cell (p := ⟨b', o', none⟩) hb')).more hbA.size
    have hpt := parts_one4 (c1 := 0) oD hcD
    have HF := Lib.hid (show flat [⟨some ⟨b, o, none⟩, 0, 0, []⟩] = [] by simp [flat])
    have oA := (o0.alloc (.cells #[.slice (some ⟨b, o, none⟩) 0 0] 22)).drew
    have hVs := Lib.hid (show (V.alloc (.cells #[.slice (some ⟨b, o, none⟩) 0 0] 22)).drew.heap.size = V.heap.size + 1 by simp [World.drew])
    have HS0 : V.drew.cell? ⟨b, o, none⟩ = some (.int .u8 y0) ∧ V.drew.cell? ⟨b, o + 1, none⟩ = some (.int .u8 y1) := ⟨e0, e1⟩
    have HSA : (V.alloc (.cells #[.slice (some ⟨b, o, none⟩) 0 0] 22)).drew.cell? ⟨b, o, none⟩ = some (.int .u8 y0) ∧ (V.alloc (.cells #[.slice (some ⟨b, o, none⟩) 0 0] 22)).drew.cell? ⟨b, o + 1, none⟩ = some (.int .u8 y1) := ⟨(hbA.cell (p := ⟨b, o, none⟩) hbV).trans e0, (hbA.cell (p := ⟨b, o + 1, none⟩) hbV).trans e1⟩
    go_region_held3 (fun W => W.cell? ⟨b, o, none⟩ = some (.int .u8 y0) ∧ W.cell? ⟨b, o + 1, none⟩ = some (.int .u8 y1)) (with_reducible first | exact HS0 | exact HSA | exact HS2 | exact HS3 _ _ _) ((first
      | (go_at_call 60; (with_reducible refine (cat_own (c := 1) hpt (by omega) (by rw [HF.out, ← hcutL.out]; omega)).mono ?_); rw [HF.out, ← hcutL.out, hVs.out]; rintro e w1 ⟨rfl, ho1, hb1⟩; rw [← hVs.out] at hb1; have hbw := bl_trans hb0 (hbA.trans (hb1.mono (by simp [World.drew]))); have q0 := (hb1.cell (p := ⟨b, o, none⟩) (by simp [World.drew]; omega)).trans HSA.1; have q1 := (hb1.cell (p := ⟨b, o + 1, none⟩) (by simp [World.drew]; omega)).trans HSA.2; have HS2 : w1.cell? ⟨b, o, none⟩ = some (.int .u8 y0) ∧ w1.cell? ⟨b, o + 1, none⟩ = some (.int .u8 y1) := ⟨q0, q1⟩; have HS3 := fun x y z => And.intro ((nt3_cell (V := w1) hbne x y z).trans q0) ((nt3_cell (V := w1) hbne x y z).trans q1); have pV := oA.step hb1; have k0 := pV.cell (i := 0) (v := .int .i64 0) rfl; have k1 := pV.cell (i := 1) (v := .int .i64 0) rfl; have k2 := pV.cell (i := 2) (v := .slice none 0 0) rfl; have f0 := pV.frozen 0; have f1 := pV.frozen 1; have f2 := pV.frozen 2; have hlt1 := pV.lt)))
    go_wp2
    refine bodyPost_ret (results_cell_tmp (p := 2) (t := 3) (fn := Tryd.f18) rfl _ _ w.heap.size 29 #[.int .i64 y0, .int .i64 y1, .slice (some ⟨V.heap.size + 1, 0, none⟩) 0 0] _ rfl (nt3_own pV _ _ _) nt_desc rfl (nt_info _ _ _)) rfl ⟨V.heap.size + 1, rfl, by have := hb0.size; omega, nt3_far ho1 (show V.heap.size + 1 ≠ w.heap.size by omega) _ _ _, nt3_below hbw (Nat.le_refl _) _ _ _⟩
  · rw [if_neg hc] at hcut
    go_enter Tryd.func18, Tryd.ntmps18
    go_wp2_with fail
    generalize w.alloc (.cells #[.int .i64 0, .int .i64 0, .slice none 0 0] 29) = V at *
    have hbV : b < V.heap.size := by omega
    have hA2 : (some (⟨b, o, none⟩ : Addr)).map (·.add 2) = some ⟨b, o + 2, none⟩ := by simp [Addr.add_lit]
    rw [hA2] at hcut
    have hbA := (bl_alloc (bl_refl V) (.cells #[.slice (some ⟨b, o + 2, none⟩) (n - 2) (c - 2)] 22)).drew
    have oD := (Own.new V 22 #[.slice (some ⟨b, o + 2, none⟩) (n - 2) (c - 2)]).drew
    have hcD : Bytes (V.alloc (.cells #[.slice (some ⟨b, o + 2, none⟩) (n - 2) (c - 2)] 22)).drew (V.alloc (.cells #[.slice (some ⟨b, o + 2, none⟩) (n - 2) (c - 2)] 22)).drew.heap.size (some ⟨b, o + 2, none⟩) (n - 2) zs := ((hcut.more (Nat.le_of_lt hlt)).keep (fun b' o' hb' => hbA.cell (p := ⟨b', o', none⟩) hb')).more hbA.size
    have hpt := parts_one4 (c1 := c - 2) oD hcD
    have HF := Lib.hid (show flat [⟨some ⟨b, o + 2, none⟩, n - 2, c - 2, zs⟩] = zs by simp [flat])
    have oA := (o0.alloc (.cells #[.slice (some ⟨b, o + 2, none⟩) (n - 2) (c - 2)] 22)).drew
    have hVs := Lib.hid (show (V.alloc (.cells #[.slice (some ⟨b, o + 2, none⟩) (n - 2) (c - 2)] 22)).drew.heap.size = V.heap.size + 1 by simp [World.drew])
    have HS0 : V.drew.cell? ⟨b, o, none⟩ = some (.int .u8 y0) ∧ V.drew.cell? ⟨b, o + 1, none⟩ = some (.int .u8 y1) := ⟨e0, e1⟩
    have HSA : (V.alloc (.cells #[.slice (some ⟨b, o + 2, none⟩) (n - 2) (c - 2)] 22)).drew.cell? ⟨b, o, none⟩ = some (.int .u8 y0) ∧ (V.alloc (.cells #[.slice (some ⟨b, o + 2, none⟩) (n - 2) (c - 2)] 22)).drew.cell? ⟨b, o + 1, none⟩ = some (.int .u8 y1) := ⟨(hbA.cell (p := ⟨b, o, none⟩) hbV).trans e0, (hbA.cell (p := ⟨b, o + 1, none⟩) hbV).trans e1⟩
    go_region_held3 (fun W => W.cell? ⟨b, o, none⟩ = some (.int .u8 y0) ∧ W.cell? ⟨b, o + 1, none⟩ = some (.int .u8 y1)) (with_reducible first | exact HS0 | exact HSA | exact HS2 | exact HS3 _ _ _) ((first
      | (go_at_call 60; (with_reducible refine (cat_own (c := 1) hpt (by omega) (by rw [HF.out, ← hcutL.out]; omega)).mono ?_); rw [HF.out, ← hcutL.out, hVs.out]; rintro e w1 ⟨rfl, ho1, hb1⟩; rw [← hVs.out] at hb1; have hbw := bl_trans hb0 (hbA.trans (hb1.mono (by simp [World.drew]))); have q0 := (hb1.cell (p := ⟨b, o, none⟩) (by simp [World.drew]; omega)).trans HSA.1; have q1 := (hb1.cell (p := ⟨b, o + 1, none⟩) (by simp [World.drew]; omega)).trans HSA.2; have HS2 : w1.cell? ⟨b, o, none⟩ = some (.int .u8 y0) ∧ w1.cell? ⟨b, o + 1, none⟩ = some (.int .u8 y1) := ⟨q0, q1⟩; have HS3 := fun x y z => And.intro ((nt3_cell (V := w1) hbne x y z).trans q0) ((nt3_cell (V := w1) hbne x y z).trans q1); have pV := oA.step hb1; have k0 := pV.cell (i := 0) (v := .int .i64 0) rfl; have k1 := pV.cell (i := 1) (v := .int .i64 0) rfl; have k2 := pV.cell (i := 2) (v := .slice none 0 0) rfl; have f0 := pV.frozen 0; have f1 := pV.frozen 1; have f2 := pV.frozen 2; have hlt1 := pV.lt)))
    go_wp2
    refine bodyPost_ret (results_cell_tmp (p := 2) (t := 3) (fn := Tryd.f18) rfl _ _ w.heap.size 29 #[.int .i64 y0, .int .i64 y1, .slice (some ⟨V.heap.size + 1, 0, none⟩) (n - 2) (n - 2)] _ rfl (nt3_own pV _ _ _) nt_desc rfl (nt_info _ _ _)) rfl ⟨V.heap.size + 1, rfl, by have := hb0.size; omega, nt3_far ho1 (show V.heap.size + 1 ≠ w.heap.size by omega) _ _ _, nt3_below hbw (Nat.le_refl _) _ _ _⟩
set_option maxRecDepth 100000 in
theorem rntparse_no (A : Option Addr) (n c : Nat) (w : World) (h : n < 2 ∨ 65516 < n) :
    Calls Tryd.prog 22 #[.slice A n c] w fun e w' => e = .returned (.tuple #[.agg #[.int .i64 0, .int .i64 0, .slice none 0 0], .bool false]) ∧ Below w.heap.size w w' := by
  have o0 := Own.new w 24 #[.int .i64 0, .int .i64 0, .slice none 0 0]
  have hb0 := bl_alloc (bl_refl w) (.cells #[.int .i64 0, .int .i64 0, .slice none 0 0] 24)
  rcases h with h | h
  · have d : decide ((n : Int) < 2) = true := by simp; omega
    go_enter Tryd.func22, Tryd.ntmps22
    go_wp2
    refine bodyPost_ret (results_cell_tmp (p := 2) (t := 3) (fn := Tryd.f22) rfl _ _ w.heap.size 24 #[.int .i64 0, .int .i64 0, .slice none 0 0] _ rfl o0 rnt_desc rfl (rnt_info _ _ _)) rfl ⟨rfl, hb0⟩
  · have d : decide ((n : Int) < 2) = false := by simp; omega
    have d2 : decide ((65516 : Int) < (n : Int)) = true := by simp; omega
    go_enter Tryd.func22, Tryd.ntmps22
    go_wp2
    refine bodyPost_ret (results_cell_tmp (p := 2) (t := 3) (fn := Tryd.f22) rfl _ _ w.heap.size 24 #[.int .i64 0, .int .i64 0, .slice none 0 0] _ rfl o0 rnt_desc rfl (rnt_info _ _ _)) rfl ⟨rfl, hb0⟩
set_option maxRecDepth 100000 in
set_option maxHeartbeats 1600000 in
theorem rntparse_yes (A : Option Addr) (n c : Nat) (xs : List Int) (w : World) (hx : Bytes w w.heap.size A n xs) (h2 : 2 ≤ n) (hn : n ≤ 65516) (hnc : n ≤ c) :
    Calls Tryd.prog 22 #[.slice A n c] w fun e w' => ∃ A2 c2, e = .returned (.tuple #[.agg #[.int .i64 (nth xs 0), .int .i64 (nth xs 1), .slice A2 (n - 2) c2], .bool true]) ∧ Bytes w' w.heap.size A2 (n - 2) (xs.drop 2) ∧ Below w.heap.size w w' := by
  have o0 := Own.new w 24 #[.int .i64 0, .int .i64 0, .slice none 0 0]
  have hb0 := bl_alloc (bl_refl w) (.cells #[.int .i64 0, .int .i64 0, .slice none 0 0] 24)
  have hxV := hx.below hb0
  have hcut := hxV.cut (k := 2) (cap := c) h2 hnc
  obtain ⟨b, o, rfl, hb, e0, l0, u0⟩ := hxV.at_ (k := 0) (by omega)
  rw [Nat.add_zero] at e0
  obtain ⟨b1, o1, hA, _, e1, l1, u1⟩ := hxV.at_ (k := 1) (by omega)
  obtain ⟨rfl, rfl⟩ : b = b1 ∧ o = o1 := by simpa using hA
  have HN := Lib.hid hx.1
  clear hx hxV hA
  have hcutL := Lib.hid (hcut.1)
  generalize nth xs 0 = y0 at *
  generalize nth xs 1 = y1 at *
  generalize hZ : xs.drop 2 = zs at *
  clear hZ
  have v0 : IntKind.i64.wrap y0 = y0 := by rw [IntKind.wrap_i64]; omega
  have v1 : IntKind.i64.wrap y1 = y1 := by rw [IntKind.wrap_i64]; omega
  have k0 := o0.cell (i := 0) (v := .int .i64 0) rfl
  have k1 := o0.cell (i := 1) (v := .int .i64 0) rfl
  have k2 := o0.cell (i := 2) (v := .slice none 0 0) rfl
  have f0 := o0.frozen 0
  have f1 := o0.frozen 1
  have f2 := o0.frozen 2
  have hlt := o0.lt
  have hbne : b ≠ w.heap.size := by omega
  have d : decide ((n : Int) < 2) = false := by simp; omega
  have d2 : decide ((65516 : Int) < (n : Int)) = false := by simp; omega
  have i0 : (0 : Int) < (n : Int) := by omega
  have i4 : 0 < n := by omega
  have i1 : (1 : Int) < (n : Int) := by omega
  have i2 : (2 : Int) ≤ (n : Int) := by omega
  have i3 : (n : Int) ≤ (c : Int) := by omega
  by_cases hc : c = 2
  · subst hc
    obtain rfl : n = 2 := by omega
    rw [if_pos rfl] at hcut
    obtain rfl : zs = [] := List.length_eq_zero_iff.1 hcutL.out.symm
    go_enter Tryd.func22, Tryd.ntmps22
    go_wp2_with fail
    generalize w.alloc (.cells #[.int .i64 0, .int .i64 0, .slice none 0 0] 24) = V at *
    have hbV : b < V.heap.size := by omega
    have HS0 : V.drew.cell? ⟨b, o, none⟩ = some (.int .u8 y0) ∧ V.drew.cell? ⟨b, o + 1, none⟩ = some (.int .u8 y1) := ⟨e0, e1⟩
    have HS3 := fun x y z => And.intro ((nt3_celld (V := V) hbne x y z).trans e0) ((nt3_celld (V := V) hbne x y z).trans e1)
    go_region_held3 (fun W => W.cell? ⟨b, o, none⟩ = some (.int .u8 y0) ∧ W.cell? ⟨b, o + 1, none⟩ = some (.int .u8 y1)) (with_reducible first | exact HS0 | exact HS3 _ _ _) (fail)
    go_wp2
    refine bodyPost_ret (results_cell_tmp (p := 2) (t := 3) (fn := Tryd.f22) rfl _ _ w.heap.size 24 #[.int .i64 y0, .int .i64 y1, .slice (some ⟨b, o, none⟩) 0 0] _ rfl (nt3_own o0 _ _ _) rnt_desc rfl (rnt_info _ _ _)) rfl ⟨_, _, rfl, hcut.keep (fun b' o' hb' => nt3_cell (V := V) (by omega) _ _ _), (nt3_below hb0 (Nat.le_refl _) _ _ _).drew⟩
  · rw [if_neg hc] at hcut
    go_enter Tryd.func22, Tryd.ntmps22
    go_wp2_with fail
    generalize w.alloc (.cells #[.int .i64 0, .int .i64 0, .slice none 0 0] 24) = V at *
    have hbV : b < V.heap.size := by omega
    have hA2 : (some (⟨b, o, none⟩ : Addr)).map (·.add 2) = some ⟨b, o + 2, none⟩ := by simp [Addr.add_lit]
    rw [hA2] at hcut
    have HS0 : V.drew.cell? ⟨b, o, none⟩ = some (.int .u8 y0) ∧ V.drew.cell? ⟨b, o + 1, none⟩ = some (.int .u8 y1) := ⟨e0, e1⟩
    have HS3 := fun x y z => And.intro ((nt3_celld (V := V) hbne x y z).trans e0) ((nt3_celld (V := V) hbne x y z).trans e1)
    go_region_held3 (fun W => W.cell? ⟨b, o, none⟩ = some (.int .u8 y0) ∧ W.cell? ⟨b, o + 1, none⟩ = some (.int .u8 y1)) (with_reducible first | exact HS0 | exact HS3 _ _ _) (fail)
    go_wp2
    refine bodyPost_ret (results_cell_tmp (p := 2) (t := 3) (fn := Tryd.f22) rfl _ _ w.heap.size 24 #[.int .i64 y0, .int .i64 y1, .slice (some ⟨b, o + 2, none⟩) (n - 2) (c - 2)] _ rfl (nt3_own o0 _ _ _) rnt_desc rfl (rnt_info _ _ _)) rfl ⟨_, _, rfl, hcut.keep (fun b' o' hb' => nt3_cell (V := V) (by omega) _ _ _), (nt3_below hb0 (Nat.le_refl _) _ _ _).drew⟩
end Go.Proofs.YtalmmddmdnkifaaDoor

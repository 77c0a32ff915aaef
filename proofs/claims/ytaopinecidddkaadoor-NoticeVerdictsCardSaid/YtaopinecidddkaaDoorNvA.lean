/- notice.Of and its reference -/
import Derived.Test.YtaopinecidddkaaDoorNtA
import Derived.Lib.MinMax
namespace Go.Proofs.YtaopinecidddkaaDoor
open Go.RowKit Go.Sort

theorem nvd_row {W : World} {g : Nat} {T : TypeId} {a b c d e : Value} (o : Own W g T #[a, b, c, d, e]) : W.cell? ⟨g, 0, none⟩ = some a ∧ W.cell? ⟨g, 1, none⟩ = some b ∧ W.cell? ⟨g, 2, none⟩ = some c ∧ W.cell? ⟨g, 3, none⟩ = some d ∧ W.cell? ⟨g, 4, none⟩ = some e := ⟨o.cell rfl, o.cell rfl, o.cell rfl, o.cell rfl, o.cell rfl⟩
set_option maxRecDepth 100000 in
set_option maxHeartbeats 800000 in
theorem nof_kind (a0 a1 a2 a3 a4 a5 : Bool) (k c s t : Int) (A : Option Addr) (n cp : Nat) (w : World) (hk : k ≠ 4) :
    Calls Tryd.prog 12 #[.agg #[.bool a0, .bool a1, .bool a2, .bool a3, .bool a4, .bool a5], .agg #[.int .i64 k, .int .i64 c, .int .i64 s, .slice A n cp, .int .i64 t]] w fun e w' => e = .returned (.tuple #[.agg #[.int .i64 0, .int .i64 0, .slice none 0 0], .bool false]) ∧ Below w.heap.size w w' := by
  have hb0 := bl_alloc (bl_alloc (bl_alloc (bl_refl w) (.cells #[.bool a0, .bool a1, .bool a2, .bool a3, .bool a4, .bool a5] 23)) (.cells #[.int .i64 k, .int .i64 c, .int .i64 s, .slice A n cp, .int .i64 t] 26)) (.cells #[.int .i64 0, .int .i64 0, .slice none 0 0] 30)
  have oO0 := ((Own.new w 23 #[.bool a0, .bool a1, .bool a2, .bool a3, .bool a4, .bool a5]).alloc (.cells #[.int .i64 k, .int .i64 c, .int .i64 s, .slice A n cp, .int .i64 t] 26)).alloc (.cells #[.int .i64 0, .int .i64 0, .slice none 0 0] 30)
  have oV0 := (Own.new (w.alloc (.cells #[.bool a0, .bool a1, .bool a2, .bool a3, .bool a4, .bool a5] 23)) 26 #[.int .i64 k, .int .i64 c, .int .i64 s, .slice A n cp, .int .i64 t]).alloc (.cells #[.int .i64 0, .int .i64 0, .slice none 0 0] 30)
  have oN0 := Own.new ((w.alloc (.cells #[.bool a0, .bool a1, .bool a2, .bool a3, .bool a4, .bool a5] 23)).alloc (.cells #[.int .i64 k, .int .i64 c, .int .i64 s, .slice A n cp, .int .i64 t] 26)) 30 #[.int .i64 0, .int .i64 0, .slice none 0 0]
  rw [show (w.alloc (.cells #[.bool a0, .bool a1, .bool a2, .bool a3, .bool a4, .bool a5] 23)).heap.size = w.heap.size + 1 by simp] at oV0
  rw [show ((w.alloc (.cells #[.bool a0, .bool a1, .bool a2, .bool a3, .bool a4, .bool a5] 23)).alloc (.cells #[.int .i64 k, .int .i64 c, .int .i64 s, .slice A n cp, .int .i64 t] 26)).heap.size = w.heap.size + 1 + 1 by simp] at oN0
  go_enter Tryd.func12, Tryd.ntmps12
  go_wp2_with fail
  all_goals first | (exfalso; omega) | exact bodyPost_ret (results_cell_tmp (p := 4) (t := 5) (fn := Tryd.f12) rfl _ _ (w.heap.size + 1 + 1) 30 #[.int .i64 0, .int .i64 0, .slice none 0 0] _ rfl oN0 nt_desc rfl (nt_info _ _ _)) rfl ⟨rfl, hb0⟩
set_option maxRecDepth 100000 in
set_option maxHeartbeats 800000 in
theorem nof_prop (a0 a1 a2 a3 a4 a5 : Bool) (c s t : Int) (A : Option Addr) (n cp : Nat) (w : World) (hok : vdOk 4 c s n t = false) :
    Calls Tryd.prog 12 #[.agg #[.bool a0, .bool a1, .bool a2, .bool a3, .bool a4, .bool a5], .agg #[.int .i64 4, .int .i64 c, .int .i64 s, .slice A n cp, .int .i64 t]] w fun e w' => e = .returned (.tuple #[.agg #[.int .i64 0, .int .i64 0, .slice none 0 0], .bool false]) ∧ Below w.heap.size w w' := by
  have hb0 := bl_alloc (bl_alloc (bl_alloc (bl_refl w) (.cells #[.bool a0, .bool a1, .bool a2, .bool a3, .bool a4, .bool a5] 23)) (.cells #[.int .i64 4, .int .i64 c, .int .i64 s, .slice A n cp, .int .i64 t] 26)) (.cells #[.int .i64 0, .int .i64 0, .slice none 0 0] 30)
  have oO0 := ((Own.new w 23 #[.bool a0, .bool a1, .bool a2, .bool a3, .bool a4, .bool a5]).alloc (.cells #[.int .i64 4, .int .i64 c, .int .i64 s, .slice A n cp, .int .i64 t] 26)).alloc (.cells #[.int .i64 0, .int .i64 0, .slice none 0 0] 30)
  have oV0 := (Own.new (w.alloc (.cells #[.bool a0, .bool a1, .bool a2, .bool a3, .bool a4, .bool a5] 23)) 26 #[.int .i64 4, .int .i64 c, .int .i64 s, .slice A n cp, .int .i64 t]).alloc (.cells #[.int .i64 0, .int .i64 0, .slice none 0 0] 30)
  have oN0 := Own.new ((w.alloc (.cells #[.bool a0, .bool a1, .bool a2, .bool a3, .bool a4, .bool a5] 23)).alloc (.cells #[.int .i64 4, .int .i64 c, .int .i64 s, .slice A n cp, .int .i64 t] 26)) 30 #[.int .i64 0, .int .i64 0, .slice none 0 0]
  rw [show (w.alloc (.cells #[.bool a0, .bool a1, .bool a2, .bool a3, .bool a4, .bool a5] 23)).heap.size = w.heap.size + 1 by simp] at oV0
  rw [show ((w.alloc (.cells #[.bool a0, .bool a1, .bool a2, .bool a3, .bool a4, .bool a5] 23)).alloc (.cells #[.int .i64 4, .int .i64 c, .int .i64 s, .slice A n cp, .int .i64 t] 26)).heap.size = w.heap.size + 1 + 1 by simp] at oN0
  have HK := Lib.hid hok
  clear hok
  go_enter Tryd.func12, Tryd.ntmps12
  go_wp2_with fail
  refine (fproper_any 4 c s t A n cp _).mono ?_
  rw [HK.out]
  rintro e w1 ⟨rfl, hb1⟩
  have pN := oN0.step hb1
  have hb2 := bl_trans hb0 hb1
  obtain ⟨n0, n1, n2⟩ := nt_cells pN
  have f0 := pN.frozen 0
  have f1 := pN.frozen 1
  have f2 := pN.frozen 2
  have hlt := pN.lt
  clear oO0 oV0 oN0 hb0 hb1
  go_wp2_with fail
  exact bodyPost_ret (results_cell_tmp (p := 4) (t := 5) (fn := Tryd.f12) rfl _ _ (w.heap.size + 1 + 1) 30 #[.int .i64 0, .int .i64 0, .slice none 0 0] _ rfl (nt3_own pN _ _ _) nt_desc rfl (nt_info _ _ _)) rfl ⟨rfl, nt3_below hb2 (by omega) _ _ _⟩
set_option maxRecDepth 100000 in
set_option maxHeartbeats 1600000 in
theorem nof_T (a0 a2 a3 a4 a5 : Bool) (c s t : Int) (A : Option Addr) (n cp : Nat) (xs : List Int) (w : World) (hx : Bytes w w.heap.size A n xs) (hnc : n ≤ cp) (hm9 : n ≤ 1000000) (hok : vdOk 4 c s n t = true) (m : Nat) (hm : min (65514 : Int) (n : Int) = (m : Int)) :
    Calls Tryd.prog 12 #[.agg #[.bool a0, .bool true, .bool a2, .bool a3, .bool a4, .bool a5], .agg #[.int .i64 4, .int .i64 c, .int .i64 s, .slice A n cp, .int .i64 t]] w fun e w' => ∃ g, e = .returned (.tuple #[.agg #[.int .i64 c, .int .i64 s, .slice (some ⟨g, 0, none⟩) m m], .bool true]) ∧ w.heap.size ≤ g ∧ Own w' g 5 ((xs.take m).map (Value.int .u8)).toArray ∧ Below w.heap.size w w' := by
  have hmn : m ≤ n := by omega
  have hb0 := bl_alloc (bl_alloc (bl_alloc (bl_refl w) (.cells #[.bool a0, .bool true, .bool a2, .bool a3, .bool a4, .bool a5] 23)) (.cells #[.int .i64 4, .int .i64 c, .int .i64 s, .slice A n cp, .int .i64 t] 26)) (.cells #[.int .i64 0, .int .i64 0, .slice none 0 0] 30)
  have oO0 := ((Own.new w 23 #[.bool a0, .bool true, .bool a2, .bool a3, .bool a4, .bool a5]).alloc (.cells #[.int .i64 4, .int .i64 c, .int .i64 s, .slice A n cp, .int .i64 t] 26)).alloc (.cells #[.int .i64 0, .int .i64 0, .slice none 0 0] 30)
  have oV0 := (Own.new (w.alloc (.cells #[.bool a0, .bool true, .bool a2, .bool a3, .bool a4, .bool a5] 23)) 26 #[.int .i64 4, .int .i64 c, .int .i64 s, .slice A n cp, .int .i64 t]).alloc (.cells #[.int .i64 0, .int .i64 0, .slice none 0 0] 30)
  have oN0 := Own.new ((w.alloc (.cells #[.bool a0, .bool true, .bool a2, .bool a3, .bool a4, .bool a5] 23)).alloc (.cells #[.int .i64 4, .int .i64 c, .int .i64 s, .slice A n cp, .int .i64 t] 26)) 30 #[.int .i64 0, .int .i64 0, .slice none 0 0]
  rw [show (w.alloc (.cells #[.bool a0, .bool true, .bool a2, .bool a3, .bool a4, .bool a5] 23)).heap.size = w.heap.size + 1 by simp] at oV0
  rw [show ((w.alloc (.cells #[.bool a0, .bool true, .bool a2, .bool a3, .bool a4, .bool a5] 23)).alloc (.cells #[.int .i64 4, .int .i64 c, .int .i64 s, .slice A n cp, .int .i64 t] 26)).heap.size = w.heap.size + 1 + 1 by simp] at oN0
  have hf := hx.front (k := m) hmn
  have HL := Lib.hid hf.1
  have HB := Lib.hid hf
  have HK := Lib.hid hok
  clear hx hf hok
  generalize xs.take m = zs at *
  have i0 : (0 : Int) ≤ (m : Int) := by omega
  have i1 : (m : Int) ≤ (cp : Int) := by omega
  go_enter Tryd.func12, Tryd.ntmps12
  go_wp2_with fail
  refine (fproper_any 4 c s t A n cp _).mono ?_
  rw [HK.out]
  rintro e w1 ⟨rfl, hb1⟩
  have pN := oN0.step hb1
  have pV := oV0.step hb1
  have pO := oO0.step hb1
  have hb2 := bl_trans hb0 hb1
  obtain ⟨v0, v1, v2, v3, v4⟩ := nvd_row pV
  have u1 := pO.cell (i := 1) (v := .bool true) rfl
  obtain ⟨k0, k1, k2⟩ := nt_cells pN
  have f0 := pN.frozen 0
  have f1 := pN.frozen 1
  have f2 := pN.frozen 2
  have hlt := pN.lt
  have hltV := pV.lt
  have hB1 := HB.out.below hb2
  have HB1 := Lib.hid hB1
  have hne : w.heap.size + 1 ≠ w.heap.size + 1 + 1 := by omega
  clear oO0 oV0 oN0 hb0 hb1 hB1
  go_wp2_with fail
  have hbA := (bl_alloc (bl_refl w1) (.cells #[.slice A m m] 24)).drew
  have oD := (Own.new w1 24 #[.slice A m m]).drew
  have hcD : Bytes (w1.alloc (.cells #[.slice A m m] 24)).drew (w1.alloc (.cells #[.slice A m m] 24)).drew.heap.size A m zs := (((HB1.out.more hb2.size).below hbA)).more hbA.size
  have hpt := parts_one4 (c1 := m) oD hcD
  have HF := Lib.hid (show flat [⟨A, m, m, zs⟩] = zs by simp [flat])
  have oA := (pN.alloc (.cells #[.slice A m m] 24)).drew
  have hVs := Lib.hid (show (w1.alloc (.cells #[.slice A m m] 24)).drew.heap.size = w1.heap.size + 1 by simp [World.drew])
  have HS0 : w1.drew.cell? ⟨w.heap.size + 1, 1, none⟩ = some (.int .i64 c) ∧ w1.drew.cell? ⟨w.heap.size + 1, 2, none⟩ = some (.int .i64 s) ∧ w1.drew.cell? ⟨w.heap.size + 1, 3, none⟩ = some (.slice A n cp) := ⟨v1, v2, v3⟩
  have HSA : (w1.alloc (.cells #[.slice A m m] 24)).drew.cell? ⟨w.heap.size + 1, 1, none⟩ = some (.int .i64 c) ∧ (w1.alloc (.cells #[.slice A m m] 24)).drew.cell? ⟨w.heap.size + 1, 2, none⟩ = some (.int .i64 s) ∧ (w1.alloc (.cells #[.slice A m m] 24)).drew.cell? ⟨w.heap.size + 1, 3, none⟩ = some (.slice A n cp) := ⟨(hbA.cell (p := ⟨w.heap.size + 1, 1, none⟩) hltV).trans v1, (hbA.cell (p := ⟨w.heap.size + 1, 2, none⟩) hltV).trans v2, (hbA.cell (p := ⟨w.heap.size + 1, 3, none⟩) hltV).trans v3⟩
  go_region_held3 (fun W => W.cell? ⟨w.heap.size + 1, 1, none⟩ = some (.int .i64 c) ∧ W.cell? ⟨w.heap.size + 1, 2, none⟩ = some (.int .i64 s) ∧ W.cell? ⟨w.heap.size + 1, 3, none⟩ = some (.slice A n cp)) (with_reducible first | exact HS0 | exact HSA | exact HS2 | exact HS3 _ _ _) ((first
    | (go_at_call 52; (with_reducible refine (cat_own (c := 1) hpt (by omega) (by rw [HF.out, ← HL.out]; omega)).mono ?_); rw [HF.out, ← HL.out, hVs.out]; rintro e w2 ⟨rfl, ho1, hb1⟩; rw [← hVs.out] at hb1; have hbw := bl_trans hb2 (hbA.trans (hb1.mono (by simp [World.drew]))); have q1 := (hb1.cell (p := ⟨w.heap.size + 1, 1, none⟩) (by simp [World.drew]; omega)).trans HSA.1; have q2 := (hb1.cell (p := ⟨w.heap.size + 1, 2, none⟩) (by simp [World.drew]; omega)).trans HSA.2.1; have q3 := (hb1.cell (p := ⟨w.heap.size + 1, 3, none⟩) (by simp [World.drew]; omega)).trans HSA.2.2; have HS2 : w2.cell? ⟨w.heap.size + 1, 1, none⟩ = some (.int .i64 c) ∧ w2.cell? ⟨w.heap.size + 1, 2, none⟩ = some (.int .i64 s) ∧ w2.cell? ⟨w.heap.size + 1, 3, none⟩ = some (.slice A n cp) := ⟨q1, q2, q3⟩; have HS3 := fun x y z => And.intro ((nt3_cell (V := w2) hne x y z).trans q1) (And.intro ((nt3_cell (V := w2) hne x y z).trans q2) ((nt3_cell (V := w2) hne x y z).trans q3)); have pW := oA.step hb1; have k0 := pW.cell (i := 0) (v := .int .i64 0) rfl; have k1 := pW.cell (i := 1) (v := .int .i64 0) rfl; have k2 := pW.cell (i := 2) (v := .slice none 0 0) rfl; have f0 := pW.frozen 0; have f1 := pW.frozen 1; have f2 := pW.frozen 2; have hlt1 := pW.lt)))
  go_wp2
  exact bodyPost_ret (results_cell_tmp (p := 4) (t := 5) (fn := Tryd.f12) rfl _ _ (w.heap.size + 1 + 1) 30 #[.int .i64 c, .int .i64 s, .slice (some ⟨w1.heap.size + 1, 0, none⟩) m m] _ rfl (nt3_own pW _ _ _) nt_desc rfl (nt_info _ _ _)) rfl ⟨w1.heap.size + 1, rfl, by have := hb2.size; omega, nt3_far ho1 (show w1.heap.size + 1 ≠ w.heap.size + 1 + 1 by omega) _ _ _, nt3_below hbw (by omega) _ _ _⟩
set_option maxRecDepth 100000 in
set_option maxHeartbeats 1600000 in
theorem nof_F (a0 a2 a3 a4 a5 : Bool) (c s t : Int) (A : Option Addr) (n cp : Nat) (xs : List Int) (w : World) (hx : Bytes w w.heap.size A n xs) (hnc : n ≤ cp) (hm9 : n ≤ 1000000) (hok : vdOk 4 c s n t = true) (m : Nat) (hm : min (4075 : Int) (n : Int) = (m : Int)) :
    Calls Tryd.prog 12 #[.agg #[.bool a0, .bool false, .bool a2, .bool a3, .bool a4, .bool a5], .agg #[.int .i64 4, .int .i64 c, .int .i64 s, .slice A n cp, .int .i64 t]] w fun e w' => ∃ g, e = .returned (.tuple #[.agg #[.int .i64 c, .int .i64 s, .slice (some ⟨g, 0, none⟩) m m], .bool true]) ∧ w.heap.size ≤ g ∧ Own w' g 5 ((xs.take m).map (Value.int .u8)).toArray ∧ Below w.heap.size w w' := by
  have hmn : m ≤ n := by omega
  have hb0 := bl_alloc (bl_alloc (bl_alloc (bl_refl w) (.cells #[.bool a0, .bool false, .bool a2, .bool a3, .bool a4, .bool a5] 23)) (.cells #[.int .i64 4, .int .i64 c, .int .i64 s, .slice A n cp, .int .i64 t] 26)) (.cells #[.int .i64 0, .int .i64 0, .slice none 0 0] 30)
  have oO0 := ((Own.new w 23 #[.bool a0, .bool false, .bool a2, .bool a3, .bool a4, .bool a5]).alloc (.cells #[.int .i64 4, .int .i64 c, .int .i64 s, .slice A n cp, .int .i64 t] 26)).alloc (.cells #[.int .i64 0, .int .i64 0, .slice none 0 0] 30)
  have oV0 := (Own.new (w.alloc (.cells #[.bool a0, .bool false, .bool a2, .bool a3, .bool a4, .bool a5] 23)) 26 #[.int .i64 4, .int .i64 c, .int .i64 s, .slice A n cp, .int .i64 t]).alloc (.cells #[.int .i64 0, .int .i64 0, .slice none 0 0] 30)
  have oN0 := Own.new ((w.alloc (.cells #[.bool a0, .bool false, .bool a2, .bool a3, .bool a4, .bool a5] 23)).alloc (.cells #[.int .i64 4, .int .i64 c, .int .i64 s, .slice A n cp, .int .i64 t] 26)) 30 #[.int .i64 0, .int .i64 0, .slice none 0 0]
  rw [show (w.alloc (.cells #[.bool a0, .bool false, .bool a2, .bool a3, .bool a4, .bool a5] 23)).heap.size = w.heap.size + 1 by simp] at oV0
  rw [show ((w.alloc (.cells #[.bool a0, .bool false, .bool a2, .bool a3, .bool a4, .bool a5] 23)).alloc (.cells #[.int .i64 4, .int .i64 c, .int .i64 s, .slice A n cp, .int .i64 t] 26)).heap.size = w.heap.size + 1 + 1 by simp] at oN0
  have hf := hx.front (k := m) hmn
  have HL := Lib.hid hf.1
  have HB := Lib.hid hf
  have HK := Lib.hid hok
  clear hx hf hok
  generalize xs.take m = zs at *
  have i0 : (0 : Int) ≤ (m : Int) := by omega
  have i1 : (m : Int) ≤ (cp : Int) := by omega
  go_enter Tryd.func12, Tryd.ntmps12
  go_wp2_with fail
  refine (fproper_any 4 c s t A n cp _).mono ?_
  rw [HK.out]
  rintro e w1 ⟨rfl, hb1⟩
  have pN := oN0.step hb1
  have pV := oV0.step hb1
  have pO := oO0.step hb1
  have hb2 := bl_trans hb0 hb1
  obtain ⟨v0, v1, v2, v3, v4⟩ := nvd_row pV
  have u1 := pO.cell (i := 1) (v := .bool false) rfl
  obtain ⟨k0, k1, k2⟩ := nt_cells pN
  have f0 := pN.frozen 0
  have f1 := pN.frozen 1
  have f2 := pN.frozen 2
  have hlt := pN.lt
  have hltV := pV.lt
  have hB1 := HB.out.below hb2
  have HB1 := Lib.hid hB1
  have hne : w.heap.size + 1 ≠ w.heap.size + 1 + 1 := by omega
  clear oO0 oV0 oN0 hb0 hb1 hB1
  go_wp2_with fail
  have hbA := (bl_alloc (bl_refl w1) (.cells #[.slice A m m] 24)).drew
  have oD := (Own.new w1 24 #[.slice A m m]).drew
  have hcD : Bytes (w1.alloc (.cells #[.slice A m m] 24)).drew (w1.alloc (.cells #[.slice A m m] 24)).drew.heap.size A m zs := (((HB1.out.more hb2.size).below hbA)).more hbA.size
  have hpt := parts_one4 (c1 := m) oD hcD
  have HF := Lib.hid (show flat [⟨A, m, m, zs⟩] = zs by simp [flat])
  have oA := (pN.alloc (.cells #[.slice A m m] 24)).drew
  have hVs := Lib.hid (show (w1.alloc (.cells #[.slice A m m] 24)).drew.heap.size = w1.heap.size + 1 by simp [World.drew])
  have HS0 : w1.drew.cell? ⟨w.heap.size + 1, 1, none⟩ = some (.int .i64 c) ∧ w1.drew.cell? ⟨w.heap.size + 1, 2, none⟩ = some (.int .i64 s) ∧ w1.drew.cell? ⟨w.heap.size + 1, 3, none⟩ = some (.slice A n cp) := ⟨v1, v2, v3⟩
  have HSA : (w1.alloc (.cells #[.slice A m m] 24)).drew.cell? ⟨w.heap.size + 1, 1, none⟩ = some (.int .i64 c) ∧ (w1.alloc (.cells #[.slice A m m] 24)).drew.cell? ⟨w.heap.size + 1, 2, none⟩ = some (.int .i64 s) ∧ (w1.alloc (.cells #[.slice A m m] 24)).drew.cell? ⟨w.heap.size + 1, 3, none⟩ = some (.slice A n cp) := ⟨(hbA.cell (p := ⟨w.heap.size + 1, 1, none⟩) hltV).trans v1, (hbA.cell (p := ⟨w.heap.size + 1, 2, none⟩) hltV).trans v2, (hbA.cell (p := ⟨w.heap.size + 1, 3, none⟩) hltV).trans v3⟩
  go_region_held3 (fun W => W.cell? ⟨w.heap.size + 1, 1, none⟩ = some (.int .i64 c) ∧ W.cell? ⟨w.heap.size + 1, 2, none⟩ = some (.int .i64 s) ∧ W.cell? ⟨w.heap.size + 1, 3, none⟩ = some (.slice A n cp)) (with_reducible first | exact HS0 | exact HSA | exact HS2 | exact HS3 _ _ _) ((first
    | (go_at_call 52; (with_reducible refine (cat_own (c := 1) hpt (by omega) (by rw [HF.out, ← HL.out]; omega)).mono ?_); rw [HF.out, ← HL.out, hVs.out]; rintro e w2 ⟨rfl, ho1, hb1⟩; rw [← hVs.out] at hb1; have hbw := bl_trans hb2 (hbA.trans (hb1.mono (by simp [World.drew]))); have q1 := (hb1.cell (p := ⟨w.heap.size + 1, 1, none⟩) (by simp [World.drew]; omega)).trans HSA.1; have q2 := (hb1.cell (p := ⟨w.heap.size + 1, 2, none⟩) (by simp [World.drew]; omega)).trans HSA.2.1; have q3 := (hb1.cell (p := ⟨w.heap.size + 1, 3, none⟩) (by simp [World.drew]; omega)).trans HSA.2.2; have HS2 : w2.cell? ⟨w.heap.size + 1, 1, none⟩ = some (.int .i64 c) ∧ w2.cell? ⟨w.heap.size + 1, 2, none⟩ = some (.int .i64 s) ∧ w2.cell? ⟨w.heap.size + 1, 3, none⟩ = some (.slice A n cp) := ⟨q1, q2, q3⟩; have HS3 := fun x y z => And.intro ((nt3_cell (V := w2) hne x y z).trans q1) (And.intro ((nt3_cell (V := w2) hne x y z).trans q2) ((nt3_cell (V := w2) hne x y z).trans q3)); have pW := oA.step hb1; have k0 := pW.cell (i := 0) (v := .int .i64 0) rfl; have k1 := pW.cell (i := 1) (v := .int .i64 0) rfl; have k2 := pW.cell (i := 2) (v := .slice none 0 0) rfl; have f0 := pW.frozen 0; have f1 := pW.frozen 1; have f2 := pW.frozen 2; have hlt1 := pW.lt)))
  go_wp2
  exact bodyPost_ret (results_cell_tmp (p := 4) (t := 5) (fn := Tryd.f12) rfl _ _ (w.heap.size + 1 + 1) 30 #[.int .i64 c, .int .i64 s, .slice (some ⟨w1.heap.size + 1, 0, none⟩) m m] _ rfl (nt3_own pW _ _ _) nt_desc rfl (nt_info _ _ _)) rfl ⟨w1.heap.size + 1, rfl, by have := hb2.size; omega, nt3_far ho1 (show w1.heap.size + 1 ≠ w.heap.size + 1 + 1 by omega) _ _ _, nt3_below hbw (by omega) _ _ _⟩
set_option maxRecDepth 100000 in
set_option maxHeartbeats 800000 in
theorem rnof_kind (a0 a1 a2 a3 a4 a5 : Bool) (k c s t : Int) (A : Option Addr) (n cp : Nat) (w : World) (hk : k ≠ 4) :
    Calls Tryd.prog 13 #[.agg #[.bool a0, .bool a1, .bool a2, .bool a3, .bool a4, .bool a5], .agg #[.int .i64 k, .int .i64 c, .int .i64 s, .slice A n cp, .int .i64 t]] w fun e w' => e = .returned (.tuple #[.agg #[.int .i64 0, .int .i64 0, .slice none 0 0], .bool false]) ∧ Below w.heap.size w w' := by
  have hb0 := bl_alloc (bl_alloc (bl_alloc (bl_refl w) (.cells #[.bool a0, .bool a1, .bool a2, .bool a3, .bool a4, .bool a5] 23)) (.cells #[.int .i64 k, .int .i64 c, .int .i64 s, .slice A n cp, .int .i64 t] 26)) (.cells #[.int .i64 0, .int .i64 0, .slice none 0 0] 33)
  have oO0 := ((Own.new w 23 #[.bool a0, .bool a1, .bool a2, .bool a3, .bool a4, .bool a5]).alloc (.cells #[.int .i64 k, .int .i64 c, .int .i64 s, .slice A n cp, .int .i64 t] 26)).alloc (.cells #[.int .i64 0, .int .i64 0, .slice none 0 0] 33)
  have oV0 := (Own.new (w.alloc (.cells #[.bool a0, .bool a1, .bool a2, .bool a3, .bool a4, .bool a5] 23)) 26 #[.int .i64 k, .int .i64 c, .int .i64 s, .slice A n cp, .int .i64 t]).alloc (.cells #[.int .i64 0, .int .i64 0, .slice none 0 0] 33)
  have oN0 := Own.new ((w.alloc (.cells #[.bool a0, .bool a1, .bool a2, .bool a3, .bool a4, .bool a5] 23)).alloc (.cells #[.int .i64 k, .int .i64 c, .int .i64 s, .slice A n cp, .int .i64 t] 26)) 33 #[.int .i64 0, .int .i64 0, .slice none 0 0]
  rw [show (w.alloc (.cells #[.bool a0, .bool a1, .bool a2, .bool a3, .bool a4, .bool a5] 23)).heap.size = w.heap.size + 1 by simp] at oV0
  rw [show ((w.alloc (.cells #[.bool a0, .bool a1, .bool a2, .bool a3, .bool a4, .bool a5] 23)).alloc (.cells #[.int .i64 k, .int .i64 c, .int .i64 s, .slice A n cp, .int .i64 t] 26)).heap.size = w.heap.size + 1 + 1 by simp] at oN0
  go_enter Tryd.func13, Tryd.ntmps13
  go_wp2_with fail
  all_goals first | (exfalso; omega) | exact bodyPost_ret (results_cell_tmp (p := 4) (t := 5) (fn := Tryd.f13) rfl _ _ (w.heap.size + 1 + 1) 33 #[.int .i64 0, .int .i64 0, .slice none 0 0] _ rfl oN0 rnt_desc rfl (rnt_info _ _ _)) rfl ⟨rfl, hb0⟩
set_option maxRecDepth 100000 in
set_option maxHeartbeats 800000 in
theorem rnof_prop (a0 a1 a2 a3 a4 a5 : Bool) (c s t : Int) (A : Option Addr) (n cp : Nat) (w : World) (hok : vdOk 4 c s n t = false) :
    Calls Tryd.prog 13 #[.agg #[.bool a0, .bool a1, .bool a2, .bool a3, .bool a4, .bool a5], .agg #[.int .i64 4, .int .i64 c, .int .i64 s, .slice A n cp, .int .i64 t]] w fun e w' => e = .returned (.tuple #[.agg #[.int .i64 0, .int .i64 0, .slice none 0 0], .bool false]) ∧ Below w.heap.size w w' := by
  have hb0 := bl_alloc (bl_alloc (bl_alloc (bl_refl w) (.cells #[.bool a0, .bool a1, .bool a2, .bool a3, .bool a4, .bool a5] 23)) (.cells #[.int .i64 4, .int .i64 c, .int .i64 s, .slice A n cp, .int .i64 t] 26)) (.cells #[.int .i64 0, .int .i64 0, .slice none 0 0] 33)
  have oO0 := ((Own.new w 23 #[.bool a0, .bool a1, .bool a2, .bool a3, .bool a4, .bool a5]).alloc (.cells #[.int .i64 4, .int .i64 c, .int .i64 s, .slice A n cp, .int .i64 t] 26)).alloc (.cells #[.int .i64 0, .int .i64 0, .slice none 0 0] 33)
  have oV0 := (Own.new (w.alloc (.cells #[.bool a0, .bool a1, .bool a2, .bool a3, .bool a4, .bool a5] 23)) 26 #[.int .i64 4, .int .i64 c, .int .i64 s, .slice A n cp, .int .i64 t]).alloc (.cells #[.int .i64 0, .int .i64 0, .slice none 0 0] 33)
  have oN0 := Own.new ((w.alloc (.cells #[.bool a0, .bool a1, .bool a2, .bool a3, .bool a4, .bool a5] 23)).alloc (.cells #[.int .i64 4, .int .i64 c, .int .i64 s, .slice A n cp, .int .i64 t] 26)) 33 #[.int .i64 0, .int .i64 0, .slice none 0 0]
  rw [show (w.alloc (.cells #[.bool a0, .bool a1, .bool a2, .bool a3, .bool a4, .bool a5] 23)).heap.size = w.heap.size + 1 by simp] at oV0
  rw [show ((w.alloc (.cells #[.bool a0, .bool a1, .bool a2, .bool a3, .bool a4, .bool a5] 23)).alloc (.cells #[.int .i64 4, .int .i64 c, .int .i64 s, .slice A n cp, .int .i64 t] 26)).heap.size = w.heap.size + 1 + 1 by simp] at oN0
  have HK := Lib.hid hok
  clear hok
  go_enter Tryd.func13, Tryd.ntmps13
  go_wp2_with fail
  refine (rproper_any 4 c s t A n cp _).mono ?_
  rw [HK.out]
  rintro e w1 ⟨rfl, hb1⟩
  have pN := oN0.step hb1
  have hb2 := bl_trans hb0 hb1
  obtain ⟨n0, n1, n2⟩ := nt_cells pN
  have f0 := pN.frozen 0
  have f1 := pN.frozen 1
  have f2 := pN.frozen 2
  have hlt := pN.lt
  clear oO0 oV0 oN0 hb0 hb1
  go_wp2_with fail
  exact bodyPost_ret (results_cell_tmp (p := 4) (t := 5) (fn := Tryd.f13) rfl _ _ (w.heap.size + 1 + 1) 33 #[.int .i64 0, .int .i64 0, .slice none 0 0] _ rfl (nt3_own pN _ _ _) rnt_desc rfl (rnt_info _ _ _)) rfl ⟨rfl, nt3_below hb2 (by omega) _ _ _⟩
set_option maxRecDepth 100000 in
set_option maxHeartbeats 1600000 in
theorem rnof_T (a0 a2 a3 a4 a5 : Bool) (c s t : Int) (A : Option Addr) (n cp : Nat) (xs : List Int) (w : World) (hx : Bytes w w.heap.size A n xs) (hnc : n ≤ cp) (hm9 : n ≤ 1000000) (hok : vdOk 4 c s n t = true) (m : Nat) (hm : min (n : Int) 65514 = (m : Int)) :
    Calls Tryd.prog 13 #[.agg #[.bool a0, .bool true, .bool a2, .bool a3, .bool a4, .bool a5], .agg #[.int .i64 4, .int .i64 c, .int .i64 s, .slice A n cp, .int .i64 t]] w fun e w' => e = .returned (.tuple #[.agg #[.int .i64 c, .int .i64 s, .slice A m cp], .bool true]) ∧ Bytes w' w.heap.size A m (xs.take m) ∧ Below w.heap.size w w' := by
  have hmn : m ≤ n := by omega
  have hb0 := bl_alloc (bl_alloc (bl_alloc (bl_refl w) (.cells #[.bool a0, .bool true, .bool a2, .bool a3, .bool a4, .bool a5] 23)) (.cells #[.int .i64 4, .int .i64 c, .int .i64 s, .slice A n cp, .int .i64 t] 26)) (.cells #[.int .i64 0, .int .i64 0, .slice none 0 0] 33)
  have oO0 := ((Own.new w 23 #[.bool a0, .bool true, .bool a2, .bool a3, .bool a4, .bool a5]).alloc (.cells #[.int .i64 4, .int .i64 c, .int .i64 s, .slice A n cp, .int .i64 t] 26)).alloc (.cells #[.int .i64 0, .int .i64 0, .slice none 0 0] 33)
  have oV0 := (Own.new (w.alloc (.cells #[.bool a0, .bool true, .bool a2, .bool a3, .bool a4, .bool a5] 23)) 26 #[.int .i64 4, .int .i64 c, .int .i64 s, .slice A n cp, .int .i64 t]).alloc (.cells #[.int .i64 0, .int .i64 0, .slice none 0 0] 33)
  have oN0 := Own.new ((w.alloc (.cells #[.bool a0, .bool true, .bool a2, .bool a3, .bool a4, .bool a5] 23)).alloc (.cells #[.int .i64 4, .int .i64 c, .int .i64 s, .slice A n cp, .int .i64 t] 26)) 33 #[.int .i64 0, .int .i64 0, .slice none 0 0]
  rw [show (w.alloc (.cells #[.bool a0, .bool true, .bool a2, .bool a3, .bool a4, .bool a5] 23)).heap.size = w.heap.size + 1 by simp] at oV0
  rw [show ((w.alloc (.cells #[.bool a0, .bool true, .bool a2, .bool a3, .bool a4, .bool a5] 23)).alloc (.cells #[.int .i64 4, .int .i64 c, .int .i64 s, .slice A n cp, .int .i64 t] 26)).heap.size = w.heap.size + 1 + 1 by simp] at oN0
  have hf := hx.front (k := m) hmn
  have HL := Lib.hid hf.1
  have HB := Lib.hid hf
  have HK := Lib.hid hok
  clear hx hf hok
  generalize xs.take m = zs at *
  have i0 : (0 : Int) ≤ (m : Int) := by omega
  have i1 : (m : Int) ≤ (cp : Int) := by omega
  go_enter Tryd.func13, Tryd.ntmps13
  go_wp2_with fail
  refine (rproper_any 4 c s t A n cp _).mono ?_
  rw [HK.out]
  rintro e w1 ⟨rfl, hb1⟩
  have pN := oN0.step hb1
  have pV := oV0.step hb1
  have pO := oO0.step hb1
  have hb2 := bl_trans hb0 hb1
  obtain ⟨v0, v1, v2, v3, v4⟩ := nvd_row pV
  have u1 := pO.cell (i := 1) (v := .bool true) rfl
  obtain ⟨k0, k1, k2⟩ := nt_cells pN
  have f0 := pN.frozen 0
  have f1 := pN.frozen 1
  have f2 := pN.frozen 2
  have hlt := pN.lt
  have hltV := pV.lt
  have hB1 := HB.out.below hb2
  have HB1 := Lib.hid hB1
  have hne : w.heap.size + 1 ≠ w.heap.size + 1 + 1 := by omega
  clear oO0 oV0 oN0 hb0 hb1 hB1
  go_wp2_with fail
  have HS0 : w1.drew.cell? ⟨w.heap.size + 1, 1, none⟩ = some (.int .i64 c) ∧ w1.drew.cell? ⟨w.heap.size + 1, 2, none⟩ = some (.int .i64 s) ∧ w1.drew.cell? ⟨w.heap.size + 1, 3, none⟩ = some (.slice A n cp) := ⟨v1, v2, v3⟩
  have HS3 := fun x y z => And.intro ((nt3_celld (V := w1) hne x y z).trans v1) (And.intro ((nt3_celld (V := w1) hne x y z).trans v2) ((nt3_celld (V := w1) hne x y z).trans v3))
  go_region_held3 (fun W => W.cell? ⟨w.heap.size + 1, 1, none⟩ = some (.int .i64 c) ∧ W.cell? ⟨w.heap.size + 1, 2, none⟩ = some (.int .i64 s) ∧ W.cell? ⟨w.heap.size + 1, 3, none⟩ = some (.slice A n cp)) (with_reducible first | exact HS0 | exact HS3 _ _ _) (fail)
  go_wp2
  exact bodyPost_ret (results_cell_tmp (p := 4) (t := 5) (fn := Tryd.f13) rfl _ _ (w.heap.size + 1 + 1) 33 #[.int .i64 c, .int .i64 s, .slice A m cp] _ rfl (nt3_own pN _ _ _) rnt_desc rfl (rnt_info _ _ _)) rfl ⟨rfl, HB1.out.keep (fun b' o' hb' => nt3_cell (V := w1) (by omega) _ _ _), (nt3_below hb2 (by omega) _ _ _).drew⟩
set_option maxRecDepth 100000 in
set_option maxHeartbeats 1600000 in
theorem rnof_F (a0 a2 a3 a4 a5 : Bool) (c s t : Int) (A : Option Addr) (n cp : Nat) (xs : List Int) (w : World) (hx : Bytes w w.heap.size A n xs) (hnc : n ≤ cp) (hm9 : n ≤ 1000000) (hok : vdOk 4 c s n t = true) (m : Nat) (hm : min (n : Int) 4075 = (m : Int)) :
    Calls Tryd.prog 13 #[.agg #[.bool a0, .bool false, .bool a2, .bool a3, .bool a4, .bool a5], .agg #[.int .i64 4, .int .i64 c, .int .i64 s, .slice A n cp, .int .i64 t]] w fun e w' => e = .returned (.tuple #[.agg #[.int .i64 c, .int .i64 s, .slice A m cp], .bool true]) ∧ Bytes w' w.heap.size A m (xs.take m) ∧ Below w.heap.size w w' := by
  have hmn : m ≤ n := by omega
  have hb0 := bl_alloc (bl_alloc (bl_alloc (bl_refl w) (.cells #[.bool a0, .bool false, .bool a2, .bool a3, .bool a4, .bool a5] 23)) (.cells #[.int .i64 4, .int .i64 c, .int .i64 s, .slice A n cp, .int .i64 t] 26)) (.cells #[.int .i64 0, .int .i64 0, .slice none 0 0] 33)
  have oO0 := ((Own.new w 23 #[.bool a0, .bool false, .bool a2, .bool a3, .bool a4, .bool a5]).alloc (.cells #[.int .i64 4, .int .i64 c, .int .i64 s, .slice A n cp, .int .i64 t] 26)).alloc (.cells #[.int .i64 0, .int .i64 0, .slice none 0 0] 33)
  have oV0 := (Own.new (w.alloc (.cells #[.bool a0, .bool false, .bool a2, .bool a3, .bool a4, .bool a5] 23)) 26 #[.int .i64 4, .int .i64 c, .int .i64 s, .slice A n cp, .int .i64 t]).alloc (.cells #[.int .i64 0, .int .i64 0, .slice none 0 0] 33)
  have oN0 := Own.new ((w.alloc (.cells #[.bool a0, .bool false, .bool a2, .bool a3, .bool a4, .bool a5] 23)).alloc (.cells #[.int .i64 4, .int .i64 c, .int .i64 s, .slice A n cp, .int .i64 t] 26)) 33 #[.int .i64 0, .int .i64 0, .slice none 0 0]
  rw [show (w.alloc (.cells #[.bool a0, .bool false, .bool a2, .bool a3, .bool a4, .bool a5] 23)).heap.size = w.heap.size + 1 by simp] at oV0
  rw [show ((w.alloc (.cells #[.bool a0, .bool false, .bool a2, .bool a3, .bool a4, .bool a5] 23)).alloc (.cells #[.int .i64 4, .int .i64 c, .int .i64 s, .slice A n cp, .int .i64 t] 26)).heap.size = w.heap.size + 1 + 1 by simp] at oN0
  have hf := hx.front (k := m) hmn
  have HL := Lib.hid hf.1
  have HB := Lib.hid hf
  have HK := Lib.hid hok
  clear hx hf hok
  generalize xs.take m = zs at *
  have i0 : (0 : Int) ≤ (m : Int) := by omega
  have i1 : (m : Int) ≤ (cp : Int) := by omega
  go_enter Tryd.func13, Tryd.ntmps13
  go_wp2_with fail
  refine (rproper_any 4 c s t A n cp _).mono ?_
  rw [HK.out]
  rintro e w1 ⟨rfl, hb1⟩
  have pN := oN0.step hb1
  have pV := oV0.step hb1
  have pO := oO0.step hb1
  have hb2 := bl_trans hb0 hb1
  obtain ⟨v0, v1, v2, v3, v4⟩ := nvd_row pV
  have u1 := pO.cell (i := 1) (v := .bool false) rfl
  obtain ⟨k0, k1, k2⟩ := nt_cells pN
  have f0 := pN.frozen 0
  have f1 := pN.frozen 1
  have f2 := pN.frozen 2
  have hlt := pN.lt
  have hltV := pV.lt
  have hB1 := HB.out.below hb2
  have HB1 := Lib.hid hB1
  have hne : w.heap.size + 1 ≠ w.heap.size + 1 + 1 := by omega
  clear oO0 oV0 oN0 hb0 hb1 hB1
  go_wp2_with fail
  have HS0 : w1.drew.cell? ⟨w.heap.size + 1, 1, none⟩ = some (.int .i64 c) ∧ w1.drew.cell? ⟨w.heap.size + 1, 2, none⟩ = some (.int .i64 s) ∧ w1.drew.cell? ⟨w.heap.size + 1, 3, none⟩ = some (.slice A n cp) := ⟨v1, v2, v3⟩
  have HS3 := fun x y z => And.intro ((nt3_celld (V := w1) hne x y z).trans v1) (And.intro ((nt3_celld (V := w1) hne x y z).trans v2) ((nt3_celld (V := w1) hne x y z).trans v3))
  go_region_held3 (fun W => W.cell? ⟨w.heap.size + 1, 1, none⟩ = some (.int .i64 c) ∧ W.cell? ⟨w.heap.size + 1, 2, none⟩ = some (.int .i64 s) ∧ W.cell? ⟨w.heap.size + 1, 3, none⟩ = some (.slice A n cp)) (with_reducible first | exact HS0 | exact HS3 _ _ _) (fail)
  go_wp2
  exact bodyPost_ret (results_cell_tmp (p := 4) (t := 5) (fn := Tryd.f13) rfl _ _ (w.heap.size + 1 + 1) 33 #[.int .i64 c, .int .i64 s, .slice A m cp] _ rfl (nt3_own pN _ _ _) rnt_desc rfl (rnt_info _ _ _)) rfl ⟨rfl, HB1.out.keep (fun b' o' hb' => nt3_cell (V := w1) (by omega) _ _ _), (nt3_below hb2 (by omega) _ _ _).drew⟩
/-- Does a verdict have a notice; and what the notice's parts are. -/
def ofOk (k c s : Int) (n : Nat) (t : Int) : Bool := (k == 4) && vdOk k c s n t
def ofR (x : Bool) : Nat := if x then 65514 else 4075
def ofN (ok : Bool) (y : Int) : Int := if ok then y else 0
def ofL (x ok : Bool) (xs : List Int) : List Int := if ok then xs.take (ofR x) else []
theorem ofOk_four {k c s t : Int} {n : Nat} (h : ofOk k c s n t = true) : k = 4 ∧ vdOk 4 c s n t = true := by
  unfold ofOk at h
  simp only [Bool.and_eq_true, beq_iff_eq] at h
  exact ⟨h.1, h.1 ▸ h.2⟩
theorem ofOk_not {k c s t : Int} {n : Nat} (h : ofOk k c s n t = false) : k ≠ 4 ∨ k = 4 ∧ vdOk 4 c s n t = false := by
  unfold ofOk at h
  by_cases hk : k = 4
  · subst hk
    exact .inr ⟨rfl, by simpa using h⟩
  · exact .inl hk
theorem ofL_len (x : Bool) (xs : List Int) {n : Nat} (hn : n = xs.length) : (ofL x true xs).length = min (ofR x) n := by
  show (xs.take (ofR x)).length = _
  rw [List.length_take, hn]
theorem ofL_take (x : Bool) (xs : List Int) {n : Nat} (hn : n = xs.length) : xs.take (min (ofR x) n) = ofL x true xs := by
  show _ = xs.take (ofR x)
  rw [hn]
  rcases Nat.le_total (ofR x) xs.length with h | h
  · rw [Nat.min_eq_left h]
  · rw [Nat.min_eq_right h, List.take_of_length_le (Nat.le_refl _), List.take_of_length_le h]
theorem of_facts {x : Bool} {k c s t : Int} {n : Nat} {xs : List Int} (h : ofOk k c s n t = true) : ntOk (ofN (ofOk k c s n t) c) (ofN (ofOk k c s n t) s) (ofL x (ofOk k c s n t) xs).length = true ∧ (x = true ∨ (ofL x (ofOk k c s n t) xs).length ≤ 4075) := by
  obtain ⟨_, hv⟩ := ofOk_four h
  rw [h]
  unfold vdOk at hv
  rw [decide_eq_true_eq] at hv
  have hl : (ofL x true xs).length ≤ ofR x := by show (xs.take (ofR x)).length ≤ _; rw [List.length_take]; exact Nat.min_le_left _ _
  have hr : ofR x ≤ 65514 := by cases x <;> decide
  have hc : ofN true c = c := rfl
  have hs : ofN true s = s := rfl
  rw [hc, hs]
  refine ⟨ntOk_iff.2 ⟨by omega, by omega, by omega⟩, ?_⟩
  cases x
  · exact .inr hl
  · exact .inl rfl
set_option maxRecDepth 100000 in
theorem nof_any (a0 a1 a2 a3 a4 a5 : Bool) (k c s t : Int) (A : Option Addr) (n cp : Nat) (xs : List Int) (w : World) (hx : Bytes w w.heap.size A n xs) (hnc : n ≤ cp) (hm9 : n ≤ 1000000) :
    Calls Tryd.prog 12 #[.agg #[.bool a0, .bool a1, .bool a2, .bool a3, .bool a4, .bool a5], .agg #[.int .i64 k, .int .i64 c, .int .i64 s, .slice A n cp, .int .i64 t]] w fun e w' => ∃ A2 c2, e = .returned (.tuple #[.agg #[.int .i64 (ofN (ofOk k c s n t) c), .int .i64 (ofN (ofOk k c s n t) s), .slice A2 (ofL a1 (ofOk k c s n t) xs).length c2], .bool (ofOk k c s n t)]) ∧ Bytes w' w'.heap.size A2 (ofL a1 (ofOk k c s n t) xs).length (ofL a1 (ofOk k c s n t) xs) ∧ Below w.heap.size w w' := by
  cases hok : ofOk k c s n t
  · rcases ofOk_not hok with hk | ⟨rfl, hp⟩
    · refine (nof_kind a0 a1 a2 a3 a4 a5 k c s t A n cp w hk).mono ?_
      rintro e w' ⟨rfl, hb⟩
      exact ⟨none, 0, rfl, Bytes.nil _ _ _, hb⟩
    · refine (nof_prop a0 a1 a2 a3 a4 a5 c s t A n cp w hp).mono ?_
      rintro e w' ⟨rfl, hb⟩
      exact ⟨none, 0, rfl, Bytes.nil _ _ _, hb⟩
  · obtain ⟨rfl, hp⟩ := ofOk_four hok
    cases a1
    · have hl := ofL_len false xs hx.1
      have he := ofL_take false xs hx.1
      refine (nof_F a0 a2 a3 a4 a5 c s t A n cp xs w hx hnc hm9 hp (min (ofR false) n) (by unfold ofR; simp; omega)).mono ?_
      rintro e w' ⟨g, rfl, hg, ho, hb⟩
      rw [he] at ho
      rw [← hl]
      exact ⟨_, _, rfl, Bytes.of_owned ho (fun x hm => hx.2.1 x (List.mem_of_mem_take (show x ∈ xs.take (ofR false) from hm))) ho.lt, hb⟩
    · have hl := ofL_len true xs hx.1
      have he := ofL_take true xs hx.1
      refine (nof_T a0 a2 a3 a4 a5 c s t A n cp xs w hx hnc hm9 hp (min (ofR true) n) (by unfold ofR; simp; omega)).mono ?_
      rintro e w' ⟨g, rfl, hg, ho, hb⟩
      rw [he] at ho
      rw [← hl]
      exact ⟨_, _, rfl, Bytes.of_owned ho (fun x hm => hx.2.1 x (List.mem_of_mem_take (show x ∈ xs.take (ofR true) from hm))) ho.lt, hb⟩
set_option maxRecDepth 100000 in
theorem rnof_any (a0 a1 a2 a3 a4 a5 : Bool) (k c s t : Int) (A : Option Addr) (n cp : Nat) (xs : List Int) (w : World) (hx : Bytes w w.heap.size A n xs) (hnc : n ≤ cp) (hm9 : n ≤ 1000000) :
    Calls Tryd.prog 13 #[.agg #[.bool a0, .bool a1, .bool a2, .bool a3, .bool a4, .bool a5], .agg #[.int .i64 k, .int .i64 c, .int .i64 s, .slice A n cp, .int .i64 t]] w fun e w' => ∃ A2 c2, e = .returned (.tuple #[.agg #[.int .i64 (ofN (ofOk k c s n t) c), .int .i64 (ofN (ofOk k c s n t) s), .slice A2 (ofL a1 (ofOk k c s n t) xs).length c2], .bool (ofOk k c s n t)]) ∧ Bytes w' w'.heap.size A2 (ofL a1 (ofOk k c s n t) xs).length (ofL a1 (ofOk k c s n t) xs) ∧ Below w.heap.size w w' := by
  cases hok : ofOk k c s n t
  · rcases ofOk_not hok with hk | ⟨rfl, hp⟩
    · refine (rnof_kind a0 a1 a2 a3 a4 a5 k c s t A n cp w hk).mono ?_
      rintro e w' ⟨rfl, hb⟩
      exact ⟨none, 0, rfl, Bytes.nil _ _ _, hb⟩
    · refine (rnof_prop a0 a1 a2 a3 a4 a5 c s t A n cp w hp).mono ?_
      rintro e w' ⟨rfl, hb⟩
      exact ⟨none, 0, rfl, Bytes.nil _ _ _, hb⟩
  · obtain ⟨rfl, hp⟩ := ofOk_four hok
    cases a1
    · have hl := ofL_len false xs hx.1
      have he := ofL_take false xs hx.1
      refine (rnof_F a0 a2 a3 a4 a5 c s t A n cp xs w hx hnc hm9 hp (min (ofR false) n) (by unfold ofR; simp; omega)).mono ?_
      rintro e w' ⟨rfl, hB, hb⟩
      rw [he] at hB
      rw [← hl] at hB ⊢
      exact ⟨_, _, rfl, hB.more hb.size, hb⟩
    · have hl := ofL_len true xs hx.1
      have he := ofL_take true xs hx.1
      refine (rnof_T a0 a2 a3 a4 a5 c s t A n cp xs w hx hnc hm9 hp (min (ofR true) n) (by unfold ofR; simp; omega)).mono ?_
      rintro e w' ⟨rfl, hB, hb⟩
      rw [he] at hB
      rw [← hl] at hB ⊢
      exact ⟨_, _, rfl, hB.more hb.size, hb⟩
end Go.Proofs.YtaopinecidddkaaDoor

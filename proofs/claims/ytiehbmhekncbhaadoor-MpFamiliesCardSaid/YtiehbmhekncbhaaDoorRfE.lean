/- mp.Codes, refresh.Make -/
import Derived.Test.YtiehbmhekncbhaaDoorRfD
import Derived.Test.YtiehbmhekncbhaaDoorPfxB
import Derived.Test.YtiehbmhekncbhaaDoorFlCa
import Derived.Deep.RegionHeld3
namespace Go.Proofs.YtiehbmhekncbhaaDoor
open Go.RowKit Extern.Stop

set_option maxRecDepth 100000 in
theorem codes_yes (f : Int) (w : World) (hf : f = 1 ∨ f = 2) (ht : Fams w) :
    Calls Tryd.prog 49 #[.int .i64 f] w fun e w' => ∃ g, e = .returned (.tuple #[.slice (some ⟨g, 0, none⟩) 3 3, .bool true]) ∧ w.heap.size ≤ g ∧ Own w' g 5 #[.int .u8 0, .int .u8 f, .int .u8 1] ∧ Below w.heap.size w w' := by
  have key : ∀ (W w1 : World), Own w1 W.heap.size 5 ((digitsOf (2 : Int).toNat f).map (Value.int .u8)).toArray → Below W.heap.size W w1 →
      Calls Tryd.prog 64 #[.slice (some ⟨w1.heap.size + 1, 0, none⟩) 2 2] ((w1.alloc (.cells #[.int .u8 1] 5)).alloc (.cells #[.slice (some ⟨W.heap.size, 0, none⟩) 2 2, .slice (some ⟨w1.heap.size, 0, none⟩) 1 1] 22)) fun e w' => ∃ g, e = .returned (.slice (some ⟨g, 0, none⟩) 3 3) ∧ W.heap.size ≤ g ∧ Own w' g 5 #[.int .u8 0, .int .u8 f, .int .u8 1] ∧ Below W.heap.size W w' := by
    intro W w1 ho hb
    have hba := bl_alloc (bl_alloc (bl_refl w1) (.cells #[.int .u8 1] 5)) (.cells #[.slice (some ⟨W.heap.size, 0, none⟩) 2 2, .slice (some ⟨w1.heap.size, 0, none⟩) 1 1] 22)
    have om := ((Own.new w1 5 #[.int .u8 1]).alloc (.cells #[.slice (some ⟨W.heap.size, 0, none⟩) 2 2, .slice (some ⟨w1.heap.size, 0, none⟩) 1 1] 22))
    have b1 := Bytes.of_owned (xs := [1]) om (by intro x hx; simp at hx; omega) om.lt
    have o2 := ho.step hba
    have b2 := Bytes.of_owned (xs := digitsOf (2 : Int).toNat f) o2 (digitsOf_range _ _) o2.lt
    rw [digitsOf_len] at b2
    have hs2 : (w1.alloc (.cells #[.int .u8 1] 5)).heap.size = w1.heap.size + 1 := by simp
    have on := Own.new (w1.alloc (.cells #[.int .u8 1] 5)) 22 #[.slice (some ⟨W.heap.size, 0, none⟩) 2 2, .slice (some ⟨w1.heap.size, 0, none⟩) 1 1]
    rw [hs2] at on
    have hpt := parts_two (c1 := 2) (c2 := 1) on b2 b1
    have hfl : flat [⟨some ⟨W.heap.size, 0, none⟩, 2, 2, digitsOf (2 : Int).toNat f⟩, ⟨some ⟨w1.heap.size, 0, none⟩, 1, 1, [1]⟩] = [0, f, 1] := by
      rcases hf with rfl | rfl <;> rfl
    refine (cat_own (c := 2) hpt (by omega) (by rw [hfl]; simp)).mono ?_
    rw [hfl]
    rintro e w2 ⟨rfl, ho2, hb2⟩
    exact ⟨_, rfl, by have := hb.size; simp; omega, ho2, bl_trans (bl_trans hb hba) hb2⟩
  obtain ⟨f1, f2, _⟩ := ht
  rcases hf with rfl | rfl
  · go_enter Tryd.func49, Tryd.ntmps49
    go_wp2_with fail
    refine (put_yes 2 1 _ (by omega) (by omega) (by omega) (by decide)).mono ?_
    rintro e w1 ⟨rfl, ho1, hb1⟩
    go_wp2_with fail
    refine (key _ _ ho1 hb1).mono ?_
    rintro e w2 ⟨g, rfl, hg, ho2, hb2⟩
    go_wp2
    go_ret2
    exact ⟨_, rfl, hg, ho2, hb2⟩
  · go_enter Tryd.func49, Tryd.ntmps49
    go_wp2_with fail
    refine (put_yes 2 2 _ (by omega) (by omega) (by omega) (by decide)).mono ?_
    rintro e w1 ⟨rfl, ho1, hb1⟩
    go_wp2_with fail
    refine (key _ _ ho1 hb1).mono ?_
    rintro e w2 ⟨g, rfl, hg, ho2, hb2⟩
    go_wp2
    go_ret2
    exact ⟨_, rfl, hg, ho2, hb2⟩
set_option maxRecDepth 100000 in
theorem codes_no (f : Int) (w : World) (h1 : f ≠ 1) (h2 : f ≠ 2) :
    Calls Tryd.prog 49 #[.int .i64 f] w fun e w' => e = .returned (.tuple #[.slice none 0 0, .bool false]) ∧ w = w' := by
  have e1 : (f != 1) = true := by simpa using h1
  have e2 : (f != 2) = true := by simpa using h2
  go_enter Tryd.func49, Tryd.ntmps49
  go_wp2
  go_ret2
  exact ⟨rfl, rfl⟩
set_option maxRecDepth 100000 in
theorem rfh_desc : Tryd.prog.underlying 70 = some (.struct (Tryd.prog.fieldsOf 70)) := by kernel_rfl
set_option maxRecDepth 100000 in
theorem rfh_info (a b c : Value) : (Tryd.prog.info? 70).map (·.size) = some (#[a, b, c] : Array Value).size := by kernel_rfl
theorem far3 {w : World} {g b : Nat} {T : TypeId} {a0 a1 a2 : Value} (ho : Own w g T #[a0, a1, a2]) (hne : g ≠ b) (x y z : Value) :
    (((w.setCell ⟨b, 0, none⟩ x).setCell ⟨b, 1, none⟩ y).setCell ⟨b, 2, none⟩ z).drew.cell? ⟨g, 0, none⟩ = some a0 ∧ (((w.setCell ⟨b, 0, none⟩ x).setCell ⟨b, 1, none⟩ y).setCell ⟨b, 2, none⟩ z).drew.cell? ⟨g, 1, none⟩ = some a1 ∧ (((w.setCell ⟨b, 0, none⟩ x).setCell ⟨b, 1, none⟩ y).setCell ⟨b, 2, none⟩ z).drew.cell? ⟨g, 2, none⟩ = some a2 := by
  have h := (((ho.far (p := ⟨b, 0, none⟩) hne x).far (p := ⟨b, 1, none⟩) hne y).far (p := ⟨b, 2, none⟩) hne z).drew
  exact ⟨h.cell rfl, h.cell rfl, h.cell rfl⟩
set_option maxRecDepth 100000 in
set_option maxHeartbeats 800000 in
theorem rfmake_no (f s : Int) (w : World) (ht : Fams w) (hk : ¬ ((f = 1 ∨ f = 2) ∧ 0 ≤ s ∧ s ≤ 255)) :
    Calls Tryd.prog 104 #[.int .i64 f, .int .i64 s] w fun e w' => e = .returned (.tuple #[.agg #[.int .i64 0, .int .i64 0, .int .i64 0], .bool false]) ∧ Below w.heap.size w w' := by
  have o0 := Own.new w 70 #[.int .i64 0, .int .i64 0, .int .i64 0]
  have hb0 := bl_alloc (bl_refl w) (.cells #[.int .i64 0, .int .i64 0, .int .i64 0] 70)
  have ht0 := ht.alloc (.cells #[.int .i64 0, .int .i64 0, .int .i64 0] 70)
  have HK := Lib.hid hk
  clear hk
  by_cases hf : f = 1 ∨ f = 2
  · have HF := Lib.hid hf
    have HS := Lib.hid (show s < 0 ∨ 255 < s by have := HK.out; omega)
    clear hf ht
    go_enter Tryd.func104, Tryd.ntmps104
    go_wp2_with fail
    refine (codes_yes f _ HF.out ht0).mono ?_
    rintro e w1 ⟨g, rfl, hg, ho, hb1⟩
    have o1 := o0.step hb1
    have c0 := o1.cell (i := 0) (v := .int .i64 0) rfl
    have c1 := o1.cell (i := 1) (v := .int .i64 0) rfl
    have c2 := o1.cell (i := 2) (v := .int .i64 0) rfl
    have f0 := o1.frozen 0
    have f1 := o1.frozen 1
    have f2 := o1.frozen 2
    have hlt := o1.lt
    have hbw := bl_trans hb0 hb1
    clear ht0 hb1 hb0 o0 ho hg
    rcases HS.out with hs | hs
    · have d0 : decide (s < 0) = true := by simpa using hs
      go_wp2
      refine bodyPost_ret (results_cell_tmp (p := 4) (t := 5) (fn := Tryd.f104) rfl _ _ w.heap.size 70 #[.int .i64 0, .int .i64 0, .int .i64 0] _ rfl (own_three o1 _ _ _) rfh_desc rfl (rfh_info _ _ _)) rfl ⟨rfl, ((hbw.setCell (p := ⟨w.heap.size, 0, none⟩) (Nat.le_refl _) _).setCell (p := ⟨w.heap.size, 1, none⟩) (Nat.le_refl _) _).setCell (p := ⟨w.heap.size, 2, none⟩) (Nat.le_refl _) _⟩
    · have d0 : decide (s < 0) = false := by simp; omega
      have d1 : decide (255 < s) = true := by simpa using hs
      go_wp2
      refine bodyPost_ret (results_cell_tmp (p := 4) (t := 5) (fn := Tryd.f104) rfl _ _ w.heap.size 70 #[.int .i64 0, .int .i64 0, .int .i64 0] _ rfl (own_three o1 _ _ _) rfh_desc rfl (rfh_info _ _ _)) rfl ⟨rfl, ((hbw.setCell (p := ⟨w.heap.size, 0, none⟩) (Nat.le_refl _) _).setCell (p := ⟨w.heap.size, 1, none⟩) (Nat.le_refl _) _).setCell (p := ⟨w.heap.size, 2, none⟩) (Nat.le_refl _) _⟩
  · have h1 : f ≠ 1 := by omega
    have h2 : f ≠ 2 := by omega
    clear hf
    have HH1 := Lib.hid h1
    have HH2 := Lib.hid h2
    clear h1 h2
    have c0 := o0.cell (i := 0) (v := .int .i64 0) rfl
    have c1 := o0.cell (i := 1) (v := .int .i64 0) rfl
    have c2 := o0.cell (i := 2) (v := .int .i64 0) rfl
    go_enter Tryd.func104, Tryd.ntmps104
    go_wp2_with fail
    refine (codes_no f _ HH1.out HH2.out).mono ?_
    rintro e w1 ⟨rfl, rfl⟩
    go_wp2
    refine bodyPost_ret (results_cell_tmp (p := 4) (t := 5) (fn := Tryd.f104) rfl _ _ w.heap.size 70 #[.int .i64 0, .int .i64 0, .int .i64 0] _ rfl o0 rfh_desc rfl (rfh_info _ _ _)) rfl ⟨rfl, hb0⟩
set_option maxRecDepth 100000 in
set_option maxHeartbeats 1600000 in
theorem rfmake_yes (f s : Int) (w : World) (ht : Fams w) (hf : f = 1 ∨ f = 2) (h0 : 0 ≤ s) (h1 : s ≤ 255) :
    Calls Tryd.prog 104 #[.int .i64 f, .int .i64 s] w fun e w' => e = .returned (.tuple #[.agg #[.int .i64 f, .int .i64 s, .int .i64 1], .bool true]) ∧ Below w.heap.size w w' := by
  have o0 := Own.new w 70 #[.int .i64 0, .int .i64 0, .int .i64 0]
  have hb0 := bl_alloc (bl_refl w) (.cells #[.int .i64 0, .int .i64 0, .int .i64 0] 70)
  have ht0 := ht.alloc (.cells #[.int .i64 0, .int .i64 0, .int .i64 0] 70)
  have HF := Lib.hid hf
  have d0 : decide (s < 0) = false := by simp; omega
  have d1 : decide (255 < s) = false := by simp; omega
  clear ht hf
  go_enter Tryd.func104, Tryd.ntmps104
  go_wp2_with fail
  refine (codes_yes f _ HF.out ht0).mono ?_
  rintro e w1 ⟨g, rfl, hg, ho, hb1⟩
  have o1 := o0.step hb1
  have c0 := o1.cell (i := 0) (v := .int .i64 0) rfl
  have c1 := o1.cell (i := 1) (v := .int .i64 0) rfl
  have c2 := o1.cell (i := 2) (v := .int .i64 0) rfl
  have f0 := o1.frozen 0
  have f1 := o1.frozen 1
  have f2 := o1.frozen 2
  have hlt := o1.lt
  have hbw := bl_trans hb0 hb1
  have k0 := ho.cell (i := 0) (v := .int .u8 0) rfl
  have k1 := ho.cell (i := 1) (v := .int .u8 f) rfl
  have k2 := ho.cell (i := 2) (v := .int .u8 1) rfl
  have hlg := ho.lt
  have hgne : g ≠ w.heap.size := by simp at hg; omega
  have hw0 : IntKind.i64.wrap 0 = 0 := by decide
  have hw1 : IntKind.i64.wrap 1 = 1 := by decide
  have hor : bits BinOp.or IntKind.i64 0 f = f := by rcases HF.out with rfl | rfl <;> decide
  have hwi : IntKind.i64.wrap f = f := by rcases HF.out with rfl | rfl <;> decide
  go_wp2_with fail
  go_region_held3 (fun W => W.cell? ⟨g, 0, none⟩ = some (.int .u8 0) ∧ W.cell? ⟨g, 1, none⟩ = some (.int .u8 f) ∧ W.cell? ⟨g, 2, none⟩ = some (.int .u8 1)) (first | (with_reducible exact far3 ho hgne _ _ _) | exact far3 ho hgne _ _ _ | go_keep) (fail)
  go_wp2
  refine bodyPost_ret (results_cell_tmp (p := 4) (t := 5) (fn := Tryd.f104) rfl _ _ w.heap.size 70 #[.int .i64 f, .int .i64 s, .int .i64 1] _ rfl (own_three o1 _ _ _) rfh_desc rfl (rfh_info _ _ _)) rfl ⟨rfl, (((hbw.setCell (p := ⟨w.heap.size, 0, none⟩) (Nat.le_refl _) _).setCell (p := ⟨w.heap.size, 1, none⟩) (Nat.le_refl _) _).setCell (p := ⟨w.heap.size, 2, none⟩) (Nat.le_refl _) _).drew⟩
end Go.Proofs.YtiehbmhekncbhaaDoor

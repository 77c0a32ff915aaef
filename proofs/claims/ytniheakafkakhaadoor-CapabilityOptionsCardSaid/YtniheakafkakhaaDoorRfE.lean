/- mp.Codes, refresh.Make -/
import Derived.Test.YtniheakafkakhaaDoorRfD
import Derived.Test.YtniheakafkakhaaDoorPfxB
import Derived.Test.YtniheakafkakhaaDoorPfxM
import Derived.Deep.RegionHeld3
namespace Go.Proofs.YtniheakafkakhaaDoor
open Go.RowKit Extern.Stop

theorem own_threeE {w : World} {g : Nat} {t : TypeId} {a b c : Value} (h : Own w g t #[a, b, c]) (x y z : Value) :
    Own (((w.setCell ⟨g, 0, none⟩ x).setCell ⟨g, 1, none⟩ y).setCell ⟨g, 2, none⟩ z) g t #[x, y, z] := by
  have h2 := ((h.set_ 0 x).set_ 1 y).set_ 2 z
  simpa using h2
set_option maxRecDepth 100000 in
theorem codes_yes (f : Int) (w : World) (hf : f = 1 ∨ f = 2) (ht : Fams w) :
    Calls Tryd.prog 54 #[.int .i64 f] w fun e w' => ∃ g, e = .returned (.tuple #[.slice (some ⟨g, 0, none⟩) 3 3, .bool true]) ∧ w.heap.size ≤ g ∧ Own w' g 5 #[.int .u8 0, .int .u8 f, .int .u8 1] ∧ Below w.heap.size w w' := by
  have key : ∀ (W w1 : World), Own w1 W.heap.size 5 ((digitsOf (2 : Int).toNat f).map (Value.int .u8)).toArray → Below W.heap.size W w1 →
      Calls Tryd.prog 53 #[.slice (some ⟨w1.heap.size + 1, 0, none⟩) 2 2] ((w1.alloc (.cells #[.int .u8 1] 5)).alloc (.cells #[.slice (some ⟨W.heap.size, 0, none⟩) 2 2, .slice (some ⟨w1.heap.size, 0, none⟩) 1 1] 43)) fun e w' => ∃ g, e = .returned (.slice (some ⟨g, 0, none⟩) 3 3) ∧ W.heap.size ≤ g ∧ Own w' g 5 #[.int .u8 0, .int .u8 f, .int .u8 1] ∧ Below W.heap.size W w' := by
    intro W w1 ho hb
    have hba := bl_alloc (bl_alloc (bl_refl w1) (.cells #[.int .u8 1] 5)) (.cells #[.slice (some ⟨W.heap.size, 0, none⟩) 2 2, .slice (some ⟨w1.heap.size, 0, none⟩) 1 1] 43)
    have om := ((Own.new w1 5 #[.int .u8 1]).alloc (.cells #[.slice (some ⟨W.heap.size, 0, none⟩) 2 2, .slice (some ⟨w1.heap.size, 0, none⟩) 1 1] 43))
    have b1 := Bytes.of_owned (xs := [1]) om (by intro x hx; simp at hx; omega) om.lt
    have o2 := ho.step hba
    have b2 := Bytes.of_owned (xs := digitsOf (2 : Int).toNat f) o2 (digitsOf_range _ _) o2.lt
    rw [digitsOf_len] at b2
    have hs2 : (w1.alloc (.cells #[.int .u8 1] 5)).heap.size = w1.heap.size + 1 := by simp
    have on := Own.new (w1.alloc (.cells #[.int .u8 1] 5)) 43 #[.slice (some ⟨W.heap.size, 0, none⟩) 2 2, .slice (some ⟨w1.heap.size, 0, none⟩) 1 1]
    rw [hs2] at on
    have hpt := parts_two (c1 := 2) (c2 := 1) on b2 b1
    have hfl : flat [⟨some ⟨W.heap.size, 0, none⟩, 2, 2, digitsOf (2 : Int).toNat f⟩, ⟨some ⟨w1.heap.size, 0, none⟩, 1, 1, [1]⟩] = [0, f, 1] := by
      rcases hf with rfl | rfl <;> rfl
    refine (cat_own (c := 2) hpt (by omega) (by rw [hfl]; simp)).mono ?_
    rw [hfl]
    rintro e w2 ⟨rfl, ho2, hb2⟩
    exact ⟨_, rfl, by have := hb.size; simp; omega, ho2, bl_trans (bl_trans hb hba) hb2⟩
  obtain ⟨f1, f2, _⟩ := ht
  rcases hf with rfl | rfl
  · go_enter Tryd.func54, Tryd.ntmps54
    go_wp2_with fail
    refine (put_yes 2 1 _ (by omega) (by omega) (by omega) (by decide)).mono ?_
    rintro e w1 ⟨rfl, ho1, hb1⟩
    go_wp2_with fail
    refine (key _ _ ho1 hb1).mono ?_
    rintro e w2 ⟨g, rfl, hg, ho2, hb2⟩
    go_wp2
    go_ret2
    exact ⟨_, rfl, hg, ho2, hb2⟩
  · go_enter Tryd.func54, Tryd.ntmps54
    go_wp2_with fail
    refine (put_yes 2 2 _ (by omega) (by omega) (by omega) (by decide)).mono ?_
    rintro e w1 ⟨rfl, ho1, hb1⟩
    go_wp2_with fail
    refine (key _ _ ho1 hb1).mono ?_
    rintro e w2 ⟨g, rfl, hg, ho2, hb2⟩
    go_wp2
    go_ret2
    exact ⟨_, rfl, hg, ho2, hb2⟩
set_option maxRecDepth 100000 in
theorem codes_no (f : Int) (w : World) (h1 : f ≠ 1) (h2 : f ≠ 2) :
    Calls Tryd.prog 54 #[.int .i64 f] w fun e w' => e = .returned (.tuple #[.slice none 0 0, .bool false]) ∧ w = w' := by
  have e1 : (f != 1) = true := by simpa using h1
  have e2 : (f != 2) = true := by simpa using h2
  go_enter Tryd.func54, Tryd.ntmps54
  go_wp2
  go_ret2
  exact ⟨rfl, rfl⟩
theorem far3 {w : World} {g b : Nat} {T : TypeId} {a0 a1 a2 : Value} (ho : Own w g T #[a0, a1, a2]) (hne : g ≠ b) (x y z : Value) :
    (((w.setCell ⟨b, 0, none⟩ x).setCell ⟨b, 1, none⟩ y).setCell ⟨b, 2, none⟩ z).drew.cell? ⟨g, 0, none⟩ = some a0 ∧ (((w.setCell ⟨b, 0, none⟩ x).setCell ⟨b, 1, none⟩ y).setCell ⟨b, 2, none⟩ z).drew.cell? ⟨g, 1, none⟩ = some a1 ∧ (((w.setCell ⟨b, 0, none⟩ x).setCell ⟨b, 1, none⟩ y).setCell ⟨b, 2, none⟩ z).drew.cell? ⟨g, 2, none⟩ = some a2 := by
  have h := (((ho.far (p := ⟨b, 0, none⟩) hne x).far (p := ⟨b, 1, none⟩) hne y).far (p := ⟨b, 2, none⟩) hne z).drew
  exact ⟨h.cell rfl, h.cell rfl, h.cell rfl⟩
end Go.Proofs.YtniheakafkakhaaDoor

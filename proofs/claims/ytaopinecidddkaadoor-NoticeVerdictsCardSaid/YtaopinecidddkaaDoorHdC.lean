/- header.Bytes -/
import Derived.Test.YtaopinecidddkaaDoorHdB
import Derived.Deep.RegionHeld3
namespace Go.Proofs.YtaopinecidddkaaDoor
open Go.RowKit

/-- Whether a header has a form. -/
def hbOk (n k : Int) : Bool := decide (0 ≤ n ∧ n ≤ 65535) && decide (0 ≤ k ∧ k ≤ 255)
/-- The form of a header. -/
def hForm (n k : Int) : List Int := List.replicate 16 255 ++ digitsOf (2 : Int).toNat n ++ [k]
theorem hForm_len (n k : Int) : (hForm n k).length = 19 := by simp [hForm, digitsOf_len]
theorem hForm_range {n k : Int} (h : 0 ≤ k ∧ k ≤ 255) : ∀ x ∈ hForm n k, 0 ≤ x ∧ x ≤ 255 := by
  intro x hx
  unfold hForm at hx
  rw [List.mem_append, List.mem_append] at hx
  rcases hx with (hx | hx) | hx
  · rw [List.mem_replicate] at hx; omega
  · exact digitsOf_range _ _ x hx
  · rw [List.mem_singleton] at hx; omega
theorem parts_three {W : World} {j : Nat} {T : TypeId} {A1 A2 A3 : Option Addr} {n1 n2 n3 c1 c2 c3 : Nat} {xs1 xs2 xs3 : List Int} (ho : Own W j T #[.slice A1 n1 c1, .slice A2 n2 c2, .slice A3 n3 c3]) (h1 : Bytes W W.heap.size A1 n1 xs1) (h2 : Bytes W W.heap.size A2 n2 xs2) (h3 : Bytes W W.heap.size A3 n3 xs3) :
    Parts W W.heap.size (some ⟨j, 0, none⟩) 3 [⟨A1, n1, c1, xs1⟩, ⟨A2, n2, c2, xs2⟩, ⟨A3, n3, c3, xs3⟩] := by
  refine ⟨rfl, fun p hp => ?_, Shows.of_owned ho ho.lt⟩
  simp at hp
  rcases hp with rfl | rfl | rfl
  · exact h1
  · exact h2
  · exact h3
theorem rep16 : rep 16 = (List.replicate 16 (255 : Int)).map (Value.int .u8) := rfl
set_option maxRecDepth 100000 in
theorem catX {W : World} {j br bp bk : Nat} {T T1 T2 T3 : TypeId} {n k : Int} (hk : 0 ≤ k ∧ k ≤ 255) (oj : Own W j T #[.slice (some ⟨br, 0, none⟩) 16 16, .slice (some ⟨bp, 0, none⟩) 2 2, .slice (some ⟨bk, 0, none⟩) 1 1]) (orr : Own W br T1 (rep 16).toArray)
    (op : Own W bp T2 ((digitsOf (2 : Int).toNat n).map (Value.int .u8)).toArray) (ok : Own W bk T3 #[.int .u8 k]) :
    Calls Tryd.prog 52 #[.slice (some ⟨j, 0, none⟩) 3 3] W fun e w' => ∃ g, e = .returned (.slice (some ⟨g, 0, none⟩) 19 19) ∧ W.heap.size ≤ g ∧ Own w' g 5 ((hForm n k).map (Value.int .u8)).toArray ∧ Below W.heap.size W w' := by
  have h1 := Bytes.of_owned (xs := List.replicate 16 255) (by rw [rep16] at orr; exact orr) (by intro x hx; rw [List.mem_replicate] at hx; omega) orr.lt
  have h2 := Bytes.of_owned (xs := digitsOf (2 : Int).toNat n) op (digitsOf_range _ _) op.lt
  have h3 := Bytes.of_owned (xs := [k]) ok (by intro x hx; rw [List.mem_singleton] at hx; omega) ok.lt
  rw [List.length_replicate] at h1
  rw [digitsOf_len] at h2
  have hpt := parts_three (c1 := 16) (c2 := 2) (c3 := 1) oj h1 h2 h3
  have hfl : flat [⟨some ⟨br, 0, none⟩, 16, 16, List.replicate 16 255⟩, ⟨some ⟨bp, 0, none⟩, 2, 2, digitsOf (2 : Int).toNat n⟩, ⟨some ⟨bk, 0, none⟩, 1, 1, [k]⟩] = hForm n k := by simp [flat, hForm]
  refine (cat_own (c := 3) hpt (by omega) (by rw [hfl, hForm_len]; omega)).mono ?_
  rw [hfl, hForm_len]
  rintro e w' ⟨rfl, ho, hb⟩
  exact ⟨_, rfl, Nat.le_refl _, ho, hb⟩
set_option maxRecDepth 100000 in
theorem catA {w1 : World} {br bp : Nat} {T1 T2 : TypeId} {n k : Int} (hk : 0 ≤ k ∧ k ≤ 255) (orr : Own w1 br T1 (rep 16).toArray) (op : Own w1 bp T2 ((digitsOf (2 : Int).toNat n).map (Value.int .u8)).toArray) :
    Calls Tryd.prog 52 #[.slice (some ⟨w1.heap.size + 1, 0, none⟩) 3 3] ((w1.alloc (.cells #[.int .u8 k] 5)).alloc (.cells #[.slice (some ⟨br, 0, none⟩) 16 16, .slice (some ⟨bp, 0, none⟩) 2 2, .slice (some ⟨w1.heap.size, 0, none⟩) 1 1] 24)) fun e w' => ∃ g, e = .returned (.slice (some ⟨g, 0, none⟩) 19 19) ∧ w1.heap.size ≤ g ∧ Own w' g 5 ((hForm n k).map (Value.int .u8)).toArray ∧ Below w1.heap.size w1 w' := by
  have hs : (w1.alloc (.cells #[.int .u8 k] 5)).heap.size = w1.heap.size + 1 := by simp
  have oj := Own.new (w1.alloc (.cells #[.int .u8 k] 5)) 24 #[.slice (some ⟨br, 0, none⟩) 16 16, .slice (some ⟨bp, 0, none⟩) 2 2, .slice (some ⟨w1.heap.size, 0, none⟩) 1 1]
  rw [hs] at oj
  have hba := bl_alloc (bl_alloc (bl_refl w1) (.cells #[.int .u8 k] 5)) (.cells #[.slice (some ⟨br, 0, none⟩) 16 16, .slice (some ⟨bp, 0, none⟩) 2 2, .slice (some ⟨w1.heap.size, 0, none⟩) 1 1] 24)
  refine (catX hk oj (orr.step hba) (op.step hba) ((Own.new w1 5 #[.int .u8 k]).alloc _)).mono ?_
  rintro e w' ⟨g, rfl, hg, ho, hb⟩
  have e1 := hba.size
  exact ⟨g, rfl, by omega, ho, bl_trans hba hb⟩
set_option maxRecDepth 100000 in
theorem catB {w1 : World} {br bp bk : Nat} {T1 T2 T3 : TypeId} {n k : Int} (hk : 0 ≤ k ∧ k ≤ 255) (orr : Own w1 br T1 (rep 16).toArray) (op : Own w1 bp T2 ((digitsOf (2 : Int).toNat n).map (Value.int .u8)).toArray) (ok : Own w1 bk T3 #[.int .u8 k]) :
    Calls Tryd.prog 52 #[.slice (some ⟨w1.heap.size, 0, none⟩) 3 3] (w1.alloc (.cells #[.slice (some ⟨br, 0, none⟩) 16 16, .slice (some ⟨bp, 0, none⟩) 2 2, .slice (some ⟨bk, 0, none⟩) 1 1] 24)) fun e w' => ∃ g, e = .returned (.slice (some ⟨g, 0, none⟩) 19 19) ∧ w1.heap.size ≤ g ∧ Own w' g 5 ((hForm n k).map (Value.int .u8)).toArray ∧ Below w1.heap.size w1 w' := by
  have hba := bl_alloc (bl_refl w1) (.cells #[.slice (some ⟨br, 0, none⟩) 16 16, .slice (some ⟨bp, 0, none⟩) 2 2, .slice (some ⟨bk, 0, none⟩) 1 1] 24)
  refine (catX hk (Own.new w1 _ _) (orr.step hba) (op.step hba) (ok.step hba)).mono ?_
  rintro e w' ⟨g, rfl, hg, ho, hb⟩
  have e1 := hba.size
  exact ⟨g, rfl, by omega, ho, bl_trans hba hb⟩
end Go.Proofs.YtaopinecidddkaaDoor

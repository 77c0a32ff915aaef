/- header.Bytes -/
import Derived.Test.YtgahjchngmojlabDoorHdB
import Derived.Deep.RegionHeld3
namespace Go.Proofs.YtgahjchngmojlabDoor
open Go.RowKit

/-- Whether a header has a form. -/
def hbOk (n k : Int) : Bool := decide (0 ≤ n ∧ n ≤ 65535) && decide (0 ≤ k ∧ k ≤ 255)
/-- The form of a header. -/
def hForm (n k : Int) : List Int := List.replicate 16 255 ++ digitsOf (2 : Int).toNat n ++ [k]
theorem hForm_len (n k : Int) : (hForm n k).length = 19 := by simp [hForm, digitsOf_len]
theorem hForm_range {n k : Int} (h : 0 ≤ k ∧ k ≤ 255) : ∀ x ∈ hForm n k, 0 ≤ x ∧ x ≤ 255 := by
  intro x hx
  unfold hForm at hx
  rw [List.mem_append, List.mem_append] at hx
  rcases hx with (hx | hx) | hx
  · rw [List.mem_replicate] at hx; omega
  · exact digitsOf_range _ _ x hx
  · rw [List.mem_singleton] at hx; omega
theorem parts_three {W : World} {j : Nat} {T : TypeId} {A1 A2 A3 : Option Addr} {n1 n2 n3 c1 c2 c3 : Nat} {xs1 xs2 xs3 : List Int} (ho : Own W j T #[.slice A1 n1 c1, .slice A2 n2 c2, .slice A3 n3 c3]) (h1 : Bytes W W.heap.size A1 n1 xs1) (h2 : Bytes W W.heap.size A2 n2 xs2) (h3 : Bytes W W.heap.size A3 n3 xs3) :
    Parts W W.heap.size (some ⟨j, 0, none⟩) 3 [⟨A1, n1, c1, xs1⟩, ⟨A2, n2, c2, xs2⟩, ⟨A3, n3, c3, xs3⟩] := by
  refine ⟨rfl, fun p hp => ?_, Shows.of_owned ho ho.lt⟩
  simp at hp
  rcases hp with rfl | rfl | rfl
  · exact h1
  · exact h2
  · exact h3
theorem rep16 : rep 16 = (List.replicate 16 (255 : Int)).map (Value.int .u8) := rfl
set_option maxRecDepth 100000 in
set_option maxHeartbeats 400000 in
theorem hbytes_no (n k : Int) (w : World) (hk : hbOk n k = false) :
    Calls Tryd.prog 39 #[.agg #[.int .i64 n, .int .i64 k]] w fun e w' => e = .returned (.tuple #[.slice none 0 0, .bool false]) ∧ Below w.heap.size w w' := by
  have HK := Lib.hid (show n < 0 ∨ 65535 < n ∨ k < 0 ∨ 255 < k by
    simp only [hbOk, Bool.and_eq_false_iff, decide_eq_false_iff_not] at hk
    omega)
  have hb0 := bl_alloc (bl_refl w) (.cells #[.int .i64 n, .int .i64 k] 94)
  clear hk
  go_enter Tryd.func39, Tryd.ntmps39
  go_wp2
  all_goals first
    | (exfalso; have hk := HK.out; simp_all; omega)
    | (go_ret2; exact ⟨rfl, hb0⟩)
set_option maxRecDepth 100000 in
theorem repA (V : World) : Calls Tryd.prog 50 #[.slice (some ⟨V.heap.size, 0, none⟩) 1 1, .int .i64 16] (V.alloc (.cells #[.int .u8 255] 5)).drew fun e w' => e = .returned (.slice (some ⟨V.heap.size + 1, 0, none⟩) 16 16) ∧ Own w' (V.heap.size + 1) 5 (rep 16).toArray ∧ Below V.heap.size V w' ∧ V.heap.size + 2 ≤ w'.heap.size := by
  have hs : (V.alloc (.cells #[.int .u8 255] 5)).drew.heap.size = V.heap.size + 1 := by show (V.alloc _).heap.size = _; simp
  refine (repeat16 V.heap.size 5 _ (by rw [hs]; omega) (Own.new V _ _).drew).mono ?_
  rw [hs]
  rintro e w' ⟨rfl, ho, hb⟩
  exact ⟨rfl, ho, (bl_alloc (bl_refl V) (.cells #[.int .u8 255] 5)).drew.trans (hb.mono (by omega)), ho.lt⟩
set_option maxRecDepth 100000 in
theorem repB (V : World) (k : Int) : Calls Tryd.prog 50 #[.slice (some ⟨V.heap.size, 0, none⟩) 1 1, .int .i64 16] ((V.alloc (.cells #[.int .u8 255] 5)).alloc (.cells #[.int .u8 k] 5)).drew fun e w' => e = .returned (.slice (some ⟨V.heap.size + 1 + 1, 0, none⟩) 16 16) ∧ Own w' (V.heap.size + 1 + 1) 5 (rep 16).toArray ∧ Own w' (V.heap.size + 1) 5 #[.int .u8 k] ∧ Below V.heap.size V w' := by
  have hs : ((V.alloc (.cells #[.int .u8 255] 5)).alloc (.cells #[.int .u8 k] 5)).drew.heap.size = V.heap.size + 1 + 1 := by show ((V.alloc _).alloc _).heap.size = _; simp
  have hs1 : (V.alloc (.cells #[.int .u8 255] 5)).heap.size = V.heap.size + 1 := by simp
  have ok := (Own.new (V.alloc (.cells #[.int .u8 255] 5)) 5 #[.int .u8 k])
  rw [hs1] at ok
  refine (repeat16 V.heap.size 5 _ (by rw [hs]; omega) ((Own.new V _ _).alloc _).drew).mono ?_
  rw [hs]
  rintro e w' ⟨rfl, ho, hb⟩
  exact ⟨rfl, ho, ok.drew.below hb (by omega), (bl_alloc (bl_alloc (bl_refl V) (.cells #[.int .u8 255] 5)) (.cells #[.int .u8 k] 5)).drew.trans (hb.mono (by omega))⟩
set_option maxRecDepth 100000 in
theorem repC (V : World) (k : Int) : Calls Tryd.prog 50 #[.slice (some ⟨V.heap.size + 1, 0, none⟩) 1 1, .int .i64 16] ((V.alloc (.cells #[.int .u8 k] 5)).alloc (.cells #[.int .u8 255] 5)).drew fun e w' => e = .returned (.slice (some ⟨V.heap.size + 1 + 1, 0, none⟩) 16 16) ∧ Own w' (V.heap.size + 1 + 1) 5 (rep 16).toArray ∧ Own w' V.heap.size 5 #[.int .u8 k] ∧ Below V.heap.size V w' := by
  have hs : ((V.alloc (.cells #[.int .u8 k] 5)).alloc (.cells #[.int .u8 255] 5)).drew.heap.size = V.heap.size + 1 + 1 := by show ((V.alloc _).alloc _).heap.size = _; simp
  have hs1 : (V.alloc (.cells #[.int .u8 k] 5)).heap.size = V.heap.size + 1 := by simp
  have o5 := (Own.new (V.alloc (.cells #[.int .u8 k] 5)) 5 #[.int .u8 255])
  rw [hs1] at o5
  refine (repeat16 (V.heap.size + 1) 5 _ (by rw [hs]; omega) o5.drew).mono ?_
  rw [hs]
  rintro e w' ⟨rfl, ho, hb⟩
  exact ⟨rfl, ho, ((Own.new V 5 #[.int .u8 k]).alloc (.cells #[.int .u8 255] 5)).drew.below hb (by omega), (bl_alloc (bl_alloc (bl_refl V) (.cells #[.int .u8 k] 5)) (.cells #[.int .u8 255] 5)).drew.trans (hb.mono (by omega))⟩
set_option maxRecDepth 100000 in
theorem catX {W : World} {j br bp bk : Nat} {T T1 T2 T3 : TypeId} {n k : Int} (hk : 0 ≤ k ∧ k ≤ 255) (oj : Own W j T #[.slice (some ⟨br, 0, none⟩) 16 16, .slice (some ⟨bp, 0, none⟩) 2 2, .slice (some ⟨bk, 0, none⟩) 1 1]) (orr : Own W br T1 (rep 16).toArray)
    (op : Own W bp T2 ((digitsOf (2 : Int).toNat n).map (Value.int .u8)).toArray) (ok : Own W bk T3 #[.int .u8 k]) :
    Calls Tryd.prog 40 #[.slice (some ⟨j, 0, none⟩) 3 3] W fun e w' => ∃ g, e = .returned (.slice (some ⟨g, 0, none⟩) 19 19) ∧ W.heap.size ≤ g ∧ Own w' g 5 ((hForm n k).map (Value.int .u8)).toArray ∧ Below W.heap.size W w' := by
  have h1 := Bytes.of_owned (xs := List.replicate 16 255) (by rw [rep16] at orr; exact orr) (by intro x hx; rw [List.mem_replicate] at hx; omega) orr.lt
  have h2 := Bytes.of_owned (xs := digitsOf (2 : Int).toNat n) op (digitsOf_range _ _) op.lt
  have h3 := Bytes.of_owned (xs := [k]) ok (by intro x hx; rw [List.mem_singleton] at hx; omega) ok.lt
  rw [List.length_replicate] at h1
  rw [digitsOf_len] at h2
  have hpt := parts_three (c1 := 16) (c2 := 2) (c3 := 1) oj h1 h2 h3
  have hfl : flat [⟨some ⟨br, 0, none⟩, 16, 16, List.replicate 16 255⟩, ⟨some ⟨bp, 0, none⟩, 2, 2, digitsOf (2 : Int).toNat n⟩, ⟨some ⟨bk, 0, none⟩, 1, 1, [k]⟩] = hForm n k := by simp [flat, hForm]
  refine (cat_own (c := 3) hpt (by omega) (by rw [hfl, hForm_len]; omega)).mono ?_
  rw [hfl, hForm_len]
  rintro e w' ⟨rfl, ho, hb⟩
  exact ⟨_, rfl, Nat.le_refl _, ho, hb⟩
set_option maxRecDepth 100000 in
theorem catA {w1 : World} {br bp : Nat} {T1 T2 : TypeId} {n k : Int} (hk : 0 ≤ k ∧ k ≤ 255) (orr : Own w1 br T1 (rep 16).toArray) (op : Own w1 bp T2 ((digitsOf (2 : Int).toNat n).map (Value.int .u8)).toArray) :
    Calls Tryd.prog 40 #[.slice (some ⟨w1.heap.size + 1, 0, none⟩) 3 3] ((w1.alloc (.cells #[.int .u8 k] 5)).alloc (.cells #[.slice (some ⟨br, 0, none⟩) 16 16, .slice (some ⟨bp, 0, none⟩) 2 2, .slice (some ⟨w1.heap.size, 0, none⟩) 1 1] 26)) fun e w' => ∃ g, e = .returned (.slice (some ⟨g, 0, none⟩) 19 19) ∧ w1.heap.size ≤ g ∧ Own w' g 5 ((hForm n k).map (Value.int .u8)).toArray ∧ Below w1.heap.size w1 w' := by
  have hs : (w1.alloc (.cells #[.int .u8 k] 5)).heap.size = w1.heap.size + 1 := by simp
  have oj := Own.new (w1.alloc (.cells #[.int .u8 k] 5)) 26 #[.slice (some ⟨br, 0, none⟩) 16 16, .slice (some ⟨bp, 0, none⟩) 2 2, .slice (some ⟨w1.heap.size, 0, none⟩) 1 1]
  rw [hs] at oj
  have hba := bl_alloc (bl_alloc (bl_refl w1) (.cells #[.int .u8 k] 5)) (.cells #[.slice (some ⟨br, 0, none⟩) 16 16, .slice (some ⟨bp, 0, none⟩) 2 2, .slice (some ⟨w1.heap.size, 0, none⟩) 1 1] 26)
  refine (catX hk oj (orr.step hba) (op.step hba) ((Own.new w1 5 #[.int .u8 k]).alloc _)).mono ?_
  rintro e w' ⟨g, rfl, hg, ho, hb⟩
  have e1 := hba.size
  exact ⟨g, rfl, by omega, ho, bl_trans hba hb⟩
set_option maxRecDepth 100000 in
theorem catB {w1 : World} {br bp bk : Nat} {T1 T2 T3 : TypeId} {n k : Int} (hk : 0 ≤ k ∧ k ≤ 255) (orr : Own w1 br T1 (rep 16).toArray) (op : Own w1 bp T2 ((digitsOf (2 : Int).toNat n).map (Value.int .u8)).toArray) (ok : Own w1 bk T3 #[.int .u8 k]) :
    Calls Tryd.prog 40 #[.slice (some ⟨w1.heap.size, 0, none⟩) 3 3] (w1.alloc (.cells #[.slice (some ⟨br, 0, none⟩) 16 16, .slice (some ⟨bp, 0, none⟩) 2 2, .slice (some ⟨bk, 0, none⟩) 1 1] 26)) fun e w' => ∃ g, e = .returned (.slice (some ⟨g, 0, none⟩) 19 19) ∧ w1.heap.size ≤ g ∧ Own w' g 5 ((hForm n k).map (Value.int .u8)).toArray ∧ Below w1.heap.size w1 w' := by
  have hba := bl_alloc (bl_refl w1) (.cells #[.slice (some ⟨br, 0, none⟩) 16 16, .slice (some ⟨bp, 0, none⟩) 2 2, .slice (some ⟨bk, 0, none⟩) 1 1] 26)
  refine (catX hk (Own.new w1 _ _) (orr.step hba) (op.step hba) (ok.step hba)).mono ?_
  rintro e w' ⟨g, rfl, hg, ho, hb⟩
  have e1 := hba.size
  exact ⟨g, rfl, by omega, ho, bl_trans hba hb⟩
set_option maxRecDepth 100000 in
set_option maxHeartbeats 1600000 in
theorem hbytes_yes (n k : Int) (w : World) (hk : hbOk n k = true) :
    Calls Tryd.prog 39 #[.agg #[.int .i64 n, .int .i64 k]] w fun e w' => ∃ g, e = .returned (.tuple #[.slice (some ⟨g, 0, none⟩) 19 19, .bool true]) ∧ w.heap.size ≤ g ∧ Own w' g 5 ((hForm n k).map (Value.int .u8)).toArray ∧ Below w.heap.size w w' := by
  simp only [hbOk, Bool.and_eq_true, decide_eq_true_eq] at hk
  obtain ⟨⟨h0, h1⟩, h2, h3⟩ := hk
  have hk2 : 0 ≤ k ∧ k ≤ 255 := ⟨h2, h3⟩
  have d0 : decide (n < 0) = false := by simp; omega
  have d1 : decide (65535 < n) = false := by simp; omega
  have d2 : decide (k < 0) = false := by simp; omega
  have d3 : decide (255 < k) = false := by simp; omega
  have w1n : IntKind.u32.wrap n = n := by rw [IntKind.wrap_u32]; omega
  have w1k : IntKind.u8.wrap k = k := by rw [IntKind.wrap_u8]; omega
  have o0 := Own.new w 94 #[.int .i64 n, .int .i64 k]
  have hb0 := bl_alloc (bl_refl w) (.cells #[.int .i64 n, .int .i64 k] 94)
  go_enter Tryd.func39, Tryd.ntmps39
  go_wp2_with fail
  refine (put_yes 2 n _ (by omega) (by omega) h0 (by simp; omega)).mono ?_
  rintro e V ⟨rfl, hp, hb1⟩
  rw [show (w.alloc (.cells #[.int .i64 n, .int .i64 k] 94)).heap.size = w.heap.size + 1 by simp] at hp
  have o1 := o0.step hb1
  have hb2 := bl_trans hb0 hb1
  have hVw := hb1.size
  rw [show (w.alloc (.cells #[.int .i64 n, .int .i64 k] 94)).heap.size = w.heap.size + 1 by simp] at hVw
  clear o0 hb0 hb1
  go_wp2_with fail
  have HS0 : V.drew.cell? ⟨w.heap.size, 0, none⟩ = some (.int .i64 n) ∧ V.drew.cell? ⟨w.heap.size, 1, none⟩ = some (.int .i64 k) := ⟨o1.cell rfl, o1.cell rfl⟩
  go_region_held3 (fun W => W.cell? ⟨w.heap.size, 0, none⟩ = some (.int .i64 n) ∧ W.cell? ⟨w.heap.size, 1, none⟩ = some (.int .i64 k)) (with_reducible first | exact HS0 | exact ⟨(o1.alloc _).drew.cell rfl, (o1.alloc _).drew.cell rfl⟩ | exact ⟨((o1.alloc _).alloc _).drew.cell rfl, ((o1.alloc _).alloc _).drew.cell rfl⟩ | exact HS1 | exact ⟨(m1.alloc _).cell rfl, (m1.alloc _).cell rfl⟩ | exact ⟨((m1.alloc _).alloc _).cell rfl, ((m1.alloc _).alloc _).cell rfl⟩ | exact HS2) ((first
    | (go_at_call 50; (first | ((with_reducible refine (repA V).mono ?_); rintro e w1 ⟨rfl, hr, hbV, hsz⟩) | ((with_reducible refine (repB V k).mono ?_); rintro e w1 ⟨rfl, hr, hkk, hbV⟩) | ((with_reducible refine (repC V k).mono ?_); rintro e w1 ⟨rfl, hr, hkk, hbV⟩)); have m1 := o1.below hbV o1.lt; have p1 := hp.below hbV hp.lt; have hbw := bl_trans hb2 hbV; have HS1 : w1.cell? ⟨w.heap.size, 0, none⟩ = some (.int .i64 n) ∧ w1.cell? ⟨w.heap.size, 1, none⟩ = some (.int .i64 k) := ⟨m1.cell rfl, m1.cell rfl⟩)
    | (go_at_call 40; (first | (with_reducible refine (catA hk2 hr p1).mono ?_) | (with_reducible refine (catB hk2 hr p1 hkk).mono ?_)); rintro e w2 ⟨g, rfl, hg, ho, hb3⟩; have m2 := m1.step hb3; have hfin := bl_trans hbw hb3; have hgw : w.heap.size ≤ g := Nat.le_trans hbw.size hg; have HS2 : w2.cell? ⟨w.heap.size, 0, none⟩ = some (.int .i64 n) ∧ w2.cell? ⟨w.heap.size, 1, none⟩ = some (.int .i64 k) := ⟨m2.cell rfl, m2.cell rfl⟩)))
  all_goals go_wp2
  all_goals go_ret2
  all_goals exact ⟨_, rfl, hgw, ho, hfin⟩
end Go.Proofs.YtgahjchngmojlabDoor

/- HeaderForms: the walk, kinds 1 to 3 -/
import Derived.Test.YtejdpfhdjndefaaDoorHdG
namespace Go.Proofs.YtejdpfhdjndefaaDoor
open Go.RowKit

set_option maxRecDepth 100000 in
set_option maxHeartbeats 3200000 in
theorem hforms_1 (a0 a1 a2 a3 a4 a5 : Bool) (n : Int) (w : World) (ht : HRows w) :
    Calls Tryd.prog 5 #[.agg #[.bool a0, .bool a1, .bool a2, .bool a3, .bool a4, .bool a5], .int .i64 n, .int .i64 1] w fun e w' => e = .returned (.bool true) ∧ Below w.heap.size w w' := by
  have HN : hName 1 = ⟨#[79, 80, 69, 78]⟩ := rfl
  have hb0 := bl_alloc (bl_refl w) (.cells #[.bool a0, .bool a1, .bool a2, .bool a3, .bool a4, .bool a5] 23)
  have o0 := Own.new w 23 #[.bool a0, .bool a1, .bool a2, .bool a3, .bool a4, .bool a5]
  have ht0 := ht.alloc (.cells #[.bool a0, .bool a1, .bool a2, .bool a3, .bool a4, .bool a5] 23)
  have HL := Lib.hid (hZ_len n 1)
  go_enter Tryd.func5, Tryd.ntmps5
  go_wp2_with fail
  refine (hbytes_any n 1 _).mono ?_
  rintro e w1 ⟨A1, m1, c1, rfl, hB1, hb1⟩
  have ht1 := ht0.below hb1
  have hb2 := bl_trans hb0 hb1
  have o1 := o0.step hb1
  clear ht0 hb0 o0 hb1 ht
  go_wp2_with fail
  refine (rhbytes_any n 1 _).mono ?_
  rintro e w2 ⟨A2, m2, c2, rfl, hB2, hb3⟩
  have ht2 := (ht1.below hb3).alloc (.cells #[.string ⟨#[79, 80, 69, 78]⟩, .string ⟨#[85, 80, 68, 65, 84, 69]⟩, .string ⟨#[78, 79, 84, 73, 70, 73, 67, 65, 84, 73, 79, 78]⟩, .string ⟨#[75, 69, 69, 80, 65, 76, 73, 86, 69]⟩, .string ⟨#[82, 79, 85, 84, 69, 45, 82, 69, 70, 82, 69, 83, 72]⟩] 9)
  have hb4 := bl_alloc (bl_trans hb2 hb3) (.cells #[.string ⟨#[79, 80, 69, 78]⟩, .string ⟨#[85, 80, 68, 65, 84, 69]⟩, .string ⟨#[78, 79, 84, 73, 70, 73, 67, 65, 84, 73, 79, 78]⟩, .string ⟨#[75, 69, 69, 80, 65, 76, 73, 86, 69]⟩, .string ⟨#[82, 79, 85, 84, 69, 45, 82, 69, 70, 82, 69, 83, 72]⟩] 9)
  have o2 := (o1.step hb3).alloc (.cells #[.string ⟨#[79, 80, 69, 78]⟩, .string ⟨#[85, 80, 68, 65, 84, 69]⟩, .string ⟨#[78, 79, 84, 73, 70, 73, 67, 65, 84, 73, 79, 78]⟩, .string ⟨#[75, 69, 69, 80, 65, 76, 73, 86, 69]⟩, .string ⟨#[82, 79, 85, 84, 69, 45, 82, 69, 70, 82, 69, 83, 72]⟩] 9)
  have hX := (hB1.below hb3).more hb3.size
  have hM1 : m1 ≤ 1000000000 := by have := hX.1; have := HL.out; omega
  have hM2 : m2 ≤ 1000000000 := by have := hB2.1; have := HL.out; omega
  have hX2 := (hX.below (bl_alloc (bl_refl w2) (.cells #[.string ⟨#[79, 80, 69, 78]⟩, .string ⟨#[85, 80, 68, 65, 84, 69]⟩, .string ⟨#[78, 79, 84, 73, 70, 73, 67, 65, 84, 73, 79, 78]⟩, .string ⟨#[75, 69, 69, 80, 65, 76, 73, 86, 69]⟩, .string ⟨#[82, 79, 85, 84, 69, 45, 82, 69, 70, 82, 69, 83, 72]⟩] 9))).more (bl_alloc (bl_refl w2) (.cells #[.string ⟨#[79, 80, 69, 78]⟩, .string ⟨#[85, 80, 68, 65, 84, 69]⟩, .string ⟨#[78, 79, 84, 73, 70, 73, 67, 65, 84, 73, 79, 78]⟩, .string ⟨#[75, 69, 69, 80, 65, 76, 73, 86, 69]⟩, .string ⟨#[82, 79, 85, 84, 69, 45, 82, 69, 70, 82, 69, 83, 72]⟩] 9)).size
  have hY2 := (hB2.below (bl_alloc (bl_refl w2) (.cells #[.string ⟨#[79, 80, 69, 78]⟩, .string ⟨#[85, 80, 68, 65, 84, 69]⟩, .string ⟨#[78, 79, 84, 73, 70, 73, 67, 65, 84, 73, 79, 78]⟩, .string ⟨#[75, 69, 69, 80, 65, 76, 73, 86, 69]⟩, .string ⟨#[82, 79, 85, 84, 69, 45, 82, 69, 70, 82, 69, 83, 72]⟩] 9))).more (bl_alloc (bl_refl w2) (.cells #[.string ⟨#[79, 80, 69, 78]⟩, .string ⟨#[85, 80, 68, 65, 84, 69]⟩, .string ⟨#[78, 79, 84, 73, 70, 73, 67, 65, 84, 73, 79, 78]⟩, .string ⟨#[75, 69, 69, 80, 65, 76, 73, 86, 69]⟩, .string ⟨#[82, 79, 85, 84, 69, 45, 82, 69, 70, 82, 69, 83, 72]⟩] 9)).size
  clear ht1 hb2 o1 hb3 hB1 hB2 hX
  go_wp2_with fail
  generalize w2.alloc (.cells #[.string ⟨#[79, 80, 69, 78]⟩, .string ⟨#[85, 80, 68, 65, 84, 69]⟩, .string ⟨#[78, 79, 84, 73, 70, 73, 67, 65, 84, 73, 79, 78]⟩, .string ⟨#[75, 69, 69, 80, 65, 76, 73, 86, 69]⟩, .string ⟨#[82, 79, 85, 84, 69, 45, 82, 69, 70, 82, 69, 83, 72]⟩] 9) = V at ht2 hb4 o2 hX2 hY2 ⊢
  have HS0 := own_six4 o2.drew
  have hqo : (hbOk n 1 == hbOk n 1) = true := by simp
  have hql : ((hLim a1 1) == (hLim a1 1)) = true := by simp
  have hqm : ((hLeast 1) == (hLeast 1)) = true := by simp
  go_region_held3 (fun W => W.cell? ⟨w.heap.size, 0, none⟩ = some (.bool a0) ∧ W.cell? ⟨w.heap.size, 1, none⟩ = some (.bool a1) ∧ W.cell? ⟨w.heap.size, 2, none⟩ = some (.bool a2) ∧ W.cell? ⟨w.heap.size, 3, none⟩ = some (.bool a3) ∧ W.cell? ⟨w.heap.size, 4, none⟩ = some (.bool a4) ∧ W.cell? ⟨w.heap.size, 5, none⟩ = some (.bool a5)) (with_reducible first | exact HS0 | exact HS1 | exact HSE | exact HSL | exact HSR | exact HSM | exact HSN) ((first
    | (go_at_call 13; (with_reducible refine (alive4_any _ ht2.drew).mono ?_); rintro e w5 ⟨rfl, hb5⟩; have oA := o2.drew.step hb5; have htA := HRows.below (w := V.drew) ht2 hb5; have hbA := bl_trans hb4.drew hb5; have hX5 := (Bytes.below (w := V.drew) hX2 hb5).more hb5.size; have hY5 := (Bytes.below (w := V.drew) hY2 hb5).more hb5.size; have HS1 := own_six4 oA)
    | (go_at_call 19; (with_reducible refine (bytesEq_same _ _ _ _ _ _ _ _ _ _ hX5 hY5 hM1 hM2).mono ?_); rintro e w6 ⟨rfl, mm, rfl⟩; have oE := oA.drewN mm; have htE := htA.drewN mm; have hbE := bl_drewN hbA mm; have HSE := own_six4 oE)
    | (go_at_call 22; (with_reducible refine (limit_any a0 a1 a2 a3 a4 a5 1 _ (by first | exact htE | exact htR)).mono ?_); rintro e wL ⟨rfl, hbl⟩; (first | (have oL := oR.step hbl; have htL := htR.below hbl; have hbL := bl_trans hbR hbl) | (have oL := oE.step hbl; have htL := htE.below hbl; have hbL := bl_trans hbE hbl)); have HSL := own_six4 oL)
    | (go_at_call 23; (with_reducible refine (rlimit_any a0 a1 a2 a3 a4 a5 1 _).mono ?_); rintro e wR ⟨rfl, hbr⟩; (first | (have oR := oL.step hbr; have htR := htL.below hbr; have hbR := bl_trans hbL hbr) | (have oR := oE.step hbr; have htR := htE.below hbr; have hbR := bl_trans hbE hbr)); have HSR := own_six4 oR)
    | (go_at_call 24; (with_reducible refine (least_any 1 _ (by first | exact htL | exact htR)).mono ?_); rintro e wM ⟨rfl, hbm⟩; (first | (have oM := oR.step hbm; have htM := htR.below hbm; have hbM := bl_trans hbR hbm) | (have oM := oL.step hbm; have htM := htL.below hbm; have hbM := bl_trans hbL hbm)); have HSM := own_six4 oM)
    | (go_at_call 25; (with_reducible refine (rleast_any 1 _).mono ?_); rintro e w' ⟨rfl, rfl⟩)
    | (go_at_call 26; (with_reducible refine (name_any 1 _ htM).mono ?_); rw [HN]; rintro e wN ⟨rfl, hbn⟩; have oN := oM.step hbn; have hbN := bl_trans hbM hbn; have HSN := own_six4 oN)))
  all_goals go_wp2
  all_goals go_ret
  all_goals exact ⟨rfl, hbN⟩
set_option maxRecDepth 100000 in
set_option maxHeartbeats 3200000 in
theorem hforms_2 (a0 a1 a2 a3 a4 a5 : Bool) (n : Int) (w : World) (ht : HRows w) :
    Calls Tryd.prog 5 #[.agg #[.bool a0, .bool a1, .bool a2, .bool a3, .bool a4, .bool a5], .int .i64 n, .int .i64 2] w fun e w' => e = .returned (.bool true) ∧ Below w.heap.size w w' := by
  have HN : hName 2 = ⟨#[85, 80, 68, 65, 84, 69]⟩ := rfl
  have hb0 := bl_alloc (bl_refl w) (.cells #[.bool a0, .bool a1, .bool a2, .bool a3, .bool a4, .bool a5] 23)
  have o0 := Own.new w 23 #[.bool a0, .bool a1, .bool a2, .bool a3, .bool a4, .bool a5]
  have ht0 := ht.alloc (.cells #[.bool a0, .bool a1, .bool a2, .bool a3, .bool a4, .bool a5] 23)
  have HL := Lib.hid (hZ_len n 2)
  go_enter Tryd.func5, Tryd.ntmps5
  go_wp2_with fail
  refine (hbytes_any n 2 _).mono ?_
  rintro e w1 ⟨A1, m1, c1, rfl, hB1, hb1⟩
  have ht1 := ht0.below hb1
  have hb2 := bl_trans hb0 hb1
  have o1 := o0.step hb1
  clear ht0 hb0 o0 hb1 ht
  go_wp2_with fail
  refine (rhbytes_any n 2 _).mono ?_
  rintro e w2 ⟨A2, m2, c2, rfl, hB2, hb3⟩
  have ht2 := (ht1.below hb3).alloc (.cells #[.string ⟨#[79, 80, 69, 78]⟩, .string ⟨#[85, 80, 68, 65, 84, 69]⟩, .string ⟨#[78, 79, 84, 73, 70, 73, 67, 65, 84, 73, 79, 78]⟩, .string ⟨#[75, 69, 69, 80, 65, 76, 73, 86, 69]⟩, .string ⟨#[82, 79, 85, 84, 69, 45, 82, 69, 70, 82, 69, 83, 72]⟩] 9)
  have hb4 := bl_alloc (bl_trans hb2 hb3) (.cells #[.string ⟨#[79, 80, 69, 78]⟩, .string ⟨#[85, 80, 68, 65, 84, 69]⟩, .string ⟨#[78, 79, 84, 73, 70, 73, 67, 65, 84, 73, 79, 78]⟩, .string ⟨#[75, 69, 69, 80, 65, 76, 73, 86, 69]⟩, .string ⟨#[82, 79, 85, 84, 69, 45, 82, 69, 70, 82, 69, 83, 72]⟩] 9)
  have o2 := (o1.step hb3).alloc (.cells #[.string ⟨#[79, 80, 69, 78]⟩, .string ⟨#[85, 80, 68, 65, 84, 69]⟩, .string ⟨#[78, 79, 84, 73, 70, 73, 67, 65, 84, 73, 79, 78]⟩, .string ⟨#[75, 69, 69, 80, 65, 76, 73, 86, 69]⟩, .string ⟨#[82, 79, 85, 84, 69, 45, 82, 69, 70, 82, 69, 83, 72]⟩] 9)
  have hX := (hB1.below hb3).more hb3.size
  have hM1 : m1 ≤ 1000000000 := by have := hX.1; have := HL.out; omega
  have hM2 : m2 ≤ 1000000000 := by have := hB2.1; have := HL.out; omega
  have hX2 := (hX.below (bl_alloc (bl_refl w2) (.cells #[.string ⟨#[79, 80, 69, 78]⟩, .string ⟨#[85, 80, 68, 65, 84, 69]⟩, .string ⟨#[78, 79, 84, 73, 70, 73, 67, 65, 84, 73, 79, 78]⟩, .string ⟨#[75, 69, 69, 80, 65, 76, 73, 86, 69]⟩, .string ⟨#[82, 79, 85, 84, 69, 45, 82, 69, 70, 82, 69, 83, 72]⟩] 9))).more (bl_alloc (bl_refl w2) (.cells #[.string ⟨#[79, 80, 69, 78]⟩, .string ⟨#[85, 80, 68, 65, 84, 69]⟩, .string ⟨#[78, 79, 84, 73, 70, 73, 67, 65, 84, 73, 79, 78]⟩, .string ⟨#[75, 69, 69, 80, 65, 76, 73, 86, 69]⟩, .string ⟨#[82, 79, 85, 84, 69, 45, 82, 69, 70, 82, 69, 83, 72]⟩] 9)).size
  have hY2 := (hB2.below (bl_alloc (bl_refl w2) (.cells #[.string ⟨#[79, 80, 69, 78]⟩, .string ⟨#[85, 80, 68, 65, 84, 69]⟩, .string ⟨#[78, 79, 84, 73, 70, 73, 67, 65, 84, 73, 79, 78]⟩, .string ⟨#[75, 69, 69, 80, 65, 76, 73, 86, 69]⟩, .string ⟨#[82, 79, 85, 84, 69, 45, 82, 69, 70, 82, 69, 83, 72]⟩] 9))).more (bl_alloc (bl_refl w2) (.cells #[.string ⟨#[79, 80, 69, 78]⟩, .string ⟨#[85, 80, 68, 65, 84, 69]⟩, .string ⟨#[78, 79, 84, 73, 70, 73, 67, 65, 84, 73, 79, 78]⟩, .string ⟨#[75, 69, 69, 80, 65, 76, 73, 86, 69]⟩, .string ⟨#[82, 79, 85, 84, 69, 45, 82, 69, 70, 82, 69, 83, 72]⟩] 9)).size
  clear ht1 hb2 o1 hb3 hB1 hB2 hX
  go_wp2_with fail
  generalize w2.alloc (.cells #[.string ⟨#[79, 80, 69, 78]⟩, .string ⟨#[85, 80, 68, 65, 84, 69]⟩, .string ⟨#[78, 79, 84, 73, 70, 73, 67, 65, 84, 73, 79, 78]⟩, .string ⟨#[75, 69, 69, 80, 65, 76, 73, 86, 69]⟩, .string ⟨#[82, 79, 85, 84, 69, 45, 82, 69, 70, 82, 69, 83, 72]⟩] 9) = V at ht2 hb4 o2 hX2 hY2 ⊢
  have HS0 := own_six4 o2.drew
  have hqo : (hbOk n 2 == hbOk n 2) = true := by simp
  have hql : ((hLim a1 2) == (hLim a1 2)) = true := by simp
  have hqm : ((hLeast 2) == (hLeast 2)) = true := by simp
  go_region_held3 (fun W => W.cell? ⟨w.heap.size, 0, none⟩ = some (.bool a0) ∧ W.cell? ⟨w.heap.size, 1, none⟩ = some (.bool a1) ∧ W.cell? ⟨w.heap.size, 2, none⟩ = some (.bool a2) ∧ W.cell? ⟨w.heap.size, 3, none⟩ = some (.bool a3) ∧ W.cell? ⟨w.heap.size, 4, none⟩ = some (.bool a4) ∧ W.cell? ⟨w.heap.size, 5, none⟩ = some (.bool a5)) (with_reducible first | exact HS0 | exact HS1 | exact HSE | exact HSL | exact HSR | exact HSM | exact HSN) ((first
    | (go_at_call 13; (with_reducible refine (alive4_any _ ht2.drew).mono ?_); rintro e w5 ⟨rfl, hb5⟩; have oA := o2.drew.step hb5; have htA := HRows.below (w := V.drew) ht2 hb5; have hbA := bl_trans hb4.drew hb5; have hX5 := (Bytes.below (w := V.drew) hX2 hb5).more hb5.size; have hY5 := (Bytes.below (w := V.drew) hY2 hb5).more hb5.size; have HS1 := own_six4 oA)
    | (go_at_call 19; (with_reducible refine (bytesEq_same _ _ _ _ _ _ _ _ _ _ hX5 hY5 hM1 hM2).mono ?_); rintro e w6 ⟨rfl, mm, rfl⟩; have oE := oA.drewN mm; have htE := htA.drewN mm; have hbE := bl_drewN hbA mm; have HSE := own_six4 oE)
    | (go_at_call 22; (with_reducible refine (limit_any a0 a1 a2 a3 a4 a5 2 _ (by first | exact htE | exact htR)).mono ?_); rintro e wL ⟨rfl, hbl⟩; (first | (have oL := oR.step hbl; have htL := htR.below hbl; have hbL := bl_trans hbR hbl) | (have oL := oE.step hbl; have htL := htE.below hbl; have hbL := bl_trans hbE hbl)); have HSL := own_six4 oL)
    | (go_at_call 23; (with_reducible refine (rlimit_any a0 a1 a2 a3 a4 a5 2 _).mono ?_); rintro e wR ⟨rfl, hbr⟩; (first | (have oR := oL.step hbr; have htR := htL.below hbr; have hbR := bl_trans hbL hbr) | (have oR := oE.step hbr; have htR := htE.below hbr; have hbR := bl_trans hbE hbr)); have HSR := own_six4 oR)
    | (go_at_call 24; (with_reducible refine (least_any 2 _ (by first | exact htL | exact htR)).mono ?_); rintro e wM ⟨rfl, hbm⟩; (first | (have oM := oR.step hbm; have htM := htR.below hbm; have hbM := bl_trans hbR hbm) | (have oM := oL.step hbm; have htM := htL.below hbm; have hbM := bl_trans hbL hbm)); have HSM := own_six4 oM)
    | (go_at_call 25; (with_reducible refine (rleast_any 2 _).mono ?_); rintro e w' ⟨rfl, rfl⟩)
    | (go_at_call 26; (with_reducible refine (name_any 2 _ htM).mono ?_); rw [HN]; rintro e wN ⟨rfl, hbn⟩; have oN := oM.step hbn; have hbN := bl_trans hbM hbn; have HSN := own_six4 oN)))
  all_goals go_wp2
  all_goals go_ret
  all_goals exact ⟨rfl, hbN⟩
set_option maxRecDepth 100000 in
set_option maxHeartbeats 3200000 in
theorem hforms_3 (a0 a1 a2 a3 a4 a5 : Bool) (n : Int) (w : World) (ht : HRows w) :
    Calls Tryd.prog 5 #[.agg #[.bool a0, .bool a1, .bool a2, .bool a3, .bool a4, .bool a5], .int .i64 n, .int .i64 3] w fun e w' => e = .returned (.bool true) ∧ Below w.heap.size w w' := by
  have HN : hName 3 = ⟨#[78, 79, 84, 73, 70, 73, 67, 65, 84, 73, 79, 78]⟩ := rfl
  have hb0 := bl_alloc (bl_refl w) (.cells #[.bool a0, .bool a1, .bool a2, .bool a3, .bool a4, .bool a5] 23)
  have o0 := Own.new w 23 #[.bool a0, .bool a1, .bool a2, .bool a3, .bool a4, .bool a5]
  have ht0 := ht.alloc (.cells #[.bool a0, .bool a1, .bool a2, .bool a3, .bool a4, .bool a5] 23)
  have HL := Lib.hid (hZ_len n 3)
  go_enter Tryd.func5, Tryd.ntmps5
  go_wp2_with fail
  refine (hbytes_any n 3 _).mono ?_
  rintro e w1 ⟨A1, m1, c1, rfl, hB1, hb1⟩
  have ht1 := ht0.below hb1
  have hb2 := bl_trans hb0 hb1
  have o1 := o0.step hb1
  clear ht0 hb0 o0 hb1 ht
  go_wp2_with fail
  refine (rhbytes_any n 3 _).mono ?_
  rintro e w2 ⟨A2, m2, c2, rfl, hB2, hb3⟩
  have ht2 := (ht1.below hb3).alloc (.cells #[.string ⟨#[79, 80, 69, 78]⟩, .string ⟨#[85, 80, 68, 65, 84, 69]⟩, .string ⟨#[78, 79, 84, 73, 70, 73, 67, 65, 84, 73, 79, 78]⟩, .string ⟨#[75, 69, 69, 80, 65, 76, 73, 86, 69]⟩, .string ⟨#[82, 79, 85, 84, 69, 45, 82, 69, 70, 82, 69, 83, 72]⟩] 9)
  have hb4 := bl_alloc (bl_trans hb2 hb3) (.cells #[.string ⟨#[79, 80, 69, 78]⟩, .string ⟨#[85, 80, 68, 65, 84, 69]⟩, .string ⟨#[78, 79, 84, 73, 70, 73, 67, 65, 84, 73, 79, 78]⟩, .string ⟨#[75, 69, 69, 80, 65, 76, 73, 86, 69]⟩, .string ⟨#[82, 79, 85, 84, 69, 45, 82, 69, 70, 82, 69, 83, 72]⟩] 9)
  have o2 := (o1.step hb3).alloc (.cells #[.string ⟨#[79, 80, 69, 78]⟩, .string ⟨#[85, 80, 68, 65, 84, 69]⟩, .string ⟨#[78, 79, 84, 73, 70, 73, 67, 65, 84, 73, 79, 78]⟩, .string ⟨#[75, 69, 69, 80, 65, 76, 73, 86, 69]⟩, .string ⟨#[82, 79, 85, 84, 69, 45, 82, 69, 70, 82, 69, 83, 72]⟩] 9)
  have hX := (hB1.below hb3).more hb3.size
  have hM1 : m1 ≤ 1000000000 := by have := hX.1; have := HL.out; omega
  have hM2 : m2 ≤ 1000000000 := by have := hB2.1; have := HL.out; omega
  have hX2 := (hX.below (bl_alloc (bl_refl w2) (.cells #[.string ⟨#[79, 80, 69, 78]⟩, .string ⟨#[85, 80, 68, 65, 84, 69]⟩, .string ⟨#[78, 79, 84, 73, 70, 73, 67, 65, 84, 73, 79, 78]⟩, .string ⟨#[75, 69, 69, 80, 65, 76, 73, 86, 69]⟩, .string ⟨#[82, 79, 85, 84, 69, 45, 82, 69, 70, 82, 69, 83, 72]⟩] 9))).more (bl_alloc (bl_refl w2) (.cells #[.string ⟨#[79, 80, 69, 78]⟩, .string ⟨#[85, 80, 68, 65, 84, 69]⟩, .string ⟨#[78, 79, 84, 73, 70, 73, 67, 65, 84, 73, 79, 78]⟩, .string ⟨#[75, 69, 69, 80, 65, 76, 73, 86, 69]⟩, .string ⟨#[82, 79, 85, 84, 69, 45, 82, 69, 70, 82, 69, 83, 72]⟩] 9)).size
  have hY2 := (hB2.below (bl_alloc (bl_refl w2) (.cells #[.string ⟨#[79, 80, 69, 78]⟩, .string ⟨#[85, 80, 68, 65, 84, 69]⟩, .string ⟨#[78, 79, 84, 73, 70, 73, 67, 65, 84, 73, 79, 78]⟩, .string ⟨#[75, 69, 69, 80, 65, 76, 73, 86, 69]⟩, .string ⟨#[82, 79, 85, 84, 69, 45, 82, 69, 70, 82, 69, 83, 72]⟩] 9))).more (bl_alloc (bl_refl w2) (.cells #[.string ⟨#[79, 80, 69, 78]⟩, .string ⟨#[85, 80, 68, 65, 84, 69]⟩, .string ⟨#[78, 79, 84, 73, 70, 73, 67, 65, 84, 73, 79, 78]⟩, .string ⟨#[75, 69, 69, 80, 65, 76, 73, 86, 69]⟩, .string ⟨#[82, 79, 85, 84, 69, 45, 82, 69, 70, 82, 69, 83, 72]⟩] 9)).size
  clear ht1 hb2 o1 hb3 hB1 hB2 hX
  go_wp2_with fail
  generalize w2.alloc (.cells #[.string ⟨#[79, 80, 69, 78]⟩, .string ⟨#[85, 80, 68, 65, 84, 69]⟩, .string ⟨#[78, 79, 84, 73, 70, 73, 67, 65, 84, 73, 79, 78]⟩, .string ⟨#[75, 69, 69, 80, 65, 76, 73, 86, 69]⟩, .string ⟨#[82, 79, 85, 84, 69, 45, 82, 69, 70, 82, 69, 83, 72]⟩] 9) = V at ht2 hb4 o2 hX2 hY2 ⊢
  have HS0 := own_six4 o2.drew
  have hqo : (hbOk n 3 == hbOk n 3) = true := by simp
  have hql : ((hLim a1 3) == (hLim a1 3)) = true := by simp
  have hqm : ((hLeast 3) == (hLeast 3)) = true := by simp
  go_region_held3 (fun W => W.cell? ⟨w.heap.size, 0, none⟩ = some (.bool a0) ∧ W.cell? ⟨w.heap.size, 1, none⟩ = some (.bool a1) ∧ W.cell? ⟨w.heap.size, 2, none⟩ = some (.bool a2) ∧ W.cell? ⟨w.heap.size, 3, none⟩ = some (.bool a3) ∧ W.cell? ⟨w.heap.size, 4, none⟩ = some (.bool a4) ∧ W.cell? ⟨w.heap.size, 5, none⟩ = some (.bool a5)) (with_reducible first | exact HS0 | exact HS1 | exact HSE | exact HSL | exact HSR | exact HSM | exact HSN) ((first
    | (go_at_call 13; (with_reducible refine (alive4_any _ ht2.drew).mono ?_); rintro e w5 ⟨rfl, hb5⟩; have oA := o2.drew.step hb5; have htA := HRows.below (w := V.drew) ht2 hb5; have hbA := bl_trans hb4.drew hb5; have hX5 := (Bytes.below (w := V.drew) hX2 hb5).more hb5.size; have hY5 := (Bytes.below (w := V.drew) hY2 hb5).more hb5.size; have HS1 := own_six4 oA)
    | (go_at_call 19; (with_reducible refine (bytesEq_same _ _ _ _ _ _ _ _ _ _ hX5 hY5 hM1 hM2).mono ?_); rintro e w6 ⟨rfl, mm, rfl⟩; have oE := oA.drewN mm; have htE := htA.drewN mm; have hbE := bl_drewN hbA mm; have HSE := own_six4 oE)
    | (go_at_call 22; (with_reducible refine (limit_any a0 a1 a2 a3 a4 a5 3 _ (by first | exact htE | exact htR)).mono ?_); rintro e wL ⟨rfl, hbl⟩; (first | (have oL := oR.step hbl; have htL := htR.below hbl; have hbL := bl_trans hbR hbl) | (have oL := oE.step hbl; have htL := htE.below hbl; have hbL := bl_trans hbE hbl)); have HSL := own_six4 oL)
    | (go_at_call 23; (with_reducible refine (rlimit_any a0 a1 a2 a3 a4 a5 3 _).mono ?_); rintro e wR ⟨rfl, hbr⟩; (first | (have oR := oL.step hbr; have htR := htL.below hbr; have hbR := bl_trans hbL hbr) | (have oR := oE.step hbr; have htR := htE.below hbr; have hbR := bl_trans hbE hbr)); have HSR := own_six4 oR)
    | (go_at_call 24; (with_reducible refine (least_any 3 _ (by first | exact htL | exact htR)).mono ?_); rintro e wM ⟨rfl, hbm⟩; (first | (have oM := oR.step hbm; have htM := htR.below hbm; have hbM := bl_trans hbR hbm) | (have oM := oL.step hbm; have htM := htL.below hbm; have hbM := bl_trans hbL hbm)); have HSM := own_six4 oM)
    | (go_at_call 25; (with_reducible refine (rleast_any 3 _).mono ?_); rintro e w' ⟨rfl, rfl⟩)
    | (go_at_call 26; (with_reducible refine (name_any 3 _ htM).mono ?_); rw [HN]; rintro e wN ⟨rfl, hbn⟩; have oN := oM.step hbn; have hbN := bl_trans hbM hbn; have HSN := own_six4 oN)))
  all_goals go_wp2
  all_goals go_ret
  all_goals exact ⟨rfl, hbN⟩
end Go.Proofs.YtejdpfhdjndefaaDoor

/- mp.Bytes at the example; alive of layer 12 -/
import Derived.Test.YtmlmgjdjbpipcaaDoorMfAQ
namespace Go.Proofs.YtmlmgjdjbpipcaaDoor
open Go.RowKit Go.Sort

theorem exS_of {W : World} {b g2 : Nat} {S T : TypeId} (o1 : Own W b S exO) (o2 : Own W g2 T exA) : W.cell? ⟨b, 0, none⟩ = some (.bool false) ∧ W.cell? ⟨b, 1, none⟩ = some (.bool false) ∧ W.cell? ⟨b, 2, none⟩ = some (.bool false) ∧ W.cell? ⟨b, 3, none⟩ = some (.bool true) ∧ W.cell? ⟨b, 4, none⟩ = some (.bool false) ∧ W.cell? ⟨b, 5, none⟩ = some (.bool false) ∧ W.cell? ⟨g2, 7, none⟩ = some (.int .i64 2) ∧ W.cell? ⟨g2, 8, none⟩ = some (.slice none 0 0) :=
  ⟨o1.cell rfl, o1.cell rfl, o1.cell rfl, o1.cell rfl, o1.cell rfl, o1.cell rfl, o2.cell rfl, o2.cell rfl⟩
set_option maxRecDepth 100000 in
theorem oadd_exL (w : World) : Calls Tryd.prog 28 #[.agg #[.bool false, .bool false, .bool false, .bool true, .bool false, .bool false], .int .i64 2] w fun e w' => e = .returned (.bool false) ∧ Below w.heap.size w w' := oadd_ex w
set_option maxRecDepth 100000 in
theorem nb_ex (w : World) : Calls Tryd.prog 27 #[.int .i64 2, .bool false, .slice none 0 0] w fun e w' => ∃ g, e = .returned (.tuple #[.slice (some ⟨g, 0, none⟩) 0 0, .bool true]) ∧ Below w.heap.size w w' := by
  refine (nbytes_false 2 none 0 0 [] w (routes_nil _ _) (by omega) (by rfl)).mono ?_
  rintro e w' ⟨g, rfl, _, _, hb⟩
  exact ⟨g, rfl, hb⟩
theorem parts_ex {W : World} {j k : Nat} {T : TypeId} {A2 : Option Addr} {c2 : Nat} (ho : Own W k T #[.slice (some ⟨j, 0, none⟩) 3 3, .slice A2 0 c2]) (h1 : Own W j 5 #[.int .u8 0, .int .u8 2, .int .u8 1]) : Parts W W.heap.size (some ⟨k, 0, none⟩) 2 [⟨some ⟨j, 0, none⟩, 3, 3, [0, 2, 1]⟩, ⟨A2, 0, c2, []⟩] :=
  parts_two ho (Bytes.of_owned (xs := [0, 2, 1]) h1 (by decide) h1.lt) (Bytes.nil _ _ _)
set_option maxRecDepth 100000 in
set_option maxHeartbeats 1600000 in
theorem mbytes_ex (w : World) (hf : Fams w) : Calls Tryd.prog 9 #[.agg exO, .agg exA] w fun e w' => ∃ g, e = .returned (.tuple #[.slice (some ⟨g, 0, none⟩) 3 3, .bool true]) ∧ w.heap.size ≤ g ∧ Own w' g 5 #[.int .u8 0, .int .u8 2, .int .u8 1] ∧ Below w.heap.size w w' := by
  have hb0 := bl_alloc (bl_alloc (bl_refl w) (.cells exO 23)) (.cells exA 30)
  have o1 := (Own.new w 23 exO).alloc (.cells exA 30)
  have o2 := Own.new (w.alloc (.cells exO 23)) 30 exA
  rw [show (w.alloc (.cells exO 23)).heap.size = w.heap.size + 1 by simp] at o2
  go_enter Tryd.func9, Tryd.ntmps9
  go_wp2_with (first | (refine wpList_load_row rfl 23 _ rfl w.heap.size rfl 23 exO (0, 0) (.struct (Tryd.prog.fieldsOf 23)) o1 (by kernel_rfl) rfl (by kernel_rfl) ?_) | (refine wpList_load_row rfl 30 _ rfl (w.heap.size + 1) rfl 30 exA (0, 0) (.struct (Tryd.prog.fieldsOf 30)) o2 (by kernel_rfl) rfl (by kernel_rfl) ?_))
  refine (mvalid_ex _).mono ?_
  rintro e w1 ⟨rfl, hb1⟩
  have q1 := o1.step hb1
  have q2 := o2.step hb1
  have hb2 := bl_trans hb0 hb1
  clear o1 o2 hb0 hb1
  generalize w.heap.size + 1 = g2 at q2 ⊢
  have c7 := q2.cell (i := 7) (v := .int .i64 2) rfl
  have hf1 := hf.below hb2
  go_wp2_with fail
  refine (codes_yes 2 _ (.inr rfl) hf1).mono ?_
  rintro e w2 ⟨j, rfl, hj, hoj, hb3⟩
  have u1 := q1.step hb3
  have u2 := q2.step hb3
  have hb4 := bl_trans hb2 hb3
  clear q1 q2 hb2 hb3 c7 hf1
  have HS0 := exS_of u1.drew u2.drew
  go_wp2_with fail
  go_region_held3 (fun W => W.cell? ⟨w.heap.size, 0, none⟩ = some (.bool false) ∧ W.cell? ⟨w.heap.size, 1, none⟩ = some (.bool false) ∧ W.cell? ⟨w.heap.size, 2, none⟩ = some (.bool false) ∧ W.cell? ⟨w.heap.size, 3, none⟩ = some (.bool true) ∧ W.cell? ⟨w.heap.size, 4, none⟩ = some (.bool false) ∧ W.cell? ⟨w.heap.size, 5, none⟩ = some (.bool false) ∧ W.cell? ⟨g2, 7, none⟩ = some (.int .i64 2) ∧ W.cell? ⟨g2, 8, none⟩ = some (.slice none 0 0)) (with_reducible first | exact HS0 | exact HS1 | exact HS2) ((first
    | (go_at_call 28; (with_reducible refine (oadd_exL _).mono ?_); rintro e w3 ⟨rfl, hb5⟩; have HS1 := exS_of (u1.drew.step hb5) (u2.drew.step hb5))
    | (go_at_call 27; (with_reducible refine (nb_ex _).mono ?_); rintro e w4 ⟨k, rfl, hb6⟩; have HS2 := exS_of ((u1.drew.step hb5).step hb6) ((u2.drew.step hb5).step hb6))))
  have v2 := (u2.drew.step hb5).step hb6
  have hoj4 := (hoj.drew.step hb5).step hb6
  have hb7 := bl_trans (bl_trans (bl_drewN hb4 1) hb5) hb6
  have c0 := v2.cell (i := 0) (v := .int .i64 15) rfl
  clear HS0 HS1 HS2 u1 u2 hoj hb4 hb5 hb6 v2
  have hpt := parts_ex (Own.new w4 27 #[.slice (some ⟨j, 0, none⟩) 3 3, .slice (some ⟨k, 0, none⟩) 0 0]) (hoj4.alloc (.cells #[.slice (some ⟨j, 0, none⟩) 3 3, .slice (some ⟨k, 0, none⟩) 0 0] 27))
  have hb8 := bl_alloc hb7 (.cells #[.slice (some ⟨j, 0, none⟩) 3 3, .slice (some ⟨k, 0, none⟩) 0 0] 27)
  go_wp2_with fail
  have hfl : flat [⟨some ⟨j, 0, none⟩, 3, 3, [0, 2, 1]⟩, ⟨some ⟨k, 0, none⟩, 0, 0, []⟩] = [0, 2, 1] := by simp [flat]
  refine (cat_own (c := 2) hpt (by omega) (by rw [hfl]; decide)).mono ?_
  rw [hfl]
  rintro e w5 ⟨rfl, ho2, hb9⟩
  have hb10 := bl_trans hb8 hb9
  have hsz := hb8.size
  rw [show (w4.alloc (.cells #[.slice (some ⟨j, 0, none⟩) 3 3, .slice (some ⟨k, 0, none⟩) 0 0] 27)).heap.size = w4.heap.size + 1 by simp] at ho2 hsz
  go_wp2
  go_ret2
  exact ⟨_, rfl, hsz, ho2, hb10⟩
set_option maxRecDepth 100000 in
set_option maxHeartbeats 1600000 in
theorem alive12_any (w : World) (hf : Fams w) : Calls Tryd.prog 8 #[] w fun e w' => e = .returned (.bool true) ∧ Below w.heap.size w w' := by
  have hO : #[.bool false, .bool false, .bool false, .bool true, .bool false, .bool false] = exO := rfl
  have hA : #[.int .i64 15, .bool false, .int .u32 0, .int .u32 0, .slice none 0 0, .slice none 0 0, .slice none 0 0, .int .i64 2, .slice none 0 0] = exA := rfl
  go_enter Tryd.func8, Tryd.ntmps8
  go_wp2_with fail
  refine (mbytes_ex _ hf).mono ?_
  rintro e w1 ⟨g, rfl, hg, ho, hb1⟩
  have c0 := ho.cell (i := 0) (v := .int .u8 0) rfl
  have c1 := ho.cell (i := 1) (v := .int .u8 2) rfl
  have c2 := ho.cell (i := 2) (v := .int .u8 1) rfl
  go_wp2
  go_ret
  exact ⟨rfl, hb1⟩
end Go.Proofs.YtmlmgjdjbpipcaaDoor

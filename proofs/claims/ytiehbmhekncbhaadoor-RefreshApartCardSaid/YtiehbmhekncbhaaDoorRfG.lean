/- refresh.Bytes, refresh.Text at the chapter's example, alive of layer 19 -/
import Derived.Test.YtiehbmhekncbhaaDoorRfF
namespace Go.Proofs.YtiehbmhekncbhaaDoor
open Go.RowKit Extern.Stop

/-- The form of a refresh. -/
def rfForm (a b c : Int) : List Int := digitsOf (2 : Int).toNat a ++ [b, c]
theorem rfForm_len (a b c : Int) : (rfForm a b c).length = 4 := by simp [rfForm, digitsOf_len]
set_option maxRecDepth 100000 in
set_option maxHeartbeats 800000 in
theorem rfbytes_yes (a b c : Int) (w : World) (hk : rfOk a b c = true) :
    Calls Tryd.prog 56 #[.agg #[.int .i64 a, .int .i64 b, .int .i64 c]] w fun e w' => ∃ g, e = .returned (.tuple #[.slice (some ⟨g, 0, none⟩) 4 4, .bool true]) ∧ w.heap.size ≤ g ∧ Own w' g 5 ((rfForm a b c).map (Value.int .u8)).toArray ∧ Below w.heap.size w w' := by
  obtain ⟨h0, h1, h2, h3, h4, h5⟩ := rfOk_bounds hk
  have HK := Lib.hid hk
  have w1 : IntKind.u32.wrap a = a := by rw [IntKind.wrap_u32]; omega
  have w2 : IntKind.u8.wrap b = b := by rw [IntKind.wrap_u8]; omega
  have w3 : IntKind.u8.wrap c = c := by rw [IntKind.wrap_u8]; omega
  have hb0 := bl_alloc (bl_refl w) (.cells #[.int .i64 a, .int .i64 b, .int .i64 c] 70)
  have o0 := Own.new w 70 #[.int .i64 a, .int .i64 b, .int .i64 c]
  clear hk
  go_enter Tryd.func56, Tryd.ntmps56
  go_wp2_with fail
  refine (rfvalid_any a b c _).mono ?_
  rw [HK.out]
  rintro e wa ⟨rfl, hba⟩
  have o1 := o0.step hba
  have c0 := o1.cell (i := 0) (v := .int .i64 a) rfl
  have hb1 := bl_trans hb0 hba
  clear hba hb0 o0
  go_wp2_with fail
  refine (put_yes 2 a _ (by omega) (by omega) h0 (by simp; omega)).mono ?_
  rintro e wb ⟨rfl, ho1, hbb⟩
  have o2 := o1.step hbb
  have k1 := o2.cell (i := 1) (v := .int .i64 b) rfl
  have k2 := o2.cell (i := 2) (v := .int .i64 c) rfl
  have hb2 := bl_trans hb1 hbb
  have hsa := hb1.size
  clear c0 o1 hb1 hbb
  go_wp2_with fail
  have hbc := bl_alloc (bl_alloc (bl_refl wb) (.cells #[.int .u8 b, .int .u8 c] 5)) (.cells #[.slice (some ⟨wa.heap.size, 0, none⟩) 2 2, .slice (some ⟨wb.heap.size, 0, none⟩) 2 2] 22)
  have om := ((Own.new wb 5 #[.int .u8 b, .int .u8 c]).alloc (.cells #[.slice (some ⟨wa.heap.size, 0, none⟩) 2 2, .slice (some ⟨wb.heap.size, 0, none⟩) 2 2] 22))
  have b1 := Bytes.of_owned (xs := [b, c]) om (by intro x hx; simp at hx; omega) om.lt
  have o3 := ho1.step hbc
  have b2 := Bytes.of_owned (xs := digitsOf (2 : Int).toNat a) o3 (digitsOf_range _ _) o3.lt
  rw [digitsOf_len] at b2
  have hs2 : (wb.alloc (.cells #[.int .u8 b, .int .u8 c] 5)).heap.size = wb.heap.size + 1 := by simp
  have on := Own.new (wb.alloc (.cells #[.int .u8 b, .int .u8 c] 5)) 22 #[.slice (some ⟨wa.heap.size, 0, none⟩) 2 2, .slice (some ⟨wb.heap.size, 0, none⟩) 2 2]
  rw [hs2] at on
  have hpt := parts_two (c1 := 2) (c2 := 2) on b2 b1
  have hfl : flat [⟨some ⟨wa.heap.size, 0, none⟩, 2, 2, digitsOf (2 : Int).toNat a⟩, ⟨some ⟨wb.heap.size, 0, none⟩, 2, 2, [b, c]⟩] = rfForm a b c := by simp [flat, rfForm]
  have HL := Lib.hid (rfForm_len a b c)
  refine (cat_own (c := 2) hpt (by omega) (by rw [hfl, HL.out]; omega)).mono ?_
  rw [hfl, HL.out]
  rintro e w4 ⟨rfl, ho2, hb4⟩
  have hb5 := bl_trans (bl_trans hb2 hbc) hb4
  have hsg := (bl_trans hb2 hbc).size
  rw [show ((wb.alloc (.cells #[.int .u8 b, .int .u8 c] 5)).alloc (.cells #[.slice (some ⟨wa.heap.size, 0, none⟩) 2 2, .slice (some ⟨wb.heap.size, 0, none⟩) 2 2] 22)).heap.size = wb.heap.size + 1 + 1 by simp] at ho2 hsg
  go_wp2
  go_ret2
  exact ⟨_, rfl, hsg, ho2, hb5⟩
set_option maxRecDepth 100000 in
theorem rfbytes_no (a b c : Int) (w : World) (hk : rfOk a b c = false) :
    Calls Tryd.prog 56 #[.agg #[.int .i64 a, .int .i64 b, .int .i64 c]] w fun e w' => e = .returned (.tuple #[.slice none 0 0, .bool false]) ∧ Below w.heap.size w w' := by
  have HK := Lib.hid hk
  have hb0 := bl_alloc (bl_refl w) (.cells #[.int .i64 a, .int .i64 b, .int .i64 c] 70)
  clear hk
  go_enter Tryd.func56, Tryd.ntmps56
  go_wp2_with fail
  refine (rfvalid_any a b c _).mono ?_
  rw [HK.out]
  rintro e wa ⟨rfl, hba⟩
  have hb1 := bl_trans hb0 hba
  go_wp2
  go_ret2
  exact ⟨rfl, hb1⟩
set_option maxRecDepth 100000 in
/-- familyText at a family of the table. -/
theorem rffamtext_any (a b c : Int) (w : World) (ht : Fams w) (h0 : 0 ≤ a) (h1 : a ≤ 65535) (h2 : 0 ≤ c) (h3 : c ≤ 255) (hf : famOf a c = 2) :
    Calls Tryd.prog 102 #[.agg #[.int .i64 a, .int .i64 b, .int .i64 c]] w fun e w' => e = .returned (.string ⟨#[105, 112, 118, 54]⟩) ∧ Below w.heap.size w w' := by
  have HF := Lib.hid hf
  have hb0 := bl_alloc (bl_refl w) (.cells #[.int .i64 a, .int .i64 b, .int .i64 c] 70)
  have ht1 := ht.alloc (.cells #[.int .i64 a, .int .i64 b, .int .i64 c] 70)
  go_enter Tryd.func102, Tryd.ntmps102
  go_wp2_with fail
  refine (rffamily_any a b c _ ht1 h0 h1 h2 h3).mono ?_
  rw [HF.out]
  rintro e wa ⟨rfl, hba⟩
  have hb1 := bl_trans hb0 hba
  go_wp2
  go_ret
  exact ⟨rfl, hb1⟩
set_option maxRecDepth 100000 in
theorem rfsub_one (w : World) : Calls Tryd.prog 101 #[.int .i64 1] w fun e w' => e = .returned (.string ⟨#[98, 101, 103, 105, 110]⟩) ∧ w = w' := by
  go_enter Tryd.func101, Tryd.ntmps101
  go_wp2
  go_ret
  exact ⟨rfl, rfl⟩
set_option maxRecDepth 100000 in
set_option maxHeartbeats 1600000 in
theorem rftext_211 (w : World) (ht : Fams w) :
    Calls Tryd.prog 59 #[.agg #[.int .i64 2, .int .i64 1, .int .i64 1]] w fun e w' => e = .returned (.string ⟨#[98, 101, 103, 105, 110, 32, 105, 112, 118, 54]⟩) ∧ Below w.heap.size w w' := by
  have hb0 := bl_alloc (bl_refl w) (.cells #[.int .i64 2, .int .i64 1, .int .i64 1] 70)
  have ht1 := ht.alloc (.cells #[.int .i64 2, .int .i64 1, .int .i64 1] 70)
  have o0 := Own.new w 70 #[.int .i64 2, .int .i64 1, .int .i64 1]
  have HK := Lib.hid (show rfOk 2 1 1 = true by decide)
  go_enter Tryd.func59, Tryd.ntmps59
  go_wp2_with fail
  refine (rfvalid_any 2 1 1 _).mono ?_
  rw [HK.out]
  rintro e V ⟨rfl, hba⟩
  have o1 := o0.step hba
  have ht2 := ht1.below hba
  have hb1 := bl_trans hb0 hba
  have HS0 : V.drew.cell? ⟨w.heap.size, 0, none⟩ = some (.int .i64 2) ∧ V.drew.cell? ⟨w.heap.size, 1, none⟩ = some (.int .i64 1) ∧ V.drew.cell? ⟨w.heap.size, 2, none⟩ = some (.int .i64 1) := ⟨o1.cell rfl, o1.cell rfl, o1.cell rfl⟩
  clear hb0 o0 ht1 hba
  go_wp2_with fail
  go_region_held3 (fun W => W.cell? ⟨w.heap.size, 0, none⟩ = some (.int .i64 2) ∧ W.cell? ⟨w.heap.size, 1, none⟩ = some (.int .i64 1) ∧ W.cell? ⟨w.heap.size, 2, none⟩ = some (.int .i64 1)) (with_reducible first | exact HS0 | exact HS1) ((first
    | (go_at_call 101; (with_reducible refine (rfsub_one _).mono ?_); rintro e w' ⟨rfl, rfl⟩)
    | (go_at_call 102; (with_reducible refine (rffamtext_any 2 1 1 _ ht2.drew (by omega) (by omega) (by omega) (by omega) (by decide)).mono ?_); rintro e w3 ⟨rfl, hb5⟩; have m1 := o1.drew.step hb5; have hb6 := bl_trans hb1.drew hb5; have HS1 : w3.cell? ⟨w.heap.size, 0, none⟩ = some (.int .i64 2) ∧ w3.cell? ⟨w.heap.size, 1, none⟩ = some (.int .i64 1) ∧ w3.cell? ⟨w.heap.size, 2, none⟩ = some (.int .i64 1) := ⟨m1.cell rfl, m1.cell rfl, m1.cell rfl⟩)))
  all_goals go_wp2
  all_goals go_ret
  all_goals exact ⟨rfl, hb6⟩
set_option maxRecDepth 100000 in
set_option maxHeartbeats 1600000 in
theorem alive19_any (w : World) (ht : Fams w) : Calls Tryd.prog 62 #[] w fun e w' => e = .returned (.bool true) ∧ Below w.heap.size w w' := by
  go_enter Tryd.func62, Tryd.ntmps62
  go_wp2_with fail
  refine (rfmake_yes 2 1 _ ht (by omega) (by omega) (by omega)).mono ?_
  rintro e w1 ⟨rfl, hb1⟩
  have o1 := Own.new w1 70 #[.int .i64 2, .int .i64 1, .int .i64 1]
  have hb2 := bl_alloc hb1 (.cells #[.int .i64 2, .int .i64 1, .int .i64 1] 70)
  have ht2 := (ht.below hb1).alloc (.cells #[.int .i64 2, .int .i64 1, .int .i64 1] 70)
  go_wp2_with fail
  refine (rfbytes_yes 2 1 1 _ (by decide)).mono ?_
  rintro e w2 ⟨g, rfl, hg, ho, hb3⟩
  have o2 := o1.step hb3
  have ht3 := ht2.below hb3
  have hb4 := bl_trans hb2 hb3
  have hF : rfForm 2 1 1 = [0, 2, 1, 1] := by decide
  rw [hF] at ho
  have c0 := o2.cell (i := 0) (v := .int .i64 2) rfl
  have c1 := o2.cell (i := 1) (v := .int .i64 1) rfl
  have c2 := o2.cell (i := 2) (v := .int .i64 1) rfl
  have hb5 := bl_alloc hb4 (.cells #[.int .u8 0, .int .u8 2, .int .u8 1, .int .u8 1] 5)
  have ht4 := ht3.alloc (.cells #[.int .u8 0, .int .u8 2, .int .u8 1, .int .u8 1] 5)
  have hy := Bytes.of_owned (xs := [0, 2, 1, 1]) (ho.alloc (.cells #[.int .u8 0, .int .u8 2, .int .u8 1, .int .u8 1] 5)) (by decide) (Own.lt (ho.alloc (.cells #[.int .u8 0, .int .u8 2, .int .u8 1, .int .u8 1] 5)))
  have hz := Bytes.of_owned (xs := [0, 2, 1, 1]) (Own.new w2 5 #[.int .u8 0, .int .u8 2, .int .u8 1, .int .u8 1]) (by decide) (Own.new w2 5 #[.int .u8 0, .int .u8 2, .int .u8 1, .int .u8 1]).lt
  have o3 := o2.alloc (.cells #[.int .u8 0, .int .u8 2, .int .u8 1, .int .u8 1] 5)
  clear hb1 o1 hb2 ht2 hb3 o2 ht3 hg hF ho hb4
  go_wp2_with fail
  refine (bytesEq_any _ _ _ _ _ _ _ _ _ _ _ hy hz (by simp) (by simp)).mono ?_
  rintro e w3 ⟨rfl, m, rfl⟩
  have hdec : decide (([0, 2, 1, 1] : List Int) = [0, 2, 1, 1]) = true := by simp
  rw [hdec]
  have o4 := o3.drewN m
  have d0 := o4.cell (i := 0) (v := .int .i64 2) rfl
  have d1 := o4.cell (i := 1) (v := .int .i64 1) rfl
  have d2 := o4.cell (i := 2) (v := .int .i64 1) rfl
  clear c0 c1 c2 hdec o3 hy hz
  go_wp2_with fail
  refine (rftext_211 _ (ht4.drewN m)).mono ?_
  rintro e w4 ⟨rfl, hb6⟩
  have hb7 := bl_trans (bl_drewN hb5 m) hb6
  go_wp2
  go_ret
  exact ⟨rfl, hb7⟩
end Go.Proofs.YtiehbmhekncbhaaDoor

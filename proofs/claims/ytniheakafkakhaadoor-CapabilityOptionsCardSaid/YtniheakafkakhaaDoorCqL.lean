/- CapabilityOptions: the walk -/
import Derived.Test.YtniheakafkakhaaDoorCqS
namespace Go.Proofs.YtniheakafkakhaaDoor
open Go.RowKit Go.Sort

theorem big_dig4 (n : Int) (h0 : 0 ≤ n) (h1 : n < 4294967296) : big (digitsOf 4 n) = n := by
  rw [digitsOf_4]
  simp [big]
  omega
def okK (p : Int × List Int) : Bool := decide (0 ≤ p.1 ∧ p.1 ≤ 255 ∧ p.2.length ≤ 255)
theorem ofK_says (a0 a1 a2 a3 a4 a5 : Bool) (n : Int) : (ofK a0 a1 a2 a3 a4 a5 n).all okK = true ∧ sysK (ofK a0 a1 a2 a3 a4 a5 n) = (if a0 then some (big (digitsOf 4 n)) else none) ∧ famK 1 (ofK a0 a1 a2 a3 a4 a5 n) = a2 ∧ famK 2 (ofK a0 a1 a2 a3 a4 a5 n) = a3 ∧
    hasK 6 0 (ofK a0 a1 a2 a3 a4 a5 n) = a1 ∧ modK 1 (ofK a0 a1 a2 a3 a4 a5 n) = (if a4 then 3 else 0) ∧ modK 2 (ofK a0 a1 a2 a3 a4 a5 n) = (if a5 then 3 else 0) := by
  cases a0 <;> cases a1 <;> cases a2 <;> cases a3 <;> cases a4 <;> cases a5 <;> exact ⟨rfl, rfl, rfl, rfl, rfl, rfl, rfl⟩
theorem all_okK {ss : List Cp} (h : ∀ s ∈ ss, s.n = s.xs.length) : ss.all cpOk = (ss.map cpK).all okK := by
  rw [List.all_map, Bool.eq_iff_iff, List.all_eq_true, List.all_eq_true]
  have e : ∀ s ∈ ss, cpOk s = okK (cpK s) := fun s hs => by
    unfold cpOk okK cpK
    rw [h s hs]
  constructor
  · intro h1 s hs
    exact (e s hs).symm.trans (h1 s hs)
  · intro h1 s hs
    exact (e s hs).trans (h1 s hs)
set_option maxRecDepth 100000 in
theorem cpmode_any (b : Bool) (w : World) : Calls Tryd.prog 16 #[.bool b] w fun e w' => e = .returned (.int .i64 (if b then 3 else 0)) ∧ w = w' := by
  cases b
  · go_enter Tryd.func16, Tryd.ntmps16
    go_wp2
    go_ret
    exact ⟨rfl, rfl⟩
  · go_enter Tryd.func16, Tryd.ntmps16
    go_wp2
    go_ret
    exact ⟨rfl, rfl⟩
set_option maxRecDepth 100000 in
set_option maxHeartbeats 6400000 in
theorem cpopts_all (a0 a1 a2 a3 a4 a5 : Bool) (an : Int) (h0 : 0 ≤ an) (h1 : an < 4294967296) (w : World) (hf : Fams w) :
    Calls Tryd.prog 3 #[.agg #[.bool a0, .bool a1, .bool a2, .bool a3, .bool a4, .bool a5], .int .u32 an] w fun e w' => e = .returned (.bool true) ∧ Below w.heap.size w w' := by
  have hb0 := bl_alloc (bl_refl w) (.cells #[.bool a0, .bool a1, .bool a2, .bool a3, .bool a4, .bool a5] 23)
  have o0 := Own.new w 23 #[.bool a0, .bool a1, .bool a2, .bool a3, .bool a4, .bool a5]
  have hOf := Lib.hid (fun W hF => cof_any a0 a1 a2 a3 a4 a5 an h0 h1 W hF)
  have hROf := Lib.hid (fun W => rcof_any a0 a1 a2 a3 a4 a5 an h0 h1 W)
  have hSay := Lib.hid (ofK_says a0 a1 a2 a3 a4 a5 an)
  have hBig := Lib.hid (big_dig4 an h0 h1)
  have HF := Lib.hid hf
  clear h0 h1 hf
  go_enter Tryd.func3, Tryd.ntmps3
  go_wp2_with (refine wpList_load_row rfl 23 _ rfl w.heap.size rfl 23 #[.bool a0, .bool a1, .bool a2, .bool a3, .bool a4, .bool a5] (0, 0) (.struct (Tryd.prog.fieldsOf 23)) o0 op_descO rfl (op_infoO _ _ _ _ _ _) ?_)
  refine (hOf.out _ (HF.out.below hb0)).mono ?_
  rintro e w1 ⟨A, c, L, rfl, hC, hM, hs, hb1⟩
  have HM := Lib.hid hM
  have HS := Lib.hid hs
  have HC := Lib.hid hC
  have hLn : Hid (L.length ≤ 6) := Lib.hid (by
    have := congrArg List.length hM
    rw [List.length_map] at this
    rw [this]
    unfold ofK
    refine Nat.le_trans (ofPut_len _ _ _ _) (Nat.succ_le_succ (Nat.le_trans (ofPut_len _ _ _ _) (Nat.succ_le_succ (Nat.le_trans (ofPut_len _ _ _ _) (Nat.succ_le_succ (Nat.le_trans (ofPut_len _ _ _ _) (Nat.succ_le_succ (ofL_len a2 a3 2)))))))))
  have o1 := o0.step hb1
  have hb2 := bl_trans hb0 hb1
  clear hC hM hs hb0 hb1 o0
  go_wp2_with fail
  refine wp_region_held_drew (S := (fun X => Own X w.heap.size 23 #[.bool a0, .bool a1, .bool a2, .bool a3, .bool a4, .bool a5])) (by kernel_rfl) o1.drew (fun hHeld => ?_)
  refine wpAnyH_take (i := 0) (v := ?_) rfl (by kernel_rfl) (by kernel_rfl) (by kernel_rfl) (fun _ _ _ h => h) (Or.inl ⟨by rfl, ?_⟩) (by assumption) ?_
  rotate_left
  · (intro W hSw; have s0 : Own W w.heap.size 23 #[.bool a0, .bool a1, .bool a2, .bool a3, .bool a4, .bool a5] := hSw; have q0 := s0.cell (i := 0) (v := .bool a0) rfl; have q1 := s0.cell (i := 1) (v := .bool a1) rfl; have q2 := s0.cell (i := 2) (v := .bool a2) rfl; have q3 := s0.cell (i := 3) (v := .bool a3) rfl; have q4 := s0.cell (i := 4) (v := .bool a4) rfl; have q5 := s0.cell (i := 5) (v := .bool a5) rfl; go_simp; try with_reducible rfl)
  simp only [Act.put, List.getElem_toArray, List.getElem_cons_zero, List.setIfInBounds_toArray, List.set_cons_zero, List.set_cons_succ]
  refine wpAnyH_take (i := 2) (v := ?_) rfl (by kernel_rfl) (by kernel_rfl) (by kernel_rfl) (fun _ _ _ h => h) (Or.inl ⟨by rfl, ?_⟩) (by assumption) ?_
  rotate_left
  · (intro W hSw; have s0 : Own W w.heap.size 23 #[.bool a0, .bool a1, .bool a2, .bool a3, .bool a4, .bool a5] := hSw; have q0 := s0.cell (i := 0) (v := .bool a0) rfl; have q1 := s0.cell (i := 1) (v := .bool a1) rfl; have q2 := s0.cell (i := 2) (v := .bool a2) rfl; have q3 := s0.cell (i := 3) (v := .bool a3) rfl; have q4 := s0.cell (i := 4) (v := .bool a4) rfl; have q5 := s0.cell (i := 5) (v := .bool a5) rfl; go_simp; try with_reducible rfl)
  simp only [Act.put, List.getElem_toArray, List.getElem_cons_zero, List.getElem_cons_succ, List.setIfInBounds_toArray, List.set_cons_zero, List.set_cons_succ]
  refine wpAnyH_take (i := 3) (v := ?_) rfl (by kernel_rfl) (by kernel_rfl) (by kernel_rfl) (fun _ _ _ h => h) (Or.inl ⟨by rfl, ?_⟩) (by assumption) ?_
  rotate_left
  · (intro W hSw; have s0 : Own W w.heap.size 23 #[.bool a0, .bool a1, .bool a2, .bool a3, .bool a4, .bool a5] := hSw; have q0 := s0.cell (i := 0) (v := .bool a0) rfl; have q1 := s0.cell (i := 1) (v := .bool a1) rfl; have q2 := s0.cell (i := 2) (v := .bool a2) rfl; have q3 := s0.cell (i := 3) (v := .bool a3) rfl; have q4 := s0.cell (i := 4) (v := .bool a4) rfl; have q5 := s0.cell (i := 5) (v := .bool a5) rfl; go_simp; try with_reducible rfl)
  simp only [Act.put, List.getElem_toArray, List.getElem_cons_zero, List.getElem_cons_succ, List.setIfInBounds_toArray, List.set_cons_zero, List.set_cons_succ]
  refine wpAnyH_ready (rs := [1]) (by kernel_rfl) (by simp) ?_
  refine (AllReadyH.cons rfl (fun K hK => ?_) AllReadyH.nil)
  go_simp
  go_at_call 13
  refine (back16_any A L.length c L w1.drew (HC.out.step (bl_drewN (bl_refl w1) 1)) (by have := hLn.out; omega)).mono ?_
  rintro e w3 ⟨A3, c3, rfl, hC3, hb3⟩
  have hb3x := bl_trans (bl_drewN (bl_refl w1) 1) hb3
  have o3 := o1.step hb3x
  refine hK.out _ _ o3 (fun hHeld2 => ?_)
  clear hK K hHeld
  have hHeld := hHeld2
  clear hHeld2
  try simp only [Act.put, List.getElem_toArray, List.getElem_cons_zero, List.getElem_cons_succ, List.setIfInBounds_toArray, List.set_cons_zero, List.set_cons_succ]
  refine wpAnyH_ready (rs := [4]) (by kernel_rfl) (by simp) ?_
  refine (AllReadyH.cons rfl (fun K hK => ?_) AllReadyH.nil)
  go_simp
  go_at_call 14
  refine (hROf.out w3).mono ?_
  rintro e w4 ⟨ov, rfl, A4, c4, L4, rfl, hC4, hM4, hs4, hb4⟩
  have o4 := o3.step hb4
  have hC34 := hC3.step hb4
  refine hK.out _ _ o4 (fun hHeld2 => ?_)
  clear hK K hHeld
  have hHeld := hHeld2
  clear hHeld2
  try simp only [Act.put, List.getElem_toArray, List.getElem_cons_zero, List.getElem_cons_succ, List.setIfInBounds_toArray, List.set_cons_zero, List.set_cons_succ]
  refine wpAnyH_ready (rs := [5]) (by kernel_rfl) (by simp) ?_
  refine (AllReadyH.cons rfl (fun K hK => ?_) AllReadyH.nil)
  have hEq : decide (L.map cpK = L4.map cpK) = true := decide_eq_true (HM.out.trans hM4.symm)
  have hl4 : L4.length ≤ 6 := by have := congrArg List.length (HM.out.trans hM4.symm); rw [List.length_map, List.length_map] at this; have := hLn.out; omega
  have hSm := rcsame_any A3 A4 L.length L4.length c3 c4 L L4 w4 hC34 hC4 (by have := hLn.out; omega) (by omega)
  rw [hEq] at hSm
  go_simp
  go_at_call 12
  refine hSm.mono ?_
  rintro e w5 ⟨rfl, hb5⟩
  have o5 := o4.step hb5
  refine hK.out _ _ o5 (fun hHeld2 => ?_)
  clear hK K hHeld
  have hHeld := hHeld2
  clear hHeld2
  try simp only [Act.put, List.getElem_toArray, List.getElem_cons_zero, List.getElem_cons_succ, List.setIfInBounds_toArray, List.set_cons_zero, List.set_cons_succ]
  refine wpAnyH_take (i := 6) (v := ?_) rfl (by kernel_rfl) (by kernel_rfl) (by kernel_rfl) (fun _ _ _ h => h) (Or.inl ⟨by rfl, ?_⟩) (by assumption) ?_
  rotate_left
  · (intro W hSw; have s0 := hSw; go_simp; try with_reducible rfl)
  simp only [Act.put, List.getElem_toArray, List.getElem_cons_zero, List.getElem_cons_succ, List.setIfInBounds_toArray, List.set_cons_zero, List.set_cons_succ]
  refine wpAnyH_done (by kernel_rfl) ?_ _
  have hbA := bl_trans (bl_trans hb3x hb4) hb5
  have hb6 := bl_trans hb2 hbA
  have HC6 := Lib.hid (HC.out.step hbA)
  have hI6 := o5
  clear o1 o3 o4 o5 hC3 hC4 hC34 hM4 hs4 hb3 hb4 hb5 hb3x hb2 hbA hSm hEq hl4
  generalize w5 = w6 at *
  have hsys := Lib.hid (csys_any A L.length c L w6 HC6.out (by have := hLn.out; omega))
  rw [HM.out] at hsys
  rw [hSay.out.2.1] at hsys
  have q0 := hI6.cell (i := 0) (v := .bool a0) rfl
  have q1 := hI6.cell (i := 1) (v := .bool a1) rfl
  have q2 := hI6.cell (i := 2) (v := .bool a2) rfl
  have q3 := hI6.cell (i := 3) (v := .bool a3) rfl
  have q4 := hI6.cell (i := 4) (v := .bool a4) rfl
  have q5 := hI6.cell (i := 5) (v := .bool a5) rfl
  clear q0 q1 q2 q3 q4 q5
  cases a0
  · skip
    rw [if_neg (by decide)] at hsys
    go_wp2_with fail
    refine hsys.out.mono ?_
    rintro e w7 ⟨rfl, hb7⟩
    have hI7 := hI6.step hb7
    have hb8 := bl_trans hb6 hb7
    have HC7 := Lib.hid (HC6.out.step hb7)
    clear hI6 hb6 hb7 hsys
    have q0 := cell_regrown (hI7.cell (i := 0) (v := .bool false) rfl)
    have q1 := cell_regrown (hI7.cell (i := 1) (v := .bool a1) rfl)
    have q2 := cell_regrown (hI7.cell (i := 2) (v := .bool a2) rfl)
    have q3 := cell_regrown (hI7.cell (i := 3) (v := .bool a3) rfl)
    have q4 := cell_regrown (hI7.cell (i := 4) (v := .bool a4) rfl)
    have q5 := cell_regrown (hI7.cell (i := 5) (v := .bool a5) rfl)
    have hAll : L.all cpOk = true := by rw [all_okK (fun s hs => (HC7.out.2.1 s hs).1.1), HM.out]; exact hSay.out.1
    have al := Lib.hid (rg_ofC (w := w7) (fun W _ => alive16_any W))
    have cv := Lib.hid (rg_ofC (w := w7) (fun W hW => cvalid_any A L.length c L W (HC7.out.step hW) (by have := hLn.out; omega) (fun s hs => by have := HS.out s hs; omega)))
    rw [hAll] at cv
    have f1 := Lib.hid (rg_ofC (w := w7) (fun W hW => cfamily_any 1 rfl A L.length c L W (HC7.out.step hW) (by have := hLn.out; omega) (fun s hs => by have := HS.out s hs; omega) (HF.out.below (bl_trans hb8 hW))))
    have f2 := Lib.hid (rg_ofC (w := w7) (fun W hW => cfamily_any 2 rfl A L.length c L W (HC7.out.step hW) (by have := hLn.out; omega) (fun s hs => by have := HS.out s hs; omega) (HF.out.below (bl_trans hb8 hW))))
    have ch := Lib.hid (rg_ofC (w := w7) (fun W hW => chas_any 6 0 A L.length c L W (HC7.out.step hW) (by have := hLn.out; omega)))
    have m1 := Lib.hid (rg_ofC (w := w7) (fun W hW => cmode_any 1 rfl A L.length c L W (HC7.out.step hW) (by have := hLn.out; omega) (fun s hs => by have := HS.out s hs; omega) (HF.out.below (bl_trans hb8 hW))))
    have m2 := Lib.hid (rg_ofC (w := w7) (fun W hW => cmode_any 2 rfl A L.length c L W (HC7.out.step hW) (by have := hLn.out; omega) (fun s hs => by have := HS.out s hs; omega) (HF.out.below (bl_trans hb8 hW))))
    rw [HM.out] at f1 f2 ch m1 m2
    rw [hSay.out.2.2.1] at f1
    rw [hSay.out.2.2.2.1] at f2
    rw [hSay.out.2.2.2.2.1] at ch
    rw [hSay.out.2.2.2.2.2.1] at m1
    rw [hSay.out.2.2.2.2.2.2] at m2
    have k1 := Lib.hid (rg_ofC (w := w7) (fun W _ => (cpmode_any a4 W).mono (fun e w' h => ⟨h.1, by rw [← h.2]; exact bl_refl _⟩)))
    have k2 := Lib.hid (rg_ofC (w := w7) (fun W _ => (cpmode_any a5 W).mono (fun e w' h => ⟨h.1, by rw [← h.2]; exact bl_refl _⟩)))
    generalize (if a4 = true then (3 : Int) else 0) = V4 at *
    generalize (if a5 = true then (3 : Int) else 0) = V5 at *
    clear hI7
    go_wp2_with fail
    refine wp_region_quiet_below (by kernel_rfl) (by kernel_rfl) ?_
    repeat (first | go_big_quiet_skip | go_big_quiet_step (with_reducible first | exact al.out _ _ | exact cv.out _ _ | exact f1.out _ _ | exact f2.out _ _ | exact ch.out _ _ | exact m1.out _ _ | exact m2.out _ _ | exact k1.out _ _ | exact k2.out _ _))
    refine wpQuiet_nil ?_
    first | rintro w' ⟨⟨dq, osq⟩, rfl⟩ | rintro ⟨dq, osq⟩
    have hb9 := bl_trans hb8 (below_regrown w7 dq osq)
    generalize hgz : grow (redrawn w7 dq) osq = w9 at *
    clear q0 q1 q2 q3 q4 q5 al cv f1 f2 ch m1 m2 k1 k2 hgz
    go_wp2
    go_ret
    exact ⟨rfl, hb9⟩
  · skip
    rw [if_pos rfl, hBig.out] at hsys
    go_wp2_with fail
    refine hsys.out.mono ?_
    rintro e w7 ⟨rfl, hb7⟩
    have hI7 := hI6.step hb7
    have hb8 := bl_trans hb6 hb7
    have HC7 := Lib.hid (HC6.out.step hb7)
    clear hI6 hb6 hb7 hsys
    have q0 := cell_regrown (hI7.cell (i := 0) (v := .bool true) rfl)
    have q1 := cell_regrown (hI7.cell (i := 1) (v := .bool a1) rfl)
    have q2 := cell_regrown (hI7.cell (i := 2) (v := .bool a2) rfl)
    have q3 := cell_regrown (hI7.cell (i := 3) (v := .bool a3) rfl)
    have q4 := cell_regrown (hI7.cell (i := 4) (v := .bool a4) rfl)
    have q5 := cell_regrown (hI7.cell (i := 5) (v := .bool a5) rfl)
    have hAll : L.all cpOk = true := by rw [all_okK (fun s hs => (HC7.out.2.1 s hs).1.1), HM.out]; exact hSay.out.1
    have al := Lib.hid (rg_ofC (w := w7) (fun W _ => alive16_any W))
    have cv := Lib.hid (rg_ofC (w := w7) (fun W hW => cvalid_any A L.length c L W (HC7.out.step hW) (by have := hLn.out; omega) (fun s hs => by have := HS.out s hs; omega)))
    rw [hAll] at cv
    have f1 := Lib.hid (rg_ofC (w := w7) (fun W hW => cfamily_any 1 rfl A L.length c L W (HC7.out.step hW) (by have := hLn.out; omega) (fun s hs => by have := HS.out s hs; omega) (HF.out.below (bl_trans hb8 hW))))
    have f2 := Lib.hid (rg_ofC (w := w7) (fun W hW => cfamily_any 2 rfl A L.length c L W (HC7.out.step hW) (by have := hLn.out; omega) (fun s hs => by have := HS.out s hs; omega) (HF.out.below (bl_trans hb8 hW))))
    have ch := Lib.hid (rg_ofC (w := w7) (fun W hW => chas_any 6 0 A L.length c L W (HC7.out.step hW) (by have := hLn.out; omega)))
    have m1 := Lib.hid (rg_ofC (w := w7) (fun W hW => cmode_any 1 rfl A L.length c L W (HC7.out.step hW) (by have := hLn.out; omega) (fun s hs => by have := HS.out s hs; omega) (HF.out.below (bl_trans hb8 hW))))
    have m2 := Lib.hid (rg_ofC (w := w7) (fun W hW => cmode_any 2 rfl A L.length c L W (HC7.out.step hW) (by have := hLn.out; omega) (fun s hs => by have := HS.out s hs; omega) (HF.out.below (bl_trans hb8 hW))))
    rw [HM.out] at f1 f2 ch m1 m2
    rw [hSay.out.2.2.1] at f1
    rw [hSay.out.2.2.2.1] at f2
    rw [hSay.out.2.2.2.2.1] at ch
    rw [hSay.out.2.2.2.2.2.1] at m1
    rw [hSay.out.2.2.2.2.2.2] at m2
    have k1 := Lib.hid (rg_ofC (w := w7) (fun W _ => (cpmode_any a4 W).mono (fun e w' h => ⟨h.1, by rw [← h.2]; exact bl_refl _⟩)))
    have k2 := Lib.hid (rg_ofC (w := w7) (fun W _ => (cpmode_any a5 W).mono (fun e w' h => ⟨h.1, by rw [← h.2]; exact bl_refl _⟩)))
    generalize (if a4 = true then (3 : Int) else 0) = V4 at *
    generalize (if a5 = true then (3 : Int) else 0) = V5 at *
    clear hI7
    go_wp2_with fail
    refine wp_region_quiet_below (by kernel_rfl) (by kernel_rfl) ?_
    repeat (first | go_big_quiet_skip | go_big_quiet_step (with_reducible first | exact al.out _ _ | exact cv.out _ _ | exact f1.out _ _ | exact f2.out _ _ | exact ch.out _ _ | exact m1.out _ _ | exact m2.out _ _ | exact k1.out _ _ | exact k2.out _ _))
    refine wpQuiet_nil ?_
    first | rintro w' ⟨⟨dq, osq⟩, rfl⟩ | rintro ⟨dq, osq⟩
    have hb9 := bl_trans hb8 (below_regrown w7 dq osq)
    generalize hgz : grow (redrawn w7 dq) osq = w9 at *
    clear q0 q1 q2 q3 q4 q5 al cv f1 f2 ch m1 m2 k1 k2 hgz
    go_wp2
    go_ret
    exact ⟨rfl, hb9⟩
end Go.Proofs.YtniheakafkakhaaDoor

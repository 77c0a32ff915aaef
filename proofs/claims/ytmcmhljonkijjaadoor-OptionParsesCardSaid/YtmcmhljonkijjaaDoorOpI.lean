/- option.Parse of the text of options -/
import Derived.Test.YtmcmhljonkijjaaDoorOpH
namespace Go.Proofs.YtmcmhljonkijjaaDoor
open Go.RowKit Go.Sort

theorem otext_facts : ∀ a0 a1 a2 a3 a4 a5 : Bool, oNone a0 a1 a2 a3 a4 a5 = false → (oTxt a0 a1 a2 a3 a4 a5 ≠ ⟨#[45]⟩ ∧ (oTxt a0 a1 a2 a3 a4 a5).size ≤ 60) ∧ Lib.splitB ⟨#[32]⟩ 0 (Lib.countB (oTxt a0 a1 a2 a3 a4 a5) ⟨#[32]⟩) (oTxt a0 a1 a2 a3 a4 a5) = oB a0 a1 a2 a3 a4 a5 6 ∧
    (oB a0 a1 a2 a3 a4 a5 6).length = Lib.countB (oTxt a0 a1 a2 a3 a4 a5) ⟨#[32]⟩ + 1 ∧ oFold [false, false, false, false, false, false] (oB a0 a1 a2 a3 a4 a5 6) = some [a0, a1, a2, a3, a4, a5] := by decide +kernel
set_option maxRecDepth 100000 in
set_option maxHeartbeats 800000 in
theorem oparse_none (w : World) : Calls Tryd.prog 33 #[.string ⟨#[45]⟩] w fun e w' => e = .returned (.tuple #[.agg #[.bool false, .bool false, .bool false, .bool false, .bool false, .bool false], .bool true]) ∧ Below w.heap.size w w' := by
  have z0 := Own.new w 50 #[.bool false, .bool false, .bool false, .bool false, .bool false, .bool false]
  have hb0 := bl_alloc (bl_refl w) (.cells #[.bool false, .bool false, .bool false, .bool false, .bool false, .bool false] 50)
  go_enter Tryd.func33, Tryd.ntmps33
  go_wp2_with (refine wpList_store_row rfl 50 _ _ rfl w.heap.size #[.bool false, .bool false, .bool false, .bool false, .bool false, .bool false] rfl rfl 50 #[.bool false, .bool false, .bool false, .bool false, .bool false, .bool false] z0 (op_info _ _ _ _ _ _) rfl (op_oneF _ _ _ _ _ _) ?_)
  exact bodyPost_ret (results_cell_tmp (p := 2) (t := 3) (fn := Tryd.f33) rfl _ _ w.heap.size 50 #[.bool false, .bool false, .bool false, .bool false, .bool false, .bool false] _ rfl z0.setRow op_desc rfl (op_info _ _ _ _ _ _)) rfl ⟨rfl, bl_setRow hb0 (Nat.le_refl _)⟩
set_option maxRecDepth 100000 in
set_option maxHeartbeats 1600000 in
theorem oparse_some (a0 a1 a2 a3 a4 a5 : Bool) (w : World) (m : Int) (hm : w.cell? ⟨4, 0, none⟩ = some (.int .i64 m)) (hz : oNone a0 a1 a2 a3 a4 a5 = false) :
    Calls Tryd.prog 33 #[.string (oTxt a0 a1 a2 a3 a4 a5)] w fun e w' => e = .returned (.tuple #[.agg #[.bool a0, .bool a1, .bool a2, .bool a3, .bool a4, .bool a5], .bool true]) ∧ Below w.heap.size w w' := by
  obtain ⟨⟨hne, hsz⟩, hsp, hct, hfo⟩ := otext_facts a0 a1 a2 a3 a4 a5 hz
  clear hz
  have HT := Lib.hid (fun W => otext_any a0 a1 a2 a3 a4 a5 W)
  have m1 : ¬ ((oTxt a0 a1 a2 a3 a4 a5).toList = [45]) := fun h => hne ((toList_iffO _ ⟨#[45]⟩).1 (h.trans (by rw [ByteArray.toList_eq])))
  have m2 : ((oTxt a0 a1 a2 a3 a4 a5).toList == [45]) = false := by simpa using m1
  clear hne
  have HLN := Lib.hid (show (oB a0 a1 a2 a3 a4 a5 6).length ≤ 1000000 from Nat.le_trans (oB_len a0 a1 a2 a3 a4 a5 6) (by decide))
  generalize oTxt a0 a1 a2 a3 a4 a5 = S at *
  generalize oB a0 a1 a2 a3 a4 a5 6 = N at *
  have z0 := Own.new w 50 #[.bool false, .bool false, .bool false, .bool false, .bool false, .bool false]
  have hb0 := bl_alloc (bl_refl w) (.cells #[.bool false, .bool false, .bool false, .bool false, .bool false, .bool false] 50)
  have hm0 := (hb0.cell (p := ⟨4, 0, none⟩) (World.block_lt_of_cell? w _ hm)).trans hm
  have HSP := Lib.hid hsp
  have HCT := Lib.hid hct
  have HFO := Lib.hid hfo
  have HM := Lib.hid hm0
  clear hsp hct hfo hm hm0
  go_enter Tryd.func33, Tryd.ntmps33
  go_wp2_with fail
  refine (Tryd.strings_Split S ⟨#[32]⟩ m _ (by omega) HM.out (by decide)).mono ?_
  rw [HSP.out, ← HCT.out]
  rintro e w1 ⟨rfl, rfl⟩
  have z1 := z0.alloc (.cells (N.map Value.string).toArray 9)
  have hb1 := bl_alloc hb0 (.cells (N.map Value.string).toArray 9)
  have oN := Own.new (w.alloc (.cells #[.bool false, .bool false, .bool false, .bool false, .bool false, .bool false] 50)) 9 (N.map Value.string).toArray
  rw [show (w.alloc (.cells #[.bool false, .bool false, .bool false, .bool false, .bool false, .bool false] 50)).heap.size = w.heap.size + 1 by simp] at oN
  have HN := Lib.hid (Shows.of_owned oN oN.lt)
  have hlen := HLN.out
  clear z0 hb0 oN
  go_wp2_with fail
  refine (oof_any _ _ _ N _ HN.out rfl hlen).mono ?_
  rw [HFO.out, show oOf (some [a0, a1, a2, a3, a4, a5]) = .tuple #[.agg #[.bool a0, .bool a1, .bool a2, .bool a3, .bool a4, .bool a5], .bool true] from rfl]
  rintro e w2 ⟨rfl, hb2⟩
  have z2 := z1.step hb2
  have hb3 := bl_trans hb1 hb2
  have z3 := z2.alloc (.cells #[.bool a0, .bool a1, .bool a2, .bool a3, .bool a4, .bool a5] 50)
  have hb4 := bl_alloc hb3 (.cells #[.bool a0, .bool a1, .bool a2, .bool a3, .bool a4, .bool a5] 50)
  have o3 := Own.new w2 50 #[.bool a0, .bool a1, .bool a2, .bool a3, .bool a4, .bool a5]
  have hlt2 := z2.lt
  clear z1 hb1 hb2 hb3 HN
  go_wp2_with fail
  refine (HT.out _).mono ?_
  rintro e w3 ⟨rfl, hb5⟩
  have z4 := z3.step hb5
  have o4 := o3.step hb5
  have hb6 := bl_trans hb4 hb5
  obtain ⟨e0, e1, e2, e3, e4, e5⟩ := op6_rowO o4
  clear z2 z3 o3 hb4 hb5
  go_wp2_with (refine wpList_store_row rfl 50 _ _ rfl w.heap.size #[.bool a0, .bool a1, .bool a2, .bool a3, .bool a4, .bool a5] rfl rfl 50 #[.bool false, .bool false, .bool false, .bool false, .bool false, .bool false] z4 (op_info _ _ _ _ _ _) rfl (op_oneF _ _ _ _ _ _) ?_)
  exact bodyPost_ret (results_cell_tmp (p := 2) (t := 3) (fn := Tryd.f33) rfl _ _ w.heap.size 50 #[.bool a0, .bool a1, .bool a2, .bool a3, .bool a4, .bool a5] _ rfl z4.setRow op_desc rfl (op_info _ _ _ _ _ _)) rfl ⟨rfl, bl_setRow hb6 (Nat.le_refl _)⟩
set_option maxRecDepth 100000 in
theorem oparse_text (a0 a1 a2 a3 a4 a5 : Bool) (w : World) (m : Int) (hm : w.cell? ⟨4, 0, none⟩ = some (.int .i64 m)) :
    Calls Tryd.prog 33 #[.string (oTxt a0 a1 a2 a3 a4 a5)] w fun e w' => e = .returned (.tuple #[.agg #[.bool a0, .bool a1, .bool a2, .bool a3, .bool a4, .bool a5], .bool true]) ∧ Below w.heap.size w w' := by
  cases hz : oNone a0 a1 a2 a3 a4 a5 with
  | true =>
    have h : a0 = false ∧ a1 = false ∧ a2 = false ∧ a3 = false ∧ a4 = false ∧ a5 = false := by unfold oNone at hz; simpa [and_assoc] using hz
    obtain ⟨rfl, rfl, rfl, rfl, rfl, rfl⟩ := h
    exact oparse_none w
  | false => exact oparse_some a0 a1 a2 a3 a4 a5 w m hm hz
end Go.Proofs.YtmcmhljonkijjaaDoor

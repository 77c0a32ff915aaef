/- NoticeNames: the walk -/
import Derived.Test.YtalmmddmdnkifaaDoorNtF
namespace Go.Proofs.YtalmmddmdnkifaaDoor
open Go.RowKit Go.Sort

theorem ba_empty (X : ByteArray) : X ++ ⟨#[]⟩ = X := by
  apply ByteArray.ext
  simp
theorem ntName_zero (c s : Int) : ∃ T, ntName c s = ntName c 0 ++ T := by
  unfold ntName
  split
  · rw [tail_none c.toNat 0 (by omega)]
    exact ⟨nameTail c.toNat s, by rw [show nameAt c.toNat 0 ++ b0 = nameAt c.toNat 0 from ba_empty _]⟩
  · exact ⟨b0, (ba_empty _).symm⟩
theorem ext_front (X T : ByteArray) : (X ++ T).extract 0 X.size = X := by
  apply ByteArray.ext
  rw [ByteArray.data_extract, ByteArray.data_append]
  show (X.data ++ T.data).extract 0 X.data.size = X.data
  simp
set_option maxRecDepth 100000 in
set_option maxHeartbeats 1600000 in
theorem ntnames_all (c s : Int) (w : World) (ht : Tens w) (hN : NNames w) :
    Calls Tryd.prog 6 #[.int .i64 c, .int .i64 s] w fun e w' => e = .returned (.bool true) ∧ Below w.heap.size w w' := by
  obtain ⟨T, hT⟩ := ntName_zero c s
  have hz := ntName_size c s
  have hE := Lib.hid (show (ntName c s).extract 0 (ntName c 0).size = ntName c 0 by rw [hT]; exact ext_front _ _)
  have hle : (ntName c 0).size ≤ (ntName c s).size := by rw [hT, ByteArray.size_append]; omega
  clear hT
  have p1 := Lib.hid (fun W hW => ntname_any c s W (hN.below (w' := W) hW))
  have p2 := Lib.hid (fun W hW => ntname_any c 0 W (hN.below (w' := W) hW))
  have p3 := Lib.hid (rntname_any c s)
  have p4 := Lib.hid (rntname_any c 0)
  generalize ntName c s = S at *
  generalize ntName c 0 = X at *
  go_enter Tryd.func6, Tryd.ntmps6
  go_wp2_with fail
  refine (p1.out _ (bl_refl w)).mono ?_
  rintro e w1 ⟨rfl, hb1⟩
  go_wp2_with fail
  refine (p2.out _ hb1).mono ?_
  rintro e w2 ⟨rfl, hb2⟩
  have hb3 := bl_trans hb1 hb2
  clear hb1 hb2 p1 p2
  go_wp2_with fail
  have a1 := Lib.hid (rg_of (w := w2) (fun W hW => alive18_any W (ht.below (bl_trans hb3 hW)) (hN.below (bl_trans hb3 hW))))
  have a2 := Lib.hid (rg_of (w := w2) (fun W _ => p3.out W))
  have a3 := Lib.hid (rg_of (w := w2) (fun W _ => p4.out W))
  refine wp_region_quiet_below (by kernel_rfl) (by kernel_rfl) ?_
  repeat (first | go_big_quiet_skip | (go_big_quiet_step (with_reducible first | exact a1.out _ _ | exact a2.out _ _ | exact a3.out _ _)))
  rw [hE.out, beq_self_eq_true]
  refine wpQuiet_nil ?_
  rintro _ ⟨⟨dq, osq⟩, rfl⟩
  have hb4 := bl_trans hb3 (below_regrown w2 dq osq)
  generalize grow (redrawn w2 dq) osq = w4 at *
  go_wp2
  go_ret
  exact ⟨rfl, hb4⟩
end Go.Proofs.YtalmmddmdnkifaaDoor

/- OptionTexts: the walk -/
import Derived.Test.YtaopinecidddkaaDoorOpI
import Derived.Test.YtaopinecidddkaaDoorOpJ
namespace Go.Proofs.YtaopinecidddkaaDoor
open Go.RowKit Go.Sort

set_option maxRecDepth 100000 in
set_option maxHeartbeats 3200000 in
theorem otexts_all (a0 a1 a2 a3 a4 a5 : Bool) (w : World) (m : Int) (hm : w.cell? ⟨5, 0, none⟩ = some (.int .i64 m)) :
    Calls Tryd.prog 5 #[.agg #[.bool a0, .bool a1, .bool a2, .bool a3, .bool a4, .bool a5]] w fun e w' => e = .returned (.bool true) ∧ Below w.heap.size w w' := by
  have hsame := op_same a0 a1 a2 a3 a4 a5
  have HT := Lib.hid (fun W => otext_any a0 a1 a2 a3 a4 a5 W)
  have HP := Lib.hid (fun W m hm => oparse_text a0 a1 a2 a3 a4 a5 W m hm)
  have HR := Lib.hid (fun W => rtext_any a0 a1 a2 a3 a4 a5 W)
  generalize oTxt a0 a1 a2 a3 a4 a5 = S at *
  have HM := Lib.hid hm
  have hlt5 := World.block_lt_of_cell? w _ hm
  have HL := Lib.hid hlt5
  clear hm hlt5
  have hb0 := bl_alloc (bl_refl w) (.cells #[.bool a0, .bool a1, .bool a2, .bool a3, .bool a4, .bool a5] 23)
  have p1 := Own.new w 23 #[.bool a0, .bool a1, .bool a2, .bool a3, .bool a4, .bool a5]
  go_enter Tryd.func5, Tryd.ntmps5
  go_wp2_with fail
  refine (HT.out _).mono ?_
  rintro e w1 ⟨rfl, hb1⟩
  have p2 := p1.step hb1
  have hb2 := bl_trans hb0 hb1
  have hm1 := (hb2.cell (p := ⟨5, 0, none⟩) HL.out).trans HM.out
  have HM1 := Lib.hid hm1
  clear p1 hb0 hb1 hm1
  go_wp2_with fail
  refine (HP.out _ m HM1.out).mono ?_
  rintro e w2 ⟨rfl, hb3⟩
  have q1 := (p2.step hb3).alloc (.cells #[.bool a0, .bool a1, .bool a2, .bool a3, .bool a4, .bool a5] 23)
  have q2 := Own.new w2 23 #[.bool a0, .bool a1, .bool a2, .bool a3, .bool a4, .bool a5]
  have hb4 := bl_alloc (bl_trans hb2 hb3) (.cells #[.bool a0, .bool a1, .bool a2, .bool a3, .bool a4, .bool a5] 23)
  clear p2 hb2 hb3
  go_wp2_with fail
  generalize hg2 : w2.heap.size = g2 at q2 ⊢
  generalize w2.alloc (.cells #[.bool a0, .bool a1, .bool a2, .bool a3, .bool a4, .bool a5] 23) = W at *
  clear hg2
  have c1 := Lib.hid (rg_of (w := W) (fun W _ => alive05_any W))
  have c2 := Lib.hid (rg_of (w := W) (fun W _ => HR.out W))
  have c3 := Lib.hid (rg_of (w := W) (fun W _ => ovalid_any a0 a1 a2 a3 a4 a5 W))
  have c4 := Lib.hid (rg_of (w := W) (fun W _ => rovalid_any a0 a1 a2 a3 a4 a5 W))
  have hvv : ((a3 || !a5) == (a3 || !a5)) = true := by simp
  refine wp_region_quiet_below (by kernel_rfl) (by kernel_rfl) ?_
  repeat (first
    | go_big_quiet_skip
    | (refine wpQuiet_load_row (by rfl) 23 _ rfl w.heap.size rfl 23 #[.bool a0, .bool a1, .bool a2, .bool a3, .bool a4, .bool a5] (.struct (Tryd.prog.fieldsOf 23)) q1.rg (by kernel_rfl) rfl (op_info _ _ _ _ _ _) ?_; go_simp)
    | (refine wpQuiet_load_row (by rfl) 23 _ rfl g2 rfl 23 #[.bool a0, .bool a1, .bool a2, .bool a3, .bool a4, .bool a5] (.struct (Tryd.prog.fieldsOf 23)) q2.rg (by kernel_rfl) rfl (op_info _ _ _ _ _ _) ?_; go_simp)
    | go_big_quiet_step (with_reducible first | exact c1.out _ _ | exact c2.out _ _ | exact c3.out _ _ | exact c4.out _ _))
  refine wpQuiet_nil ?_
  first | rintro _ ⟨⟨dq, osq⟩, rfl⟩ | rintro ⟨dq, osq⟩
  have hb5 := bl_trans hb4 (below_regrown W dq osq)
  generalize grow (redrawn W dq) osq = w4 at *
  go_wp2
  go_ret
  exact ⟨rfl, hb5⟩
end Go.Proofs.YtaopinecidddkaaDoor

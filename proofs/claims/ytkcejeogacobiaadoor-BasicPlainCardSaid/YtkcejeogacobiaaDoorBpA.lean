/- BasicPlain: the walk -/
import Derived.Test.YtkcejeogacobiaaDoorFew
import Derived.Test.YtkcejeogacobiaaDoorBsG
import Derived.Test.YtkcejeogacobiaaDoorBsJ
import Derived.Test.YtkcejeogacobiaaDoorAdr
namespace Go.Proofs.YtkcejeogacobiaaDoor
open Go.RowKit Go.Sort

set_option maxRecDepth 100000 in
set_option maxHeartbeats 3200000 in
theorem bplain_walk (a : At) (A : Option Addr) (n c : Nat) (ls : List Int) (w : World) (ht : Tens w) (hin : AtIn w a) (hl : U32s w w.heap.size A n ls) (hm : n ≤ maxLen) :
    Calls Tryd.prog 5 #[.agg (atc a), .slice A n c] w fun e w' => e = .returned (.bool true) ∧ Below w.heap.size w w' := by
  have HM := Lib.hid hm
  unfold maxLen at hm
  obtain ⟨_, hN, _, _, ⟨g1, g2, ss, g3⟩, _⟩ := hin
  have hS := Lib.hid (fun (W : World) (h : Below w.heap.size w W) => small07_any a ss W ((g3.below h).more h.size) (Nat.le_trans g1 g2))
  have hP := Lib.hid (fun (W : World) (h : Below w.heap.size w W) => plain_any a A n c ls W ((hl.below h).more h.size) HM.out)
  have hR := Lib.hid (fun (W : World) (h : Below w.heap.size w W) => rplain_any a A n c ls W ((hl.below h).more h.size) HM.out)
  have hA := Lib.hid (fun (W : World) (h : Below w.heap.size w W) => badr_any a.N hN.1 hN.2 W (ht.below h))
  have hB := Lib.hid (fun (W : World) => rbadr_any a.N hN.1 hN.2 W)
  generalize smallB a ss = S at *
  generalize plB a ls = V at *
  generalize adrB a.N = D at *
  clear hN g1 g2 g3 hl ht HM
  obtain ⟨k, p, N, M, A1, n1, c1, A2, n2, c2, A3, n3, c3, f, A4, n4, c4⟩ := a
  unfold atc at *
  dsimp only at *
  have hb0 := bl_alloc (bl_refl w) (.cells #[.int .i64 k, .bool p, .int .u32 N, .int .u32 M, .slice A1 n1 c1, .slice A2 n2 c2, .slice A3 n3 c3, .int .i64 f, .slice A4 n4 c4] 29)
  have o0 := Own.new w 29 #[.int .i64 k, .bool p, .int .u32 N, .int .u32 M, .slice A1 n1 c1, .slice A2 n2 c2, .slice A3 n3 c3, .int .i64 f, .slice A4 n4 c4]
  by_cases h20 : 20 < n
  · have d : decide ((20 : Int) < (n : Int)) = true := by simp; omega
    cases S
    all_goals
      go_enter Tryd.func5, Tryd.ntmps5
      go_wp2_with fail
      refine (hS.out _ hb0).mono ?_
      rintro e w1 ⟨rfl, hb1⟩
      have hb2 := bl_trans hb0 hb1
      go_wp2_with fail
      refine (alive07_any _).mono ?_
      rintro e w2 ⟨rfl, hb3⟩
      go_wp2
      go_ret
      exact ⟨rfl, bl_trans hb2 hb3⟩
  · have d : decide ((20 : Int) < (n : Int)) = false := by simp; omega
    cases S
    · go_enter Tryd.func5, Tryd.ntmps5
      go_wp2_with fail
      refine (hS.out _ hb0).mono ?_
      rintro e w1 ⟨rfl, hb1⟩
      have hb2 := bl_trans hb0 hb1
      go_wp2_with fail
      refine (alive07_any _).mono ?_
      rintro e w2 ⟨rfl, hb3⟩
      go_wp2
      go_ret
      exact ⟨rfl, bl_trans hb2 hb3⟩
    · go_enter Tryd.func5, Tryd.ntmps5
      go_wp2_with fail
      refine (hS.out _ hb0).mono ?_
      rintro e w1 ⟨rfl, hb1⟩
      have o1 := o0.step hb1
      have hb2 := bl_trans hb0 hb1
      clear hb0 hb1 o0 h20
      go_wp2_with fail
      have al := Lib.hid (rg_of (w := w1) (v := .bool true) (fun W _ => alive07_any W))
      have pl := Lib.hid (rg_of (w := w1) (v := .bool V) (fun W hW => hP.out W (bl_trans hb2 hW)))
      have rp := Lib.hid (rg_of (w := w1) (v := .bool V) (fun W hW => hR.out W (bl_trans hb2 hW)))
      have ba := Lib.hid (rg_of (w := w1) (v := .string D) (fun W hW => hA.out W (bl_trans hb2 hW)))
      have rb := Lib.hid (rg_of (w := w1) (v := .string D) (fun W _ => hB.out W))
      have q2 := cell_regrown (at_cells o1).2.2.1
      refine wp_region_quiet_below (by kernel_rfl) (by kernel_rfl) ?_
      repeat (first
        | go_big_quiet_skip
        | (refine wpQuiet_load_row (by rfl) 29 _ rfl w.heap.size rfl 29 #[.int .i64 k, .bool p, .int .u32 N, .int .u32 M, .slice A1 n1 c1, .slice A2 n2 c2, .slice A3 n3 c3, .int .i64 f, .slice A4 n4 c4] (.struct (Tryd.prog.fieldsOf 29)) o1.rg (by kernel_rfl) rfl (at_info9 _ _ _ _ _ _ _ _ _) ?_; go_simp)
        | go_big_quiet_step (with_reducible first | exact al.out _ _ | exact pl.out _ _ | exact rp.out _ _ | exact ba.out _ _ | exact rb.out _ _))
      refine wpQuiet_nil ?_
      first | rintro _ ⟨⟨dq, osq⟩, rfl⟩ | rintro ⟨dq, osq⟩
      have hg := below_regrown w1 dq osq
      have hb3 := bl_trans hb2 hg
      generalize grow (redrawn w1 dq) osq = w3 at *
      go_wp2
      go_ret
      exact ⟨ret_boolA (by simp), hb3⟩
end Go.Proofs.YtkcejeogacobiaaDoor

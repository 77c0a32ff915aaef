/- OptionBoth: the walk -/
import Derived.Test.YtaopinecidddkaaOpB
import Derived.Test.YtaopinecidddkaaOpC
namespace Go.Proofs.Ytaopinecidddkaa
open Go.RowKit Go.Sort

set_option maxRecDepth 100000 in
set_option maxHeartbeats 3200000 in
theorem obl_core (a0 a1 a2 a3 a4 a5 b0 b1 b2 b3 b4 b5 o0 o1 o2 o3 o4 o5 d0 d1 d2 d3 d4 d5 q : Bool) (w : World)
    (hO : Hid (∀ W, Calls Try.prog 28 #[.agg #[.bool a0, .bool a1, .bool a2, .bool a3, .bool a4, .bool a5], .agg #[.bool b0, .bool b1, .bool b2, .bool b3, .bool b4, .bool b5]] W fun e w' => e = .returned (.agg #[.bool o0, .bool o1, .bool o2, .bool o3, .bool o4, .bool o5]) ∧ Below W.heap.size W w'))
    (hR : Hid (∀ W, Calls Try.prog 29 #[.agg #[.bool a0, .bool a1, .bool a2, .bool a3, .bool a4, .bool a5], .agg #[.bool b0, .bool b1, .bool b2, .bool b3, .bool b4, .bool b5]] W fun e w' => e = .returned (.agg #[.bool o0, .bool o1, .bool o2, .bool o3, .bool o4, .bool o5]) ∧ Below W.heap.size W w'))
    (hB : Hid (∀ W, Calls Try.prog 28 #[.agg #[.bool b0, .bool b1, .bool b2, .bool b3, .bool b4, .bool b5], .agg #[.bool a0, .bool a1, .bool a2, .bool a3, .bool a4, .bool a5]] W fun e w' => e = .returned (.agg #[.bool o0, .bool o1, .bool o2, .bool o3, .bool o4, .bool o5]) ∧ Below W.heap.size W w'))
    (hV : Hid (∀ W, Calls Try.prog 30 #[.agg #[.bool o0, .bool o1, .bool o2, .bool o3, .bool o4, .bool o5]] W fun e w' => e = .returned (.bool true) ∧ Below W.heap.size W w'))
    (hA : Hid (∀ W, Calls Try.prog 28 #[.agg #[.bool o0, .bool o1, .bool o2, .bool o3, .bool o4, .bool o5], .agg #[.bool a0, .bool a1, .bool a2, .bool a3, .bool a4, .bool a5]] W fun e w' => e = .returned (.agg #[.bool o0, .bool o1, .bool o2, .bool o3, .bool o4, .bool o5]) ∧ Below W.heap.size W w'))
    (hD : Hid (∀ W, Calls Try.prog 28 #[.agg #[.bool a0, .bool a1, .bool a2, .bool a3, .bool a4, .bool a5], .agg #[.bool a0, .bool a1, .bool a2, .bool a3, .bool a4, .bool a5]] W fun e w' => e = .returned (.agg #[.bool d0, .bool d1, .bool d2, .bool d3, .bool d4, .bool d5]) ∧ Below W.heap.size W w'))
    (hW : Hid (∀ W, Calls Try.prog 31 #[.agg #[.bool a0, .bool a1, .bool a2, .bool a3, .bool a4, .bool a5]] W fun e w' => e = .returned (.bool q) ∧ Below W.heap.size W w'))
    (heq : ∀ W, (binOp .eql 43 (.agg #[.bool d0, .bool d1, .bool d2, .bool d3, .bool d4, .bool d5]) (.agg #[.bool a0, .bool a1, .bool a2, .bool a3, .bool a4, .bool a5])).run Try.prog W = Result.ok (.bool q) W) :
    Calls Try.prog 7 #[.agg #[.bool a0, .bool a1, .bool a2, .bool a3, .bool a4, .bool a5], .agg #[.bool b0, .bool b1, .bool b2, .bool b3, .bool b4, .bool b5]] w fun e w' => e = .returned (.bool true) ∧ Below w.heap.size w w' := by
  have hsame := op_same o0 o1 o2 o3 o4 o5
  have hqq : (q == q) = true := by simp
  have hb0 := bl_alloc (bl_alloc (bl_refl w) (.cells #[.bool a0, .bool a1, .bool a2, .bool a3, .bool a4, .bool a5] 43)) (.cells #[.bool b0, .bool b1, .bool b2, .bool b3, .bool b4, .bool b5] 43)
  have p1 := (Own.new w 43 #[.bool a0, .bool a1, .bool a2, .bool a3, .bool a4, .bool a5]).alloc (.cells #[.bool b0, .bool b1, .bool b2, .bool b3, .bool b4, .bool b5] 43)
  have p2 := Own.new (w.alloc (.cells #[.bool a0, .bool a1, .bool a2, .bool a3, .bool a4, .bool a5] 43)) 43 #[.bool b0, .bool b1, .bool b2, .bool b3, .bool b4, .bool b5]
  rw [show (w.alloc (.cells #[.bool a0, .bool a1, .bool a2, .bool a3, .bool a4, .bool a5] 43)).heap.size = w.heap.size + 1 by simp] at p2
  go_enter Try.func7, Try.ntmps7
  go_wp2_with fail
  refine (hO.out _).mono ?_
  rintro e w1 ⟨rfl, hb1⟩
  have q1 := (p1.step hb1).alloc (.cells #[.bool o0, .bool o1, .bool o2, .bool o3, .bool o4, .bool o5] 43)
  have q2 := (p2.step hb1).alloc (.cells #[.bool o0, .bool o1, .bool o2, .bool o3, .bool o4, .bool o5] 43)
  have q3 := Own.new w1 43 #[.bool o0, .bool o1, .bool o2, .bool o3, .bool o4, .bool o5]
  have hb2 := bl_alloc (bl_trans hb0 hb1) (.cells #[.bool o0, .bool o1, .bool o2, .bool o3, .bool o4, .bool o5] 43)
  clear p1 p2 hb0 hb1
  go_wp2_with fail
  generalize hg2 : w.heap.size + 1 = g2 at q2 ⊢
  generalize hg3 : w1.heap.size = g3 at q3 ⊢
  generalize w1.alloc (.cells #[.bool o0, .bool o1, .bool o2, .bool o3, .bool o4, .bool o5] 43) = W at *
  clear hg2 hg3
  have c1 := Lib.hid (rg_of (w := W) (fun W _ => alive05_any W))
  have c2 := Lib.hid (rg_of (w := W) (fun W _ => hR.out W))
  have c3 := Lib.hid (rg_of (w := W) (fun W _ => hB.out W))
  have c4 := Lib.hid (rg_of (w := W) (fun W _ => hV.out W))
  have c5 := Lib.hid (rg_of (w := W) (fun W _ => hA.out W))
  have c6 := Lib.hid (rg_of (w := W) (fun W _ => hD.out W))
  have c7 := Lib.hid (rg_of (w := W) (fun W _ => hW.out W))
  refine wp_region_quiet_below (by kernel_rfl) (by kernel_rfl) ?_
  repeat (first
    | go_big_quiet_skip
    | (refine wpQuiet_load_row (by rfl) 43 _ rfl w.heap.size rfl 43 #[.bool a0, .bool a1, .bool a2, .bool a3, .bool a4, .bool a5] (.struct (Try.prog.fieldsOf 43)) q1.rg (by kernel_rfl) rfl (op_info _ _ _ _ _ _) ?_; go_simp)
    | (refine wpQuiet_load_row (by rfl) 43 _ rfl g2 rfl 43 #[.bool b0, .bool b1, .bool b2, .bool b3, .bool b4, .bool b5] (.struct (Try.prog.fieldsOf 43)) q2.rg (by kernel_rfl) rfl (op_info _ _ _ _ _ _) ?_; go_simp)
    | (refine wpQuiet_load_row (by rfl) 43 _ rfl g3 rfl 43 #[.bool o0, .bool o1, .bool o2, .bool o3, .bool o4, .bool o5] (.struct (Try.prog.fieldsOf 43)) q3.rg (by kernel_rfl) rfl (op_info _ _ _ _ _ _) ?_; go_simp)
    | go_big_quiet_step (with_reducible first | exact c1.out _ _ | exact c2.out _ _ | exact c3.out _ _ | exact c4.out _ _ | exact c5.out _ _ | exact c6.out _ _ | exact c7.out _ _))
  refine wpQuiet_nil ?_
  first | rintro _ ⟨⟨dq, osq⟩, rfl⟩ | rintro ⟨dq, osq⟩
  have hb3 := bl_trans hb2 (below_regrown W dq osq)
  generalize grow (redrawn W dq) osq = w4 at *
  go_wp2
  go_ret
  exact ⟨rfl, hb3⟩
set_option maxRecDepth 100000 in
theorem agg_eq {x y : Array Value} (h : x = y) {f : FuncId} {args : Array Value} {W : World} (c : Calls Try.prog f args W fun e w' => e = .returned (.agg x) ∧ Below W.heap.size W w') : Calls Try.prog f args W fun e w' => e = .returned (.agg y) ∧ Below W.heap.size W w' := by rw [← h]; exact c
set_option maxRecDepth 100000 in
theorem obl_walk (a0 a1 a2 a3 a4 a5 b0 b1 b2 b3 b4 b5 : Bool) (w : World) :
    Calls Try.prog 7 #[.agg #[.bool a0, .bool a1, .bool a2, .bool a3, .bool a4, .bool a5], .agg #[.bool b0, .bool b1, .bool b2, .bool b3, .bool b4, .bool b5]] w fun e w' => e = .returned (.bool true) ∧ Below w.heap.size w w' := by
  refine obl_core a0 a1 a2 a3 a4 a5 b0 b1 b2 b3 b4 b5 (a0 && b0) (a1 && b1) (a2 && b2) (a3 && b3) (a4 && b4) ((a5 && b5) && (a3 && b3)) a0 a1 a2 a3 a4 (a5 && a3) (a3 || !a5) w ?_ ?_ ?_ ?_ ?_ ?_ ?_ ?_
  · exact Lib.hid (fun W => oboth_any a0 a1 a2 a3 a4 a5 b0 b1 b2 b3 b4 b5 W)
  · exact Lib.hid (fun W => roboth_any a0 a1 a2 a3 a4 a5 b0 b1 b2 b3 b4 b5 W)
  · exact Lib.hid (fun W => agg_eq (by unfold bothV; cases a0 <;> cases a1 <;> cases a2 <;> cases a3 <;> cases a4 <;> cases a5 <;> simp) (oboth_any b0 b1 b2 b3 b4 b5 a0 a1 a2 a3 a4 a5 W))
  · exact Lib.hid (fun W => (ovalid_any (a0 && b0) (a1 && b1) (a2 && b2) (a3 && b3) (a4 && b4) ((a5 && b5) && (a3 && b3)) W).mono (fun e w' h => ⟨by rw [h.1]; cases a3 <;> cases b3 <;> simp, h.2⟩))
  · exact Lib.hid (fun W => agg_eq (by unfold bothV; cases a0 <;> cases a1 <;> cases a2 <;> cases a3 <;> cases a4 <;> cases a5 <;> simp) (oboth_any (a0 && b0) (a1 && b1) (a2 && b2) (a3 && b3) (a4 && b4) ((a5 && b5) && (a3 && b3)) a0 a1 a2 a3 a4 a5 W))
  · exact Lib.hid (fun W => agg_eq (by unfold bothV; cases a0 <;> cases a1 <;> cases a2 <;> cases a3 <;> cases a4 <;> cases a5 <;> simp) (oboth_any a0 a1 a2 a3 a4 a5 a0 a1 a2 a3 a4 a5 W))
  · exact Lib.hid (fun W => rovalid_any a0 a1 a2 a3 a4 a5 W)
  · intro W
    rw [op_eql]
    cases a3 <;> cases a5 <;> simp
end Go.Proofs.Ytaopinecidddkaa

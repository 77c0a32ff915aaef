/- peerageref12.Valid -/
import Derived.Test.YtmlmgjdjbpipcaaDoorMpB
namespace Go.Proofs.YtmlmgjdjbpipcaaDoor
open Go.RowKit Go.Sort

abbrev o6c (a0 a1 a2 a3 a4 a5 : Bool) : Array Value := #[.bool a0, .bool a1, .bool a2, .bool a3, .bool a4, .bool a5]
set_option maxRecDepth 100000 in
theorem quiet_of {w : World} {v : Value} {f : FuncId} {args : Array Value} (h : ∀ W, Calls Tryd.prog f args W fun e w' => e = .returned v ∧ W = w') (d : Nat) (os : Array Obj) :
    Calls Tryd.prog f args (grow (redrawn w d) os) fun e w'' => e = .returned v ∧ ∃ p : Regrown, w'' = grow (redrawn w p.d) p.os := rg_of (fun W _ => (h W).mono (fun _ _ hh => ⟨hh.1, by rw [← hh.2]; exact bl_refl _⟩)) d os
def rmvB (a2 a3 a4 a5 : Bool) (a : At) (rs : List Rt) : Bool := famB a2 a3 a.f && shB (famB a4 a5 a.f) a rs
set_option maxRecDepth 100000 in
set_option maxHeartbeats 3200000 in
theorem rmvalid_any (a0 a1 a2 a3 a4 a5 : Bool) (a : At) (rs : List Rt) (w : World) (hr : Routes w w.heap.size a.A4 a.n4 rs) (hn : a.n4 ≤ 1000000000) :
    Calls Tryd.prog 12 #[.agg #[.bool a0, .bool a1, .bool a2, .bool a3, .bool a4, .bool a5], .agg (atc a)] w fun e w' => e = .returned (.bool (rmvB a2 a3 a4 a5 a rs)) ∧ Below w.heap.size w w' := by
  have hV : Hid (rmvB a2 a3 a4 a5 a rs = (famB a2 a3 a.f && shB (famB a4 a5 a.f) a rs)) := Lib.hid rfl
  have b1 := bl_alloc (bl_alloc (bl_refl w) (.cells #[.bool a0, .bool a1, .bool a2, .bool a3, .bool a4, .bool a5] 23)) (.cells (atc a) 30)
  have o1 := (Own.new w 23 #[.bool a0, .bool a1, .bool a2, .bool a3, .bool a4, .bool a5]).alloc (.cells (atc a) 30)
  have o2 := Own.new (w.alloc (.cells #[.bool a0, .bool a1, .bool a2, .bool a3, .bool a4, .bool a5] 23)) 30 (atc a)
  rw [show (w.alloc (.cells #[.bool a0, .bool a1, .bool a2, .bool a3, .bool a4, .bool a5] 23)).heap.size = w.heap.size + 1 by simp] at o2
  have h1 := Lib.hid (rmp_any a0 a1 a2 a3 a4 a5 a.f)
  have h2 := Lib.hid (radd_any a0 a1 a2 a3 a4 a5 a.f)
  have h3 := Lib.hid (fun (W : World) (hW : Below w.heap.size w W) => rshaped_any (famB a4 a5 a.f) a rs W ((hr.below hW).more hW.size) hn)
  generalize rmvB a2 a3 a4 a5 a rs = V at *
  generalize shB (famB a4 a5 a.f) a rs = S at *
  generalize famB a4 a5 a.f = D at *
  generalize famB a2 a3 a.f = Q at *
  obtain ⟨k, p, N, M, A1, n1, c1, A2, n2, c2, A3, n3, c3, f, A4, n4, c4⟩ := a
  unfold atc at *
  dsimp only at *
  clear hr
  go_enter Tryd.func12, Tryd.ntmps12
  go_wp2_with fail
  generalize (w.alloc (.cells #[.bool a0, .bool a1, .bool a2, .bool a3, .bool a4, .bool a5] 23)).alloc (.cells #[.int .i64 k, .bool p, .int .u32 N, .int .u32 M, .slice A1 n1 c1, .slice A2 n2 c2, .slice A3 n3 c3, .int .i64 f, .slice A4 n4 c4] 30) = W at *
  have q7 := cell_regrown (o2.cell (i := 7) (v := .int .i64 f) rfl)
  have r1 := Lib.hid (rg_of (w := W) (fun W' _ => h1.out W'))
  have r2 := Lib.hid (rg_of (w := W) (fun W' _ => h2.out W'))
  have r3 := Lib.hid (rg_of (w := W) (fun W' hW => h3.out W' (bl_trans b1 hW)))
  cases Q
  all_goals
    refine wp_region_quiet_below (by kernel_rfl) (by kernel_rfl) ?_
    repeat (first
      | go_big_quiet_skip
      | (refine wpQuiet_load_row (by rfl) 23 _ rfl w.heap.size rfl 23 #[.bool a0, .bool a1, .bool a2, .bool a3, .bool a4, .bool a5] (.struct (Tryd.prog.fieldsOf 23)) o1.rg (by kernel_rfl) rfl (by kernel_rfl) ?_; go_simp)
      | (refine wpQuiet_load_row (by rfl) 30 _ rfl (w.heap.size + 1) rfl 30 #[.int .i64 k, .bool p, .int .u32 N, .int .u32 M, .slice A1 n1 c1, .slice A2 n2 c2, .slice A3 n3 c3, .int .i64 f, .slice A4 n4 c4] (.struct (Tryd.prog.fieldsOf 30)) o2.rg (by kernel_rfl) rfl (by kernel_rfl) ?_; go_simp)
      | go_big_quiet_step (with_reducible first | exact r1.out _ _ | exact r2.out _ _ | exact r3.out _ _))
    refine wpQuiet_nil ?_
    first | rintro w' ⟨⟨dq, osq⟩, rfl⟩ | rintro ⟨dq, osq⟩
    have hb3 := bl_trans b1 (below_regrown W dq osq)
    generalize grow (redrawn W dq) osq = W3 at *
    clear r1 r2 r3 q7 o1 o2
    go_wp2
    go_ret
    exact ⟨ret_boolM (by rw [hV.out]; rfl), hb3⟩
end Go.Proofs.YtmlmgjdjbpipcaaDoor

/- BasicApart: the walk -/
import Derived.Test.YtkcejeogacobiaaDoorBfA
import Derived.Test.YtkcejeogacobiaaDoorFew
import Derived.Test.YtkcejeogacobiaaDoorRgS
namespace Go.Proofs.YtkcejeogacobiaaDoor
open Go.RowKit Go.Sort

set_option maxRecDepth 100000 in
set_option maxHeartbeats 1600000 in
theorem bapart_e1 (SB VA VB : Bool) (a b : At) (w : World)
    (hS : Hid (∀ W, Below w.heap.size w W → Calls Tryd.prog 22 #[.agg (atc a)] W fun e w' => e = .returned (.bool false) ∧ Below W.heap.size W w'))
    (hS' : Hid (∀ W, Below w.heap.size w W → Calls Tryd.prog 22 #[.agg (atc b)] W fun e w' => e = .returned (.bool SB) ∧ Below W.heap.size W w'))
    (hV : Hid (∀ W, Calls Tryd.prog 26 #[.agg (atc a)] W fun e w' => e = .returned (.bool VA) ∧ Below W.heap.size W w'))
    (hV' : Hid (∀ W, Calls Tryd.prog 26 #[.agg (atc b)] W fun e w' => e = .returned (.bool VB) ∧ Below W.heap.size W w')) :
    Calls Tryd.prog 6 #[.agg (atc a), .agg (atc b)] w fun e w' => e = .returned (.bool true) ∧ Below w.heap.size w w' := by
  obtain ⟨k, p, N, M, A1, n1, c1, A2, n2, c2, A3, n3, c3, f, A4, n4, c4⟩ := a
  obtain ⟨k', p', N', M', B1, m1, d1, B2, m2, d2, B3, m3, d3, f', B4, m4, d4⟩ := b
  unfold atc at *
  dsimp only at *
  have hb0 := bl_alloc (bl_alloc (bl_refl w) (.cells #[.int .i64 k, .bool p, .int .u32 N, .int .u32 M, .slice A1 n1 c1, .slice A2 n2 c2, .slice A3 n3 c3, .int .i64 f, .slice A4 n4 c4] 29)) (.cells #[.int .i64 k', .bool p', .int .u32 N', .int .u32 M', .slice B1 m1 d1, .slice B2 m2 d2, .slice B3 m3 d3, .int .i64 f', .slice B4 m4 d4] 29)
  have o1 := (Own.new w 29 #[.int .i64 k, .bool p, .int .u32 N, .int .u32 M, .slice A1 n1 c1, .slice A2 n2 c2, .slice A3 n3 c3, .int .i64 f, .slice A4 n4 c4]).alloc (.cells #[.int .i64 k', .bool p', .int .u32 N', .int .u32 M', .slice B1 m1 d1, .slice B2 m2 d2, .slice B3 m3 d3, .int .i64 f', .slice B4 m4 d4] 29)
  have o2 := Own.new (w.alloc (.cells #[.int .i64 k, .bool p, .int .u32 N, .int .u32 M, .slice A1 n1 c1, .slice A2 n2 c2, .slice A3 n3 c3, .int .i64 f, .slice A4 n4 c4] 29)) 29 #[.int .i64 k', .bool p', .int .u32 N', .int .u32 M', .slice B1 m1 d1, .slice B2 m2 d2, .slice B3 m3 d3, .int .i64 f', .slice B4 m4 d4]
  rw [show (w.alloc (.cells #[.int .i64 k, .bool p, .int .u32 N, .int .u32 M, .slice A1 n1 c1, .slice A2 n2 c2, .slice A3 n3 c3, .int .i64 f, .slice A4 n4 c4] 29)).heap.size = w.heap.size + 1 by simp] at o2
  go_enter Tryd.func6, Tryd.ntmps6
  go_wp2_with fail
  refine (hS.out _ hb0).mono ?_
  rintro e w1 ⟨rfl, hq⟩
  have p1 := o1.step hq
  have q1 := o2.step hq
  have hb1 := bl_trans hb0 hq
  clear hq hb0 o1 o2
  go_wp2_with fail
  refine (alive07_any _).mono ?_
  rintro e w9 ⟨rfl, hb9⟩
  go_wp2
  go_ret
  exact ⟨rfl, bl_trans hb1 hb9⟩
set_option maxRecDepth 100000 in
set_option maxHeartbeats 1600000 in
theorem bapart_e2 (VA VB : Bool) (a b : At) (w : World)
    (hS : Hid (∀ W, Below w.heap.size w W → Calls Tryd.prog 22 #[.agg (atc a)] W fun e w' => e = .returned (.bool true) ∧ Below W.heap.size W w'))
    (hS' : Hid (∀ W, Below w.heap.size w W → Calls Tryd.prog 22 #[.agg (atc b)] W fun e w' => e = .returned (.bool false) ∧ Below W.heap.size W w'))
    (hV : Hid (∀ W, Calls Tryd.prog 26 #[.agg (atc a)] W fun e w' => e = .returned (.bool VA) ∧ Below W.heap.size W w'))
    (hV' : Hid (∀ W, Calls Tryd.prog 26 #[.agg (atc b)] W fun e w' => e = .returned (.bool VB) ∧ Below W.heap.size W w')) :
    Calls Tryd.prog 6 #[.agg (atc a), .agg (atc b)] w fun e w' => e = .returned (.bool true) ∧ Below w.heap.size w w' := by
  obtain ⟨k, p, N, M, A1, n1, c1, A2, n2, c2, A3, n3, c3, f, A4, n4, c4⟩ := a
  obtain ⟨k', p', N', M', B1, m1, d1, B2, m2, d2, B3, m3, d3, f', B4, m4, d4⟩ := b
  unfold atc at *
  dsimp only at *
  have hb0 := bl_alloc (bl_alloc (bl_refl w) (.cells #[.int .i64 k, .bool p, .int .u32 N, .int .u32 M, .slice A1 n1 c1, .slice A2 n2 c2, .slice A3 n3 c3, .int .i64 f, .slice A4 n4 c4] 29)) (.cells #[.int .i64 k', .bool p', .int .u32 N', .int .u32 M', .slice B1 m1 d1, .slice B2 m2 d2, .slice B3 m3 d3, .int .i64 f', .slice B4 m4 d4] 29)
  have o1 := (Own.new w 29 #[.int .i64 k, .bool p, .int .u32 N, .int .u32 M, .slice A1 n1 c1, .slice A2 n2 c2, .slice A3 n3 c3, .int .i64 f, .slice A4 n4 c4]).alloc (.cells #[.int .i64 k', .bool p', .int .u32 N', .int .u32 M', .slice B1 m1 d1, .slice B2 m2 d2, .slice B3 m3 d3, .int .i64 f', .slice B4 m4 d4] 29)
  have o2 := Own.new (w.alloc (.cells #[.int .i64 k, .bool p, .int .u32 N, .int .u32 M, .slice A1 n1 c1, .slice A2 n2 c2, .slice A3 n3 c3, .int .i64 f, .slice A4 n4 c4] 29)) 29 #[.int .i64 k', .bool p', .int .u32 N', .int .u32 M', .slice B1 m1 d1, .slice B2 m2 d2, .slice B3 m3 d3, .int .i64 f', .slice B4 m4 d4]
  rw [show (w.alloc (.cells #[.int .i64 k, .bool p, .int .u32 N, .int .u32 M, .slice A1 n1 c1, .slice A2 n2 c2, .slice A3 n3 c3, .int .i64 f, .slice A4 n4 c4] 29)).heap.size = w.heap.size + 1 by simp] at o2
  go_enter Tryd.func6, Tryd.ntmps6
  go_wp2_with fail
  refine (hS.out _ hb0).mono ?_
  rintro e w1 ⟨rfl, hq⟩
  have p1 := o1.step hq
  have q1 := o2.step hq
  have hb1 := bl_trans hb0 hq
  clear hq hb0 o1 o2
  obtain ⟨e0, e1, e2, e3, e4, e5, e6, e7, e8⟩ := at_cells p1
  obtain ⟨f0, f1, f2, f3, f4, f5, f6, f7, f8⟩ := at_cells q1
  go_wp2_with fail
  refine (hS'.out _ hb1).mono ?_
  rintro e w2 ⟨rfl, hq⟩
  have p2 := p1.step hq
  have q2 := q1.step hq
  have hb2 := bl_trans hb1 hq
  clear hq hb1 p1 q1
  clear e0 e1 e2 e3 e4 e5 e6 e7 e8 f0 f1 f2 f3 f4 f5 f6 f7 f8
  go_wp2_with fail
  refine (alive07_any _).mono ?_
  rintro e w9 ⟨rfl, hb9⟩
  go_wp2
  go_ret
  exact ⟨rfl, bl_trans hb2 hb9⟩
set_option maxRecDepth 100000 in
set_option maxHeartbeats 1600000 in
theorem bapart_e3 (VB : Bool) (a b : At) (w : World)
    (hS : Hid (∀ W, Below w.heap.size w W → Calls Tryd.prog 22 #[.agg (atc a)] W fun e w' => e = .returned (.bool true) ∧ Below W.heap.size W w'))
    (hS' : Hid (∀ W, Below w.heap.size w W → Calls Tryd.prog 22 #[.agg (atc b)] W fun e w' => e = .returned (.bool true) ∧ Below W.heap.size W w'))
    (hV : Hid (∀ W, Calls Tryd.prog 26 #[.agg (atc a)] W fun e w' => e = .returned (.bool false) ∧ Below W.heap.size W w'))
    (hV' : Hid (∀ W, Calls Tryd.prog 26 #[.agg (atc b)] W fun e w' => e = .returned (.bool VB) ∧ Below W.heap.size W w')) :
    Calls Tryd.prog 6 #[.agg (atc a), .agg (atc b)] w fun e w' => e = .returned (.bool true) ∧ Below w.heap.size w w' := by
  obtain ⟨k, p, N, M, A1, n1, c1, A2, n2, c2, A3, n3, c3, f, A4, n4, c4⟩ := a
  obtain ⟨k', p', N', M', B1, m1, d1, B2, m2, d2, B3, m3, d3, f', B4, m4, d4⟩ := b
  unfold atc at *
  dsimp only at *
  have hb0 := bl_alloc (bl_alloc (bl_refl w) (.cells #[.int .i64 k, .bool p, .int .u32 N, .int .u32 M, .slice A1 n1 c1, .slice A2 n2 c2, .slice A3 n3 c3, .int .i64 f, .slice A4 n4 c4] 29)) (.cells #[.int .i64 k', .bool p', .int .u32 N', .int .u32 M', .slice B1 m1 d1, .slice B2 m2 d2, .slice B3 m3 d3, .int .i64 f', .slice B4 m4 d4] 29)
  have o1 := (Own.new w 29 #[.int .i64 k, .bool p, .int .u32 N, .int .u32 M, .slice A1 n1 c1, .slice A2 n2 c2, .slice A3 n3 c3, .int .i64 f, .slice A4 n4 c4]).alloc (.cells #[.int .i64 k', .bool p', .int .u32 N', .int .u32 M', .slice B1 m1 d1, .slice B2 m2 d2, .slice B3 m3 d3, .int .i64 f', .slice B4 m4 d4] 29)
  have o2 := Own.new (w.alloc (.cells #[.int .i64 k, .bool p, .int .u32 N, .int .u32 M, .slice A1 n1 c1, .slice A2 n2 c2, .slice A3 n3 c3, .int .i64 f, .slice A4 n4 c4] 29)) 29 #[.int .i64 k', .bool p', .int .u32 N', .int .u32 M', .slice B1 m1 d1, .slice B2 m2 d2, .slice B3 m3 d3, .int .i64 f', .slice B4 m4 d4]
  rw [show (w.alloc (.cells #[.int .i64 k, .bool p, .int .u32 N, .int .u32 M, .slice A1 n1 c1, .slice A2 n2 c2, .slice A3 n3 c3, .int .i64 f, .slice A4 n4 c4] 29)).heap.size = w.heap.size + 1 by simp] at o2
  go_enter Tryd.func6, Tryd.ntmps6
  go_wp2_with fail
  refine (hS.out _ hb0).mono ?_
  rintro e w1 ⟨rfl, hq⟩
  have p1 := o1.step hq
  have q1 := o2.step hq
  have hb1 := bl_trans hb0 hq
  clear hq hb0 o1 o2
  obtain ⟨e0, e1, e2, e3, e4, e5, e6, e7, e8⟩ := at_cells p1
  obtain ⟨f0, f1, f2, f3, f4, f5, f6, f7, f8⟩ := at_cells q1
  go_wp2_with fail
  refine (hS'.out _ hb1).mono ?_
  rintro e w2 ⟨rfl, hq⟩
  have p2 := p1.step hq
  have q2 := q1.step hq
  have hb2 := bl_trans hb1 hq
  clear hq hb1 p1 q1
  clear e0 e1 e2 e3 e4 e5 e6 e7 e8 f0 f1 f2 f3 f4 f5 f6 f7 f8
  obtain ⟨e0, e1, e2, e3, e4, e5, e6, e7, e8⟩ := at_cells p2
  obtain ⟨f0, f1, f2, f3, f4, f5, f6, f7, f8⟩ := at_cells q2
  go_wp2_with fail
  refine (hV.out _).mono ?_
  rintro e w3 ⟨rfl, hq⟩
  have p3 := p2.step hq
  have q3 := q2.step hq
  have hb3 := bl_trans hb2 hq
  clear hq hb2 p2 q2
  clear e0 e1 e2 e3 e4 e5 e6 e7 e8 f0 f1 f2 f3 f4 f5 f6 f7 f8
  go_wp2_with fail
  refine (alive07_any _).mono ?_
  rintro e w9 ⟨rfl, hb9⟩
  go_wp2
  go_ret
  exact ⟨rfl, bl_trans hb3 hb9⟩
set_option maxRecDepth 100000 in
set_option maxHeartbeats 1600000 in
theorem bapart_e4 (a b : At) (w : World)
    (hS : Hid (∀ W, Below w.heap.size w W → Calls Tryd.prog 22 #[.agg (atc a)] W fun e w' => e = .returned (.bool true) ∧ Below W.heap.size W w'))
    (hS' : Hid (∀ W, Below w.heap.size w W → Calls Tryd.prog 22 #[.agg (atc b)] W fun e w' => e = .returned (.bool true) ∧ Below W.heap.size W w'))
    (hV : Hid (∀ W, Calls Tryd.prog 26 #[.agg (atc a)] W fun e w' => e = .returned (.bool true) ∧ Below W.heap.size W w'))
    (hV' : Hid (∀ W, Calls Tryd.prog 26 #[.agg (atc b)] W fun e w' => e = .returned (.bool false) ∧ Below W.heap.size W w')) :
    Calls Tryd.prog 6 #[.agg (atc a), .agg (atc b)] w fun e w' => e = .returned (.bool true) ∧ Below w.heap.size w w' := by
  obtain ⟨k, p, N, M, A1, n1, c1, A2, n2, c2, A3, n3, c3, f, A4, n4, c4⟩ := a
  obtain ⟨k', p', N', M', B1, m1, d1, B2, m2, d2, B3, m3, d3, f', B4, m4, d4⟩ := b
  unfold atc at *
  dsimp only at *
  have hb0 := bl_alloc (bl_alloc (bl_refl w) (.cells #[.int .i64 k, .bool p, .int .u32 N, .int .u32 M, .slice A1 n1 c1, .slice A2 n2 c2, .slice A3 n3 c3, .int .i64 f, .slice A4 n4 c4] 29)) (.cells #[.int .i64 k', .bool p', .int .u32 N', .int .u32 M', .slice B1 m1 d1, .slice B2 m2 d2, .slice B3 m3 d3, .int .i64 f', .slice B4 m4 d4] 29)
  have o1 := (Own.new w 29 #[.int .i64 k, .bool p, .int .u32 N, .int .u32 M, .slice A1 n1 c1, .slice A2 n2 c2, .slice A3 n3 c3, .int .i64 f, .slice A4 n4 c4]).alloc (.cells #[.int .i64 k', .bool p', .int .u32 N', .int .u32 M', .slice B1 m1 d1, .slice B2 m2 d2, .slice B3 m3 d3, .int .i64 f', .slice B4 m4 d4] 29)
  have o2 := Own.new (w.alloc (.cells #[.int .i64 k, .bool p, .int .u32 N, .int .u32 M, .slice A1 n1 c1, .slice A2 n2 c2, .slice A3 n3 c3, .int .i64 f, .slice A4 n4 c4] 29)) 29 #[.int .i64 k', .bool p', .int .u32 N', .int .u32 M', .slice B1 m1 d1, .slice B2 m2 d2, .slice B3 m3 d3, .int .i64 f', .slice B4 m4 d4]
  rw [show (w.alloc (.cells #[.int .i64 k, .bool p, .int .u32 N, .int .u32 M, .slice A1 n1 c1, .slice A2 n2 c2, .slice A3 n3 c3, .int .i64 f, .slice A4 n4 c4] 29)).heap.size = w.heap.size + 1 by simp] at o2
  go_enter Tryd.func6, Tryd.ntmps6
  go_wp2_with fail
  refine (hS.out _ hb0).mono ?_
  rintro e w1 ⟨rfl, hq⟩
  have p1 := o1.step hq
  have q1 := o2.step hq
  have hb1 := bl_trans hb0 hq
  clear hq hb0 o1 o2
  obtain ⟨e0, e1, e2, e3, e4, e5, e6, e7, e8⟩ := at_cells p1
  obtain ⟨f0, f1, f2, f3, f4, f5, f6, f7, f8⟩ := at_cells q1
  go_wp2_with fail
  refine (hS'.out _ hb1).mono ?_
  rintro e w2 ⟨rfl, hq⟩
  have p2 := p1.step hq
  have q2 := q1.step hq
  have hb2 := bl_trans hb1 hq
  clear hq hb1 p1 q1
  clear e0 e1 e2 e3 e4 e5 e6 e7 e8 f0 f1 f2 f3 f4 f5 f6 f7 f8
  obtain ⟨e0, e1, e2, e3, e4, e5, e6, e7, e8⟩ := at_cells p2
  obtain ⟨f0, f1, f2, f3, f4, f5, f6, f7, f8⟩ := at_cells q2
  go_wp2_with fail
  refine (hV.out _).mono ?_
  rintro e w3 ⟨rfl, hq⟩
  have p3 := p2.step hq
  have q3 := q2.step hq
  have hb3 := bl_trans hb2 hq
  clear hq hb2 p2 q2
  clear e0 e1 e2 e3 e4 e5 e6 e7 e8 f0 f1 f2 f3 f4 f5 f6 f7 f8
  obtain ⟨e0, e1, e2, e3, e4, e5, e6, e7, e8⟩ := at_cells p3
  obtain ⟨f0, f1, f2, f3, f4, f5, f6, f7, f8⟩ := at_cells q3
  go_wp2_with fail
  refine (hV'.out _).mono ?_
  rintro e w4 ⟨rfl, hq⟩
  have p4 := p3.step hq
  have q4 := q3.step hq
  have hb4 := bl_trans hb3 hq
  clear hq hb3 p3 q3
  clear e0 e1 e2 e3 e4 e5 e6 e7 e8 f0 f1 f2 f3 f4 f5 f6 f7 f8
  go_wp2_with fail
  refine (alive07_any _).mono ?_
  rintro e w9 ⟨rfl, hb9⟩
  go_wp2
  go_ret
  exact ⟨rfl, bl_trans hb4 hb9⟩
set_option maxRecDepth 100000 in
set_option maxHeartbeats 1600000 in
theorem bapart_e5 (a b : At) (w : World)
    (hS : Hid (∀ W, Below w.heap.size w W → Calls Tryd.prog 22 #[.agg (atc a)] W fun e w' => e = .returned (.bool true) ∧ Below W.heap.size W w'))
    (hS' : Hid (∀ W, Below w.heap.size w W → Calls Tryd.prog 22 #[.agg (atc b)] W fun e w' => e = .returned (.bool true) ∧ Below W.heap.size W w'))
    (hV : Hid (∀ W, Calls Tryd.prog 26 #[.agg (atc a)] W fun e w' => e = .returned (.bool true) ∧ Below W.heap.size W w'))
    (hV' : Hid (∀ W, Calls Tryd.prog 26 #[.agg (atc b)] W fun e w' => e = .returned (.bool true) ∧ Below W.heap.size W w')) (hk : (a.k != b.k) = true) :
    Calls Tryd.prog 6 #[.agg (atc a), .agg (atc b)] w fun e w' => e = .returned (.bool true) ∧ Below w.heap.size w w' := by
  obtain ⟨k, p, N, M, A1, n1, c1, A2, n2, c2, A3, n3, c3, f, A4, n4, c4⟩ := a
  obtain ⟨k', p', N', M', B1, m1, d1, B2, m2, d2, B3, m3, d3, f', B4, m4, d4⟩ := b
  unfold atc at *
  dsimp only at *
  have hb0 := bl_alloc (bl_alloc (bl_refl w) (.cells #[.int .i64 k, .bool p, .int .u32 N, .int .u32 M, .slice A1 n1 c1, .slice A2 n2 c2, .slice A3 n3 c3, .int .i64 f, .slice A4 n4 c4] 29)) (.cells #[.int .i64 k', .bool p', .int .u32 N', .int .u32 M', .slice B1 m1 d1, .slice B2 m2 d2, .slice B3 m3 d3, .int .i64 f', .slice B4 m4 d4] 29)
  have o1 := (Own.new w 29 #[.int .i64 k, .bool p, .int .u32 N, .int .u32 M, .slice A1 n1 c1, .slice A2 n2 c2, .slice A3 n3 c3, .int .i64 f, .slice A4 n4 c4]).alloc (.cells #[.int .i64 k', .bool p', .int .u32 N', .int .u32 M', .slice B1 m1 d1, .slice B2 m2 d2, .slice B3 m3 d3, .int .i64 f', .slice B4 m4 d4] 29)
  have o2 := Own.new (w.alloc (.cells #[.int .i64 k, .bool p, .int .u32 N, .int .u32 M, .slice A1 n1 c1, .slice A2 n2 c2, .slice A3 n3 c3, .int .i64 f, .slice A4 n4 c4] 29)) 29 #[.int .i64 k', .bool p', .int .u32 N', .int .u32 M', .slice B1 m1 d1, .slice B2 m2 d2, .slice B3 m3 d3, .int .i64 f', .slice B4 m4 d4]
  rw [show (w.alloc (.cells #[.int .i64 k, .bool p, .int .u32 N, .int .u32 M, .slice A1 n1 c1, .slice A2 n2 c2, .slice A3 n3 c3, .int .i64 f, .slice A4 n4 c4] 29)).heap.size = w.heap.size + 1 by simp] at o2
  go_enter Tryd.func6, Tryd.ntmps6
  go_wp2_with fail
  refine (hS.out _ hb0).mono ?_
  rintro e w1 ⟨rfl, hq⟩
  have p1 := o1.step hq
  have q1 := o2.step hq
  have hb1 := bl_trans hb0 hq
  clear hq hb0 o1 o2
  obtain ⟨e0, e1, e2, e3, e4, e5, e6, e7, e8⟩ := at_cells p1
  obtain ⟨f0, f1, f2, f3, f4, f5, f6, f7, f8⟩ := at_cells q1
  go_wp2_with fail
  refine (hS'.out _ hb1).mono ?_
  rintro e w2 ⟨rfl, hq⟩
  have p2 := p1.step hq
  have q2 := q1.step hq
  have hb2 := bl_trans hb1 hq
  clear hq hb1 p1 q1
  clear e0 e1 e2 e3 e4 e5 e6 e7 e8 f0 f1 f2 f3 f4 f5 f6 f7 f8
  obtain ⟨e0, e1, e2, e3, e4, e5, e6, e7, e8⟩ := at_cells p2
  obtain ⟨f0, f1, f2, f3, f4, f5, f6, f7, f8⟩ := at_cells q2
  go_wp2_with fail
  refine (hV.out _).mono ?_
  rintro e w3 ⟨rfl, hq⟩
  have p3 := p2.step hq
  have q3 := q2.step hq
  have hb3 := bl_trans hb2 hq
  clear hq hb2 p2 q2
  clear e0 e1 e2 e3 e4 e5 e6 e7 e8 f0 f1 f2 f3 f4 f5 f6 f7 f8
  obtain ⟨e0, e1, e2, e3, e4, e5, e6, e7, e8⟩ := at_cells p3
  obtain ⟨f0, f1, f2, f3, f4, f5, f6, f7, f8⟩ := at_cells q3
  go_wp2_with fail
  refine (hV'.out _).mono ?_
  rintro e w4 ⟨rfl, hq⟩
  have p4 := p3.step hq
  have q4 := q3.step hq
  have hb4 := bl_trans hb3 hq
  clear hq hb3 p3 q3
  clear e0 e1 e2 e3 e4 e5 e6 e7 e8 f0 f1 f2 f3 f4 f5 f6 f7 f8
  obtain ⟨e0, e1, e2, e3, e4, e5, e6, e7, e8⟩ := at_cells p4
  obtain ⟨f0, f1, f2, f3, f4, f5, f6, f7, f8⟩ := at_cells q4
  go_wp2_with fail
  refine (alive07_any _).mono ?_
  rintro e w9 ⟨rfl, hb9⟩
  go_wp2
  go_ret
  exact ⟨rfl, bl_trans hb4 hb9⟩
set_option maxRecDepth 100000 in
set_option maxHeartbeats 3200000 in
theorem bapart_core (a b : At) (w : World)
    (hS : Hid (∀ W, Below w.heap.size w W → Calls Tryd.prog 22 #[.agg (atc a)] W fun e w' => e = .returned (.bool true) ∧ Below W.heap.size W w'))
    (hS' : Hid (∀ W, Below w.heap.size w W → Calls Tryd.prog 22 #[.agg (atc b)] W fun e w' => e = .returned (.bool true) ∧ Below W.heap.size W w'))
    (hV : Hid (∀ W, Calls Tryd.prog 26 #[.agg (atc a)] W fun e w' => e = .returned (.bool true) ∧ Below W.heap.size W w'))
    (hV' : Hid (∀ W, Calls Tryd.prog 26 #[.agg (atc b)] W fun e w' => e = .returned (.bool true) ∧ Below W.heap.size W w')) (n : Nat) (xs ys : List Int) (S S' : ByteArray) (Q : Bool) (hn : n ≤ 100) (hkk : (a.k != b.k) = false)
    (hB : Hid (∀ W, Calls Tryd.prog 18 #[.agg (atc a)] W fun e w' => ∃ A, e = .returned (.tuple #[.slice A n n, .bool true]) ∧ Bytes w' w'.heap.size A n xs ∧ Below W.heap.size W w'))
    (hB' : Hid (∀ W, Calls Tryd.prog 18 #[.agg (atc b)] W fun e w' => ∃ A, e = .returned (.tuple #[.slice A n n, .bool true]) ∧ Bytes w' w'.heap.size A n ys ∧ Below W.heap.size W w'))
    (hT : Hid (∀ W, Below w.heap.size w W → Calls Tryd.prog 27 #[.agg (atc a)] W fun e w' => e = .returned (.string S) ∧ Below W.heap.size W w'))
    (hT' : Hid (∀ W, Below w.heap.size w W → Calls Tryd.prog 27 #[.agg (atc b)] W fun e w' => e = .returned (.string S') ∧ Below W.heap.size W w'))
    (hE : Hid (decide (xs = ys) = Q)) (hNN : (a.N == b.N) = Q) (hSS : (S.toList == S'.toList) = Q) :
    Calls Tryd.prog 6 #[.agg (atc a), .agg (atc b)] w fun e w' => e = .returned (.bool true) ∧ Below w.heap.size w w' := by
  have QQ : (Q == Q) = true := by simp
  obtain ⟨k, p, N, M, A1, n1, c1, A2, n2, c2, A3, n3, c3, f, A4, n4, c4⟩ := a
  obtain ⟨k', p', N', M', B1, m1, d1, B2, m2, d2, B3, m3, d3, f', B4, m4, d4⟩ := b
  unfold atc at *
  dsimp only at *
  have hb0 := bl_alloc (bl_alloc (bl_refl w) (.cells #[.int .i64 k, .bool p, .int .u32 N, .int .u32 M, .slice A1 n1 c1, .slice A2 n2 c2, .slice A3 n3 c3, .int .i64 f, .slice A4 n4 c4] 29)) (.cells #[.int .i64 k', .bool p', .int .u32 N', .int .u32 M', .slice B1 m1 d1, .slice B2 m2 d2, .slice B3 m3 d3, .int .i64 f', .slice B4 m4 d4] 29)
  have o1 := (Own.new w 29 #[.int .i64 k, .bool p, .int .u32 N, .int .u32 M, .slice A1 n1 c1, .slice A2 n2 c2, .slice A3 n3 c3, .int .i64 f, .slice A4 n4 c4]).alloc (.cells #[.int .i64 k', .bool p', .int .u32 N', .int .u32 M', .slice B1 m1 d1, .slice B2 m2 d2, .slice B3 m3 d3, .int .i64 f', .slice B4 m4 d4] 29)
  have o2 := Own.new (w.alloc (.cells #[.int .i64 k, .bool p, .int .u32 N, .int .u32 M, .slice A1 n1 c1, .slice A2 n2 c2, .slice A3 n3 c3, .int .i64 f, .slice A4 n4 c4] 29)) 29 #[.int .i64 k', .bool p', .int .u32 N', .int .u32 M', .slice B1 m1 d1, .slice B2 m2 d2, .slice B3 m3 d3, .int .i64 f', .slice B4 m4 d4]
  rw [show (w.alloc (.cells #[.int .i64 k, .bool p, .int .u32 N, .int .u32 M, .slice A1 n1 c1, .slice A2 n2 c2, .slice A3 n3 c3, .int .i64 f, .slice A4 n4 c4] 29)).heap.size = w.heap.size + 1 by simp] at o2
  go_enter Tryd.func6, Tryd.ntmps6
  go_wp2_with fail
  refine (hS.out _ hb0).mono ?_
  rintro e w1 ⟨rfl, hq⟩
  have p1 := o1.step hq
  have q1 := o2.step hq
  have hb1 := bl_trans hb0 hq
  clear hq hb0 o1 o2
  obtain ⟨e0, e1, e2, e3, e4, e5, e6, e7, e8⟩ := at_cells p1
  obtain ⟨f0, f1, f2, f3, f4, f5, f6, f7, f8⟩ := at_cells q1
  go_wp2_with fail
  refine (hS'.out _ hb1).mono ?_
  rintro e w2 ⟨rfl, hq⟩
  have p2 := p1.step hq
  have q2 := q1.step hq
  have hb2 := bl_trans hb1 hq
  clear hq hb1 p1 q1
  clear e0 e1 e2 e3 e4 e5 e6 e7 e8 f0 f1 f2 f3 f4 f5 f6 f7 f8
  obtain ⟨e0, e1, e2, e3, e4, e5, e6, e7, e8⟩ := at_cells p2
  obtain ⟨f0, f1, f2, f3, f4, f5, f6, f7, f8⟩ := at_cells q2
  go_wp2_with fail
  refine (hV.out _).mono ?_
  rintro e w3 ⟨rfl, hq⟩
  have p3 := p2.step hq
  have q3 := q2.step hq
  have hb3 := bl_trans hb2 hq
  clear hq hb2 p2 q2
  clear e0 e1 e2 e3 e4 e5 e6 e7 e8 f0 f1 f2 f3 f4 f5 f6 f7 f8
  obtain ⟨e0, e1, e2, e3, e4, e5, e6, e7, e8⟩ := at_cells p3
  obtain ⟨f0, f1, f2, f3, f4, f5, f6, f7, f8⟩ := at_cells q3
  go_wp2_with fail
  refine (hV'.out _).mono ?_
  rintro e w4 ⟨rfl, hq⟩
  have p4 := p3.step hq
  have q4 := q3.step hq
  have hb4 := bl_trans hb3 hq
  clear hq hb3 p3 q3
  clear e0 e1 e2 e3 e4 e5 e6 e7 e8 f0 f1 f2 f3 f4 f5 f6 f7 f8
  obtain ⟨e0, e1, e2, e3, e4, e5, e6, e7, e8⟩ := at_cells p4
  obtain ⟨f0, f1, f2, f3, f4, f5, f6, f7, f8⟩ := at_cells q4
  go_wp2_with fail
  refine (hB.out _).mono ?_
  rintro e w5 ⟨A, rfl, hx, hq5⟩
  have p5 := p4.step hq5
  have q5 := q4.step hq5
  have hb5 := bl_trans hb4 hq5
  clear hq5 hb4 p4 q4
  clear e0 e1 e2 e3 e4 e5 e6 e7 e8 f0 f1 f2 f3 f4 f5 f6 f7 f8
  obtain ⟨e0, e1, e2, e3, e4, e5, e6, e7, e8⟩ := at_cells p5
  obtain ⟨f0, f1, f2, f3, f4, f5, f6, f7, f8⟩ := at_cells q5
  go_wp2_with fail
  refine (hB'.out _).mono ?_
  rintro e w6 ⟨B, rfl, hy, hq6⟩
  have p6 := p5.step hq6
  have q6 := q5.step hq6
  have hx6 := (hx.below hq6).more hq6.size
  have hb6 := bl_trans hb5 hq6
  clear hq6 hb5 p5 q5 hx
  clear e0 e1 e2 e3 e4 e5 e6 e7 e8 f0 f1 f2 f3 f4 f5 f6 f7 f8
  go_wp2_with fail
  generalize w.heap.size + 1 = g2 at q6 ⊢
  have a1 := Lib.hid (rg_of (w := w6) (fun W _ => alive07_any W))
  have a2 := Lib.hid (bytesEq_rgS (w := w6) A B n n n n xs ys Q hx6 hy (by omega) (by omega) hE.out)
  have a3 := Lib.hid (rg_of (w := w6) (fun W hW => hT.out W (bl_trans hb6 hW)))
  have a4 := Lib.hid (rg_of (w := w6) (fun W hW => hT'.out W (bl_trans hb6 hW)))
  have u0 := cell_regrown (at_cells p6).2.2.1
  have u1 := cell_regrown (at_cells q6).2.2.1
  refine wp_region_quiet_below (by kernel_rfl) (by kernel_rfl) ?_
  repeat (first
    | go_big_quiet_skip
    | (refine wpQuiet_load_row (by rfl) 29 _ rfl w.heap.size rfl 29 #[.int .i64 k, .bool p, .int .u32 N, .int .u32 M, .slice A1 n1 c1, .slice A2 n2 c2, .slice A3 n3 c3, .int .i64 f, .slice A4 n4 c4] (.struct (Tryd.prog.fieldsOf 29)) p6.rg (by kernel_rfl) rfl (at_info9 _ _ _ _ _ _ _ _ _) ?_; go_simp)
    | (refine wpQuiet_load_row (by rfl) 29 _ rfl g2 rfl 29 #[.int .i64 k', .bool p', .int .u32 N', .int .u32 M', .slice B1 m1 d1, .slice B2 m2 d2, .slice B3 m3 d3, .int .i64 f', .slice B4 m4 d4] (.struct (Tryd.prog.fieldsOf 29)) q6.rg (by kernel_rfl) rfl (at_info9 _ _ _ _ _ _ _ _ _) ?_; go_simp)
    | go_big_quiet_step (with_reducible first | exact a1.out _ _ | exact a2.out _ _ | exact a3.out _ _ | exact a4.out _ _))
  refine wpQuiet_nil ?_
  first | rintro _ ⟨⟨dq, osq⟩, rfl⟩ | rintro ⟨dq, osq⟩
  have hb7 := bl_trans hb6 (below_regrown w6 dq osq)
  generalize grow (redrawn w6 dq) osq = w7 at *
  go_wp2
  go_ret
  exact ⟨rfl, hb7⟩
theorem oNm_inj {m n : Int} (h0 : 0 ≤ m) (h1 : m ≤ 2) (h2 : 0 ≤ n) (h3 : n ≤ 2) (h : oNm m = oNm n) : m = n := by
  have hm : m = 0 ∨ m = 1 ∨ m = 2 := by omega
  have hn : n = 0 ∨ n = 1 ∨ n = 2 := by omega
  have e := congrArg (fun s : ByteArray => s.data.toList) h
  rcases hm with rfl | rfl | rfl <;> rcases hn with rfl | rfl | rfl <;> first | rfl | (revert e; decide)
theorem bTxt_inj {k m n : Int} (hk : bKnown k = true) (h0 : 0 ≤ m) (h1 : m < 4294967296) (h2 : 0 ≤ n) (h3 : n < 4294967296) (hm : k = 1 → m ≤ 2) (hn : k = 1 → n ≤ 2) (g1 : k = 6 → m = 0) (g2 : k = 6 → n = 0) (h : bTxt k m = bTxt k n) : m = n := by
  rcases b_split k with hc | ⟨hc, _⟩
  · rcases hc with rfl | rfl | rfl | rfl | rfl | rfl
    · exact oNm_inj h0 (hm rfl) h2 (hn rfl) (app_inj h)
    · exact adrB_inj h0 h1 h2 h3 (app_inj h)
    · exact decA_inj h0 h2 (app_inj h)
    · exact decA_inj h0 h2 (app_inj h)
    · rw [g1 rfl, g2 rfl]
    · exact adrB_inj h0 h1 h2 h3 (app_inj h)
  · unfold bKnown at hk; rw [hc] at hk; cases hk
set_option maxRecDepth 100000 in
theorem bapart_walk (a b : At) (w : World) (ht : Tens w) (hin : AtIn w a) (hin' : AtIn w b) :
    Calls Tryd.prog 6 #[.agg (atc a), .agg (atc b)] w fun e w' => e = .returned (.bool true) ∧ Below w.heap.size w w' := by
  obtain ⟨hwf, hN, _, _, ⟨g1, g2, ss, g3⟩, _⟩ := hin
  obtain ⟨hwf', hN', _, _, ⟨g1', g2', ss', g3'⟩, _⟩ := hin'
  have hS := Lib.hid (fun (W : World) (h : Below w.heap.size w W) => small07_any a ss W ((g3.below h).more h.size) (Nat.le_trans g1 g2))
  have hS' := Lib.hid (fun (W : World) (h : Below w.heap.size w W) => small07_any b ss' W ((g3'.below h).more h.size) (Nat.le_trans g1' g2'))
  have hV := Lib.hid (fun W => rbvalid_any a W)
  have hV' := Lib.hid (fun W => rbvalid_any b W)
  cases hs : smallB a ss with
  | false => rw [hs] at hS; exact bapart_e1 _ _ _ a b w hS hS' hV hV'
  | true =>
    rw [hs] at hS
    cases hs' : smallB b ss' with
    | false => rw [hs'] at hS'; exact bapart_e2 _ _ a b w hS hS' hV hV'
    | true =>
      rw [hs'] at hS'
      cases hv : vOk a with
      | false => rw [hv] at hV; exact bapart_e3 _ a b w hS hS' hV hV'
      | true =>
        rw [hv] at hV
        cases hv' : vOk b with
        | false => rw [hv'] at hV'; exact bapart_e4 a b w hS hS' hV hV'
        | true =>
          rw [hv'] at hV'
          by_cases hk : a.k = b.k
          · obtain ⟨hkn, _, _, h1, h6⟩ := vOk_bits hv
            obtain ⟨_, _, _, h1', h6'⟩ := vOk_bits hv'
            have hsz : (bSize a.k).toNat ≤ 4 := by rcases vOk_size hv hN.1 hN.2 with ⟨h2, _⟩ | ⟨_, h2, _⟩ <;> omega
            have hB' := fun W => bbytes_yes b hwf' hN'.1 hN'.2 hv' W
            rw [← hk] at hB' h1' h6'
            have hT' := fun W (h : Below w.heap.size w W) => btext_yes b hwf' hN'.1 hN'.2 hv' W (ht.below h)
            rw [← hk] at hT'
            refine bapart_core a b w hS hS' hV hV' (bSize a.k).toNat (bForm a.k a.N) (bForm a.k b.N) (bTxt a.k a.N) (bTxt a.k b.N) (a.N == b.N) (by omega) (by rw [hk]; simp) (Lib.hid (fun W => bbytes_yes a hwf hN.1 hN.2 hv W)) (Lib.hid hB')
              (Lib.hid (fun W h => btext_yes a hwf hN.1 hN.2 hv W (ht.below h))) (Lib.hid hT') (Lib.hid ?_) rfl ?_
            · by_cases e : a.N = b.N
              · rw [e]; simp
              · rw [show (a.N == b.N) = false by simpa using e]
                refine decide_eq_false (fun h => e ?_)
                rcases vOk_size hv hN.1 hN.2 with ⟨h2, h3⟩ | ⟨h2, h3, h4⟩
                · have h5 := vOk_size hv' hN'.1 hN'.2
                  rw [← hk] at h5
                  rcases h5 with ⟨_, h5⟩ | ⟨h5, _⟩
                  · rw [h3, h5]
                  · omega
                · have h5 := vOk_size hv' hN'.1 hN'.2
                  rw [← hk] at h5
                  rcases h5 with ⟨h5, _⟩ | ⟨_, _, h5⟩
                  · omega
                  · have x := big_digitsA _ _ h2 h3 hN.1 h4
                    have y := big_digitsA _ _ h2 h3 hN'.1 h5
                    unfold bForm at h
                    rw [h] at x
                    rw [← x, y]
            · by_cases e : a.N = b.N
              · rw [e]; simp
              · rw [show (a.N == b.N) = false by simpa using e, beq_eq_false_iff_ne]
                intro h
                exact e (bTxt_inj hkn hN.1 hN.2 hN'.1 hN'.2 h1 h1' h6 h6' ((toList_iffA _ _).1 h))
          · exact bapart_e5 a b w hS hS' hV hV' (by simpa using hk)
end Go.Proofs.YtkcejeogacobiaaDoor

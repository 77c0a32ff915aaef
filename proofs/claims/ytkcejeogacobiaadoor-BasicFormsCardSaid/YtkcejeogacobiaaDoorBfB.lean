/- peerageref07.Text -/
import Derived.Test.YtkcejeogacobiaaDoorBfA
namespace Go.Proofs.YtkcejeogacobiaaDoor
open Go.RowKit Go.Sort

set_option maxRecDepth 100000 in
set_option maxHeartbeats 800000 in
theorem rbt1_0 (p : Bool) (M : Int) (A1 : Option Addr) (n1 c1 : Nat) (A2 : Option Addr) (n2 c2 : Nat) (A3 : Option Addr) (n3 c3 : Nat) (f : Int) (A4 : Option Addr) (n4 c4 : Nat) (w : World)
    (hV : Hid (∀ W, Calls Tryd.prog 26 #[.agg #[.int .i64 1, .bool p, .int .u32 0, .int .u32 M, .slice A1 n1 c1, .slice A2 n2 c2, .slice A3 n3 c3, .int .i64 f, .slice A4 n4 c4]] W fun e w' => e = .returned (.bool true) ∧ Below W.heap.size W w')) :
    Calls Tryd.prog 30 #[.agg #[.int .i64 1, .bool p, .int .u32 0, .int .u32 M, .slice A1 n1 c1, .slice A2 n2 c2, .slice A3 n3 c3, .int .i64 f, .slice A4 n4 c4]] w fun e w' => e = .returned (.string ⟨#[111, 114, 105, 103, 105, 110, 32, 105, 103, 112]⟩) ∧ Below w.heap.size w w' := by
  have hb0 := bl_alloc (bl_refl w) (.cells #[.int .i64 1, .bool p, .int .u32 0, .int .u32 M, .slice A1 n1 c1, .slice A2 n2 c2, .slice A3 n3 c3, .int .i64 f, .slice A4 n4 c4] 29)
  have o0 := Own.new w 29 #[.int .i64 1, .bool p, .int .u32 0, .int .u32 M, .slice A1 n1 c1, .slice A2 n2 c2, .slice A3 n3 c3, .int .i64 f, .slice A4 n4 c4]
  go_enter Tryd.func30, Tryd.ntmps30
  go_wp2_with fail
  refine (hV.out _).mono ?_
  rintro e w1 ⟨rfl, hb1⟩
  have hb2 := bl_trans hb0 hb1
  obtain ⟨e0, e1, e2, e3, e4, e5, e6, e7, e8⟩ := at_cells (o0.step hb1)
  clear hb0 hb1 o0
  have hlt := World.block_lt_of_cell? w1 _ e0
  go_wp2
  go_ret
  exact ⟨rfl, bl_alloc hb2 _⟩
set_option maxRecDepth 100000 in
set_option maxHeartbeats 800000 in
theorem rbt1_1 (p : Bool) (M : Int) (A1 : Option Addr) (n1 c1 : Nat) (A2 : Option Addr) (n2 c2 : Nat) (A3 : Option Addr) (n3 c3 : Nat) (f : Int) (A4 : Option Addr) (n4 c4 : Nat) (w : World)
    (hV : Hid (∀ W, Calls Tryd.prog 26 #[.agg #[.int .i64 1, .bool p, .int .u32 1, .int .u32 M, .slice A1 n1 c1, .slice A2 n2 c2, .slice A3 n3 c3, .int .i64 f, .slice A4 n4 c4]] W fun e w' => e = .returned (.bool true) ∧ Below W.heap.size W w')) :
    Calls Tryd.prog 30 #[.agg #[.int .i64 1, .bool p, .int .u32 1, .int .u32 M, .slice A1 n1 c1, .slice A2 n2 c2, .slice A3 n3 c3, .int .i64 f, .slice A4 n4 c4]] w fun e w' => e = .returned (.string ⟨#[111, 114, 105, 103, 105, 110, 32, 101, 103, 112]⟩) ∧ Below w.heap.size w w' := by
  have hb0 := bl_alloc (bl_refl w) (.cells #[.int .i64 1, .bool p, .int .u32 1, .int .u32 M, .slice A1 n1 c1, .slice A2 n2 c2, .slice A3 n3 c3, .int .i64 f, .slice A4 n4 c4] 29)
  have o0 := Own.new w 29 #[.int .i64 1, .bool p, .int .u32 1, .int .u32 M, .slice A1 n1 c1, .slice A2 n2 c2, .slice A3 n3 c3, .int .i64 f, .slice A4 n4 c4]
  go_enter Tryd.func30, Tryd.ntmps30
  go_wp2_with fail
  refine (hV.out _).mono ?_
  rintro e w1 ⟨rfl, hb1⟩
  have hb2 := bl_trans hb0 hb1
  obtain ⟨e0, e1, e2, e3, e4, e5, e6, e7, e8⟩ := at_cells (o0.step hb1)
  clear hb0 hb1 o0
  have hlt := World.block_lt_of_cell? w1 _ e0
  go_wp2
  go_ret
  exact ⟨rfl, bl_alloc hb2 _⟩
set_option maxRecDepth 100000 in
set_option maxHeartbeats 800000 in
theorem rbt1_2 (p : Bool) (M : Int) (A1 : Option Addr) (n1 c1 : Nat) (A2 : Option Addr) (n2 c2 : Nat) (A3 : Option Addr) (n3 c3 : Nat) (f : Int) (A4 : Option Addr) (n4 c4 : Nat) (w : World)
    (hV : Hid (∀ W, Calls Tryd.prog 26 #[.agg #[.int .i64 1, .bool p, .int .u32 2, .int .u32 M, .slice A1 n1 c1, .slice A2 n2 c2, .slice A3 n3 c3, .int .i64 f, .slice A4 n4 c4]] W fun e w' => e = .returned (.bool true) ∧ Below W.heap.size W w')) :
    Calls Tryd.prog 30 #[.agg #[.int .i64 1, .bool p, .int .u32 2, .int .u32 M, .slice A1 n1 c1, .slice A2 n2 c2, .slice A3 n3 c3, .int .i64 f, .slice A4 n4 c4]] w fun e w' => e = .returned (.string ⟨#[111, 114, 105, 103, 105, 110, 32, 105, 110, 99, 111, 109, 112, 108, 101, 116, 101]⟩) ∧ Below w.heap.size w w' := by
  have hb0 := bl_alloc (bl_refl w) (.cells #[.int .i64 1, .bool p, .int .u32 2, .int .u32 M, .slice A1 n1 c1, .slice A2 n2 c2, .slice A3 n3 c3, .int .i64 f, .slice A4 n4 c4] 29)
  have o0 := Own.new w 29 #[.int .i64 1, .bool p, .int .u32 2, .int .u32 M, .slice A1 n1 c1, .slice A2 n2 c2, .slice A3 n3 c3, .int .i64 f, .slice A4 n4 c4]
  go_enter Tryd.func30, Tryd.ntmps30
  go_wp2_with fail
  refine (hV.out _).mono ?_
  rintro e w1 ⟨rfl, hb1⟩
  have hb2 := bl_trans hb0 hb1
  obtain ⟨e0, e1, e2, e3, e4, e5, e6, e7, e8⟩ := at_cells (o0.step hb1)
  clear hb0 hb1 o0
  have hlt := World.block_lt_of_cell? w1 _ e0
  go_wp2
  go_ret
  exact ⟨rfl, bl_alloc hb2 _⟩
set_option maxRecDepth 100000 in
set_option maxHeartbeats 800000 in
theorem rbt3 (p : Bool) (M : Int) (A1 : Option Addr) (n1 c1 : Nat) (A2 : Option Addr) (n2 c2 : Nat) (A3 : Option Addr) (n3 c3 : Nat) (f : Int) (A4 : Option Addr) (n4 c4 : Nat) (N : Int) (h0 : 0 ≤ N) (h1 : N < 4294967296) (w : World)
    (hV : Hid (∀ W, Calls Tryd.prog 26 #[.agg #[.int .i64 3, .bool p, .int .u32 N, .int .u32 M, .slice A1 n1 c1, .slice A2 n2 c2, .slice A3 n3 c3, .int .i64 f, .slice A4 n4 c4]] W fun e w' => e = .returned (.bool true) ∧ Below W.heap.size W w')) :
    Calls Tryd.prog 30 #[.agg #[.int .i64 3, .bool p, .int .u32 N, .int .u32 M, .slice A1 n1 c1, .slice A2 n2 c2, .slice A3 n3 c3, .int .i64 f, .slice A4 n4 c4]] w fun e w' => e = .returned (.string (⟨#[110, 101, 120, 116, 104, 111, 112, 32]⟩ ++ adrB N)) ∧ Below w.heap.size w w' := by
  have hc := Lib.hid (fun W => rbadr_any N h0 h1 W)
  have w64 : IntKind.i64.wrap N = N := IntWalk.i64_in _ (by omega)
  have z := adrB_size N
  generalize adrB N = S at *
  have m1 : ¬ 9223372036854775807 < 8 + S.size := by omega
  clear z
  have hb0 := bl_alloc (bl_refl w) (.cells #[.int .i64 3, .bool p, .int .u32 N, .int .u32 M, .slice A1 n1 c1, .slice A2 n2 c2, .slice A3 n3 c3, .int .i64 f, .slice A4 n4 c4] 29)
  have o0 := Own.new w 29 #[.int .i64 3, .bool p, .int .u32 N, .int .u32 M, .slice A1 n1 c1, .slice A2 n2 c2, .slice A3 n3 c3, .int .i64 f, .slice A4 n4 c4]
  go_enter Tryd.func30, Tryd.ntmps30
  go_wp2_with fail
  refine (hV.out _).mono ?_
  rintro e w1 ⟨rfl, hb1⟩
  have hb2 := bl_trans hb0 hb1
  obtain ⟨e0, e1, e2, e3, e4, e5, e6, e7, e8⟩ := at_cells (o0.step hb1)
  clear hb0 hb1 o0
  go_wp2_with fail
  refine (hc.out _).mono ?_
  rintro e w2 ⟨rfl, hb3⟩
  go_wp2
  go_ret
  exact ⟨rfl, bl_trans hb2 hb3⟩
set_option maxRecDepth 100000 in
set_option maxHeartbeats 800000 in
theorem rbt4 (p : Bool) (M : Int) (A1 : Option Addr) (n1 c1 : Nat) (A2 : Option Addr) (n2 c2 : Nat) (A3 : Option Addr) (n3 c3 : Nat) (f : Int) (A4 : Option Addr) (n4 c4 : Nat) (N : Int) (h0 : 0 ≤ N) (h1 : N < 4294967296) (w : World)
    (hV : Hid (∀ W, Calls Tryd.prog 26 #[.agg #[.int .i64 4, .bool p, .int .u32 N, .int .u32 M, .slice A1 n1 c1, .slice A2 n2 c2, .slice A3 n3 c3, .int .i64 f, .slice A4 n4 c4]] W fun e w' => e = .returned (.bool true) ∧ Below W.heap.size W w')) :
    Calls Tryd.prog 30 #[.agg #[.int .i64 4, .bool p, .int .u32 N, .int .u32 M, .slice A1 n1 c1, .slice A2 n2 c2, .slice A3 n3 c3, .int .i64 f, .slice A4 n4 c4]] w fun e w' => e = .returned (.string (⟨#[109, 101, 100, 32]⟩ ++ decB N)) ∧ Below w.heap.size w w' := by
  have hc := Lib.hid (fun W => rdecimal_any N h0 (by omega) W)
  have w64 : IntKind.i64.wrap N = N := IntWalk.i64_in _ (by omega)
  have z := decB_size (n := N) (by omega)
  generalize decB N = S at *
  have m1 : ¬ 9223372036854775807 < 4 + S.size := by omega
  clear z
  have hb0 := bl_alloc (bl_refl w) (.cells #[.int .i64 4, .bool p, .int .u32 N, .int .u32 M, .slice A1 n1 c1, .slice A2 n2 c2, .slice A3 n3 c3, .int .i64 f, .slice A4 n4 c4] 29)
  have o0 := Own.new w 29 #[.int .i64 4, .bool p, .int .u32 N, .int .u32 M, .slice A1 n1 c1, .slice A2 n2 c2, .slice A3 n3 c3, .int .i64 f, .slice A4 n4 c4]
  go_enter Tryd.func30, Tryd.ntmps30
  go_wp2_with fail
  refine (hV.out _).mono ?_
  rintro e w1 ⟨rfl, hb1⟩
  have hb2 := bl_trans hb0 hb1
  obtain ⟨e0, e1, e2, e3, e4, e5, e6, e7, e8⟩ := at_cells (o0.step hb1)
  clear hb0 hb1 o0
  go_wp2_with fail
  refine (hc.out _).mono ?_
  rintro e w2 ⟨rfl, hb3⟩
  go_wp2
  go_ret
  exact ⟨rfl, bl_trans hb2 hb3⟩
set_option maxRecDepth 100000 in
set_option maxHeartbeats 800000 in
theorem rbt5 (p : Bool) (M : Int) (A1 : Option Addr) (n1 c1 : Nat) (A2 : Option Addr) (n2 c2 : Nat) (A3 : Option Addr) (n3 c3 : Nat) (f : Int) (A4 : Option Addr) (n4 c4 : Nat) (N : Int) (h0 : 0 ≤ N) (h1 : N < 4294967296) (w : World)
    (hV : Hid (∀ W, Calls Tryd.prog 26 #[.agg #[.int .i64 5, .bool p, .int .u32 N, .int .u32 M, .slice A1 n1 c1, .slice A2 n2 c2, .slice A3 n3 c3, .int .i64 f, .slice A4 n4 c4]] W fun e w' => e = .returned (.bool true) ∧ Below W.heap.size W w')) :
    Calls Tryd.prog 30 #[.agg #[.int .i64 5, .bool p, .int .u32 N, .int .u32 M, .slice A1 n1 c1, .slice A2 n2 c2, .slice A3 n3 c3, .int .i64 f, .slice A4 n4 c4]] w fun e w' => e = .returned (.string (⟨#[108, 111, 99, 97, 108, 112, 114, 101, 102, 32]⟩ ++ decB N)) ∧ Below w.heap.size w w' := by
  have hc := Lib.hid (fun W => rdecimal_any N h0 (by omega) W)
  have w64 : IntKind.i64.wrap N = N := IntWalk.i64_in _ (by omega)
  have z := decB_size (n := N) (by omega)
  generalize decB N = S at *
  have m1 : ¬ 9223372036854775807 < 10 + S.size := by omega
  clear z
  have hb0 := bl_alloc (bl_refl w) (.cells #[.int .i64 5, .bool p, .int .u32 N, .int .u32 M, .slice A1 n1 c1, .slice A2 n2 c2, .slice A3 n3 c3, .int .i64 f, .slice A4 n4 c4] 29)
  have o0 := Own.new w 29 #[.int .i64 5, .bool p, .int .u32 N, .int .u32 M, .slice A1 n1 c1, .slice A2 n2 c2, .slice A3 n3 c3, .int .i64 f, .slice A4 n4 c4]
  go_enter Tryd.func30, Tryd.ntmps30
  go_wp2_with fail
  refine (hV.out _).mono ?_
  rintro e w1 ⟨rfl, hb1⟩
  have hb2 := bl_trans hb0 hb1
  obtain ⟨e0, e1, e2, e3, e4, e5, e6, e7, e8⟩ := at_cells (o0.step hb1)
  clear hb0 hb1 o0
  go_wp2_with fail
  refine (hc.out _).mono ?_
  rintro e w2 ⟨rfl, hb3⟩
  go_wp2
  go_ret
  exact ⟨rfl, bl_trans hb2 hb3⟩
set_option maxRecDepth 100000 in
set_option maxHeartbeats 800000 in
theorem rbt9 (p : Bool) (M : Int) (A1 : Option Addr) (n1 c1 : Nat) (A2 : Option Addr) (n2 c2 : Nat) (A3 : Option Addr) (n3 c3 : Nat) (f : Int) (A4 : Option Addr) (n4 c4 : Nat) (N : Int) (h0 : 0 ≤ N) (h1 : N < 4294967296) (w : World)
    (hV : Hid (∀ W, Calls Tryd.prog 26 #[.agg #[.int .i64 9, .bool p, .int .u32 N, .int .u32 M, .slice A1 n1 c1, .slice A2 n2 c2, .slice A3 n3 c3, .int .i64 f, .slice A4 n4 c4]] W fun e w' => e = .returned (.bool true) ∧ Below W.heap.size W w')) :
    Calls Tryd.prog 30 #[.agg #[.int .i64 9, .bool p, .int .u32 N, .int .u32 M, .slice A1 n1 c1, .slice A2 n2 c2, .slice A3 n3 c3, .int .i64 f, .slice A4 n4 c4]] w fun e w' => e = .returned (.string (⟨#[111, 114, 105, 103, 105, 110, 97, 116, 111, 114, 32]⟩ ++ adrB N)) ∧ Below w.heap.size w w' := by
  have hc := Lib.hid (fun W => rbadr_any N h0 h1 W)
  have w64 : IntKind.i64.wrap N = N := IntWalk.i64_in _ (by omega)
  have z := adrB_size N
  generalize adrB N = S at *
  have m1 : ¬ 9223372036854775807 < 11 + S.size := by omega
  clear z
  have hb0 := bl_alloc (bl_refl w) (.cells #[.int .i64 9, .bool p, .int .u32 N, .int .u32 M, .slice A1 n1 c1, .slice A2 n2 c2, .slice A3 n3 c3, .int .i64 f, .slice A4 n4 c4] 29)
  have o0 := Own.new w 29 #[.int .i64 9, .bool p, .int .u32 N, .int .u32 M, .slice A1 n1 c1, .slice A2 n2 c2, .slice A3 n3 c3, .int .i64 f, .slice A4 n4 c4]
  go_enter Tryd.func30, Tryd.ntmps30
  go_wp2_with fail
  refine (hV.out _).mono ?_
  rintro e w1 ⟨rfl, hb1⟩
  have hb2 := bl_trans hb0 hb1
  obtain ⟨e0, e1, e2, e3, e4, e5, e6, e7, e8⟩ := at_cells (o0.step hb1)
  clear hb0 hb1 o0
  go_wp2_with fail
  refine (hc.out _).mono ?_
  rintro e w2 ⟨rfl, hb3⟩
  go_wp2
  go_ret
  exact ⟨rfl, bl_trans hb2 hb3⟩
set_option maxRecDepth 100000 in
set_option maxHeartbeats 800000 in
theorem rbt6 (p : Bool) (M : Int) (A1 : Option Addr) (n1 c1 : Nat) (A2 : Option Addr) (n2 c2 : Nat) (A3 : Option Addr) (n3 c3 : Nat) (f : Int) (A4 : Option Addr) (n4 c4 : Nat) (N : Int) (w : World)
    (hV : Hid (∀ W, Calls Tryd.prog 26 #[.agg #[.int .i64 6, .bool p, .int .u32 N, .int .u32 M, .slice A1 n1 c1, .slice A2 n2 c2, .slice A3 n3 c3, .int .i64 f, .slice A4 n4 c4]] W fun e w' => e = .returned (.bool true) ∧ Below W.heap.size W w')) :
    Calls Tryd.prog 30 #[.agg #[.int .i64 6, .bool p, .int .u32 N, .int .u32 M, .slice A1 n1 c1, .slice A2 n2 c2, .slice A3 n3 c3, .int .i64 f, .slice A4 n4 c4]] w fun e w' => e = .returned (.string ⟨#[97, 116, 111, 109, 105, 99]⟩) ∧ Below w.heap.size w w' := by
  have hb0 := bl_alloc (bl_refl w) (.cells #[.int .i64 6, .bool p, .int .u32 N, .int .u32 M, .slice A1 n1 c1, .slice A2 n2 c2, .slice A3 n3 c3, .int .i64 f, .slice A4 n4 c4] 29)
  have o0 := Own.new w 29 #[.int .i64 6, .bool p, .int .u32 N, .int .u32 M, .slice A1 n1 c1, .slice A2 n2 c2, .slice A3 n3 c3, .int .i64 f, .slice A4 n4 c4]
  go_enter Tryd.func30, Tryd.ntmps30
  go_wp2_with fail
  refine (hV.out _).mono ?_
  rintro e w1 ⟨rfl, hb1⟩
  have hb2 := bl_trans hb0 hb1
  obtain ⟨e0, e1, e2, e3, e4, e5, e6, e7, e8⟩ := at_cells (o0.step hb1)
  clear hb0 hb1 o0
  go_wp2
  go_ret
  exact ⟨rfl, hb2⟩
set_option maxRecDepth 100000 in
theorem rbtext_yes (a : At) (hN : 0 ≤ a.N) (hN2 : a.N < 4294967296) (hv : vOk a = true) (w : World) :
    Calls Tryd.prog 30 #[.agg (atc a)] w fun e w' => e = .returned (.string (bTxt a.k a.N)) ∧ Below w.heap.size w w' := by
  have hV := Lib.hid (fun W => rbvalid_any a W)
  rw [hv] at hV
  obtain ⟨hkn, _, _, h1, _⟩ := vOk_bits hv
  have hk : a.k = 1 ∨ a.k = 3 ∨ a.k = 4 ∨ a.k = 5 ∨ a.k = 6 ∨ a.k = 9 := by
    rcases b_split a.k with h | ⟨h, _⟩
    · exact h
    · unfold bKnown at hkn; rw [h] at hkn; cases hkn
  clear hv hkn
  obtain ⟨k, p, N, M, A1, n1, c1, A2, n2, c2, A3, n3, c3, f, A4, n4, c4⟩ := a
  dsimp only at *
  rcases hk with rfl | rfl | rfl | rfl | rfl | rfl
  · have h3 : N = 0 ∨ N = 1 ∨ N = 2 := by have := h1 rfl; omega
    rcases h3 with rfl | rfl | rfl
    · exact rbt1_0 _ _ _ _ _ _ _ _ _ _ _ _ _ _ _ w hV
    · exact rbt1_1 _ _ _ _ _ _ _ _ _ _ _ _ _ _ _ w hV
    · exact rbt1_2 _ _ _ _ _ _ _ _ _ _ _ _ _ _ _ w hV
  · exact rbt3 _ _ _ _ _ _ _ _ _ _ _ _ _ _ _ N hN hN2 w hV
  · exact rbt4 _ _ _ _ _ _ _ _ _ _ _ _ _ _ _ N hN hN2 w hV
  · exact rbt5 _ _ _ _ _ _ _ _ _ _ _ _ _ _ _ N hN hN2 w hV
  · exact rbt6 _ _ _ _ _ _ _ _ _ _ _ _ _ _ _ N w hV
  · exact rbt9 _ _ _ _ _ _ _ _ _ _ _ _ _ _ _ N hN hN2 w hV
set_option maxRecDepth 100000 in
theorem rbtext_any (a : At) (hN : 0 ≤ a.N) (hN2 : a.N < 4294967296) (w : World) :
    Calls Tryd.prog 30 #[.agg (atc a)] w fun e w' => e = .returned (.string (bT a)) ∧ Below w.heap.size w w' := by
  unfold bT
  cases hv : vOk a with
  | true => exact rbtext_yes a hN hN2 hv w
  | false =>
    have hV := Lib.hid (fun W => rbvalid_any a W)
    rw [hv] at hV
    clear hv hN hN2
    obtain ⟨k, p, N, M, A1, n1, c1, A2, n2, c2, A3, n3, c3, f, A4, n4, c4⟩ := a
    unfold atc at *
    dsimp only at *
    have hb0 := bl_alloc (bl_refl w) (.cells #[.int .i64 k, .bool p, .int .u32 N, .int .u32 M, .slice A1 n1 c1, .slice A2 n2 c2, .slice A3 n3 c3, .int .i64 f, .slice A4 n4 c4] 29)
    go_enter Tryd.func30, Tryd.ntmps30
    go_wp2_with fail
    refine (hV.out _).mono ?_
    rintro e w1 ⟨rfl, hb1⟩
    go_wp2
    go_ret
    exact ⟨rfl, bl_trans hb0 hb1⟩
end Go.Proofs.YtkcejeogacobiaaDoor

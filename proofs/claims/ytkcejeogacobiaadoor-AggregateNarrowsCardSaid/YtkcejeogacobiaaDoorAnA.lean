/- aggregate.Narrow and its reference; lists of attributes compared -/
import Derived.Test.YtkcejeogacobiaaDoorAmC
import Derived.Test.YtkcejeogacobiaaDoorAfC
namespace Go.Proofs.YtkcejeogacobiaaDoor
open Go.RowKit

def at7 (k : Int) (p : Bool) (N M : Int) : At := ⟨k, p, N, M, none, 0, 0, none, 0, 0, none, 0, 0, 0, none, 0, 0⟩
theorem ats_one {w : World} {g : Nat} {T : TypeId} {a : At} (h : Own w g T (atc a)) : Ats w w.heap.size (some ⟨g, 0, none⟩) 1 [a] := by
  refine ⟨rfl, .inr ⟨g, 0, rfl, h.lt, fun i x hi j u hu => ?_⟩⟩
  have hi0 : i = 0 := by have := (List.getElem?_eq_some_iff.1 hi).1; simp at this; omega
  subst hi0
  obtain rfl : a = x := by simpa using hi
  exact h.cell (by simpa using hu)
theorem ats_two {w : World} {g : Nat} {T : TypeId} {a b : At} (h : Own w g T (atc a ++ atc b)) : Ats w w.heap.size (some ⟨g, 0, none⟩) 2 [a, b] := by
  have ha : (atc a).size = 9 := rfl
  refine ⟨rfl, .inr ⟨g, 0, rfl, h.lt, fun i x hi j u hu => ?_⟩⟩
  have hi0 : i < 2 := (List.getElem?_eq_some_iff.1 hi).1
  have hj : j < 9 := (List.getElem?_eq_some_iff.1 hu).1
  rcases (by omega : i = 0 ∨ i = 1) with rfl | rfl
  · obtain rfl : a = x := by simpa using hi
    refine h.cell ?_
    rw [Array.getElem?_append_left (by omega)]
    simpa using hu
  · obtain rfl : b = x := by simpa using hi
    refine h.cell ?_
    rw [Array.getElem?_append_right (by omega), ha]
    simpa using hu
set_option maxRecDepth 100000 in
set_option maxHeartbeats 1600000 in
theorem nar_no (a : At) (w : World) (hN : 0 ≤ a.N) (hN2 : a.N < 4294967296) (h : a.k ≠ 7 ∨ agVal 4 a = false) :
    Calls Tryd.prog 46 #[.agg (atc a)] w fun e w' => e = .returned (.slice none 0 0) ∧ Below w.heap.size w w' := by
  have hV := Lib.hid (fun W => agvalid_any 4 a W hN hN2)
  generalize agVal 4 a = v at *
  clear hN2 hN
  have h7 : (a.k != 7) = true ∨ ((a.k != 7) = false ∧ v = false) := by
    by_cases e : a.k = 7
    · exact .inr ⟨by simp [e], h.resolve_left (by simpa using e)⟩
    · exact .inl (by simpa using e)
  clear h
  rcases h7 with h7 | ⟨h7, rfl⟩
  · obtain ⟨k, p, N, M, A1, n1, c1, A2, n2, c2, A3, n3, c3, f, A4, n4, c4⟩ := a
    unfold atc at *
    dsimp only at *
    have hb0 := bl_alloc (bl_refl w) (.cells #[.int .i64 k, .bool p, .int .u32 N, .int .u32 M, .slice A1 n1 c1, .slice A2 n2 c2, .slice A3 n3 c3, .int .i64 f, .slice A4 n4 c4] 29)
    have o0 := Own.new w 29 #[.int .i64 k, .bool p, .int .u32 N, .int .u32 M, .slice A1 n1 c1, .slice A2 n2 c2, .slice A3 n3 c3, .int .i64 f, .slice A4 n4 c4]
    go_enter Tryd.func46, Tryd.ntmps46
    obtain ⟨e0, e1, e2, e3, e4, e5, e6, e7, e8⟩ := at_cells o0
    go_wp2
    go_ret
    exact ⟨rfl, hb0⟩
  · obtain ⟨k, p, N, M, A1, n1, c1, A2, n2, c2, A3, n3, c3, f, A4, n4, c4⟩ := a
    unfold atc at *
    dsimp only at *
    have hb0 := bl_alloc (bl_refl w) (.cells #[.int .i64 k, .bool p, .int .u32 N, .int .u32 M, .slice A1 n1 c1, .slice A2 n2 c2, .slice A3 n3 c3, .int .i64 f, .slice A4 n4 c4] 29)
    have o0 := Own.new w 29 #[.int .i64 k, .bool p, .int .u32 N, .int .u32 M, .slice A1 n1 c1, .slice A2 n2 c2, .slice A3 n3 c3, .int .i64 f, .slice A4 n4 c4]
    go_enter Tryd.func46, Tryd.ntmps46
    obtain ⟨e0, e1, e2, e3, e4, e5, e6, e7, e8⟩ := at_cells o0
    go_wp2_with fail
    refine (hV.out _).mono ?_
    rintro e w1 ⟨rfl, hb1⟩
    go_wp2
    go_ret
    exact ⟨rfl, bl_trans hb0 hb1⟩
set_option maxRecDepth 100000 in
set_option maxHeartbeats 1600000 in
theorem rnar_no (a : At) (w : World) (hN2 : a.N < 4294967296) (h : a.k ≠ 7 ∨ agVal 4 a = false) :
    Calls Tryd.prog 48 #[.agg (atc a)] w fun e w' => e = .returned (.slice none 0 0) ∧ Below w.heap.size w w' := by
  have hV := Lib.hid (fun W => ragvalid_any 4 a W hN2)
  generalize agVal 4 a = v at *
  clear hN2
  have h7 : (a.k != 7) = true ∨ ((a.k != 7) = false ∧ v = false) := by
    by_cases e : a.k = 7
    · exact .inr ⟨by simp [e], h.resolve_left (by simpa using e)⟩
    · exact .inl (by simpa using e)
  clear h
  cases v
  · clear h7
    obtain ⟨k, p, N, M, A1, n1, c1, A2, n2, c2, A3, n3, c3, f, A4, n4, c4⟩ := a
    unfold atc at *
    dsimp only at *
    have hb0 := bl_alloc (bl_refl w) (.cells #[.int .i64 k, .bool p, .int .u32 N, .int .u32 M, .slice A1 n1 c1, .slice A2 n2 c2, .slice A3 n3 c3, .int .i64 f, .slice A4 n4 c4] 29)
    have o0 := Own.new w 29 #[.int .i64 k, .bool p, .int .u32 N, .int .u32 M, .slice A1 n1 c1, .slice A2 n2 c2, .slice A3 n3 c3, .int .i64 f, .slice A4 n4 c4]
    go_enter Tryd.func48, Tryd.ntmps48
    go_wp2_with fail
    refine (hV.out _).mono ?_
    rintro e w1 ⟨rfl, hb1⟩
    go_wp2
    go_ret
    exact ⟨rfl, bl_trans hb0 hb1⟩
  · have h8 : (a.k != 7) = true := by simpa using h7
    clear h7
    obtain ⟨k, p, N, M, A1, n1, c1, A2, n2, c2, A3, n3, c3, f, A4, n4, c4⟩ := a
    unfold atc at *
    dsimp only at *
    have hb0 := bl_alloc (bl_refl w) (.cells #[.int .i64 k, .bool p, .int .u32 N, .int .u32 M, .slice A1 n1 c1, .slice A2 n2 c2, .slice A3 n3 c3, .int .i64 f, .slice A4 n4 c4] 29)
    have o0 := Own.new w 29 #[.int .i64 k, .bool p, .int .u32 N, .int .u32 M, .slice A1 n1 c1, .slice A2 n2 c2, .slice A3 n3 c3, .int .i64 f, .slice A4 n4 c4]
    go_enter Tryd.func48, Tryd.ntmps48
    go_wp2_with fail
    refine (hV.out _).mono ?_
    rintro e w1 ⟨rfl, hb1⟩
    obtain ⟨e0, e1, e2, e3, e4, e5, e6, e7, e8⟩ := at_cells (o0.step hb1)
    go_wp2
    go_ret
    exact ⟨rfl, bl_trans hb0 hb1⟩
set_option maxRecDepth 100000 in
set_option maxHeartbeats 1600000 in
theorem nar_one (a : At) (w : World) (hN : 0 ≤ a.N) (hN2 : a.N < 4294967296) (h7 : (a.k != 7) = false) (hv : agVal 4 a = true) (hs : agVal 2 (at7 a.k a.p a.N a.M) = true) :
    Calls Tryd.prog 46 #[.agg (atc a)] w fun e w' => ∃ A, e = .returned (.slice A 1 1) ∧ Ats w' w'.heap.size A 1 [at7 a.k a.p a.N a.M] ∧ Below w.heap.size w w' := by
  have hV := Lib.hid (fun W => agvalid_any 4 a W hN hN2)
  have hS := Lib.hid (fun W => agvalid_any 2 (at7 a.k a.p a.N a.M) W hN hN2)
  rw [hv] at hV
  rw [hs] at hS
  clear hv hs hN hN2
  have hat := Lib.hid (fun (W : World) (g : Nat) (T : TypeId) (h : Own W g T (atc (at7 a.k a.p a.N a.M))) => ats_one h)
  unfold at7 at *
  obtain ⟨k, p, N, M, A1, n1, c1, A2, n2, c2, A3, n3, c3, f, A4, n4, c4⟩ := a
  unfold atc at *
  dsimp only at *
  have hb0 := bl_alloc (bl_refl w) (.cells #[.int .i64 k, .bool p, .int .u32 N, .int .u32 M, .slice A1 n1 c1, .slice A2 n2 c2, .slice A3 n3 c3, .int .i64 f, .slice A4 n4 c4] 29)
  have o0 := Own.new w 29 #[.int .i64 k, .bool p, .int .u32 N, .int .u32 M, .slice A1 n1 c1, .slice A2 n2 c2, .slice A3 n3 c3, .int .i64 f, .slice A4 n4 c4]
  go_enter Tryd.func46, Tryd.ntmps46
  obtain ⟨e0, e1, e2, e3, e4, e5, e6, e7, e8⟩ := at_cells o0
  go_wp2_with fail
  refine (hV.out _).mono ?_
  rintro e w1 ⟨rfl, hb1⟩
  have o1 := o0.step hb1
  have hb2 := bl_trans hb0 hb1
  clear hb0 hb1 o0 e0 e1 e2 e3 e4 e5 e6 e7 e8
  obtain ⟨e0, e1, e2, e3, e4, e5, e6, e7, e8⟩ := at_cells o1
  have oN := Own.new w1 29 #[.int .i64 k, .bool p, .int .u32 N, .int .u32 M, .slice none 0 0, .slice none 0 0, .slice none 0 0, .int .i64 0, .slice none 0 0]
  have hb3 := bl_alloc hb2 (.cells #[.int .i64 k, .bool p, .int .u32 N, .int .u32 M, .slice none 0 0, .slice none 0 0, .slice none 0 0, .int .i64 0, .slice none 0 0] 29)
  go_wp2_with fail
  refine (hS.out _).mono ?_
  rintro e w2 ⟨rfl, hb4⟩
  have hb5 := bl_trans hb3 hb4
  obtain ⟨f0, f1, f2, f3, f4, f5, f6, f7, f8⟩ := at_cells (oN.step hb4)
  clear e0 e1 e2 e3 e4 e5 e6 e7 e8 oN hb2 hb3 hb4 o1
  have oL := Own.new w2 29 #[.int .i64 k, .bool p, .int .u32 N, .int .u32 M, .slice none 0 0, .slice none 0 0, .slice none 0 0, .int .i64 0, .slice none 0 0]
  go_wp2
  go_ret
  exact ⟨_, rfl, hat.out _ _ _ oL, bl_alloc hb5 _⟩
set_option maxRecDepth 100000 in
set_option maxHeartbeats 1600000 in
theorem rnar_one (a : At) (w : World) (hN2 : a.N < 4294967296) (h7 : (a.k != 7) = false) (hv : agVal 4 a = true) (hs : a.N ≤ 65535) :
    Calls Tryd.prog 48 #[.agg (atc a)] w fun e w' => ∃ A, e = .returned (.slice A 1 1) ∧ Ats w' w'.heap.size A 1 [a] ∧ Below w.heap.size w w' := by
  have hV := Lib.hid (fun W => ragvalid_any 4 a W hN2)
  rw [hv] at hV
  have d : decide (a.N ≤ 65535) = true := decide_eq_true hs
  clear hv hs hN2
  have hat := Lib.hid (fun (W : World) (g : Nat) (T : TypeId) (h : Own W g T (atc a)) => ats_one h)
  obtain ⟨k, p, N, M, A1, n1, c1, A2, n2, c2, A3, n3, c3, f, A4, n4, c4⟩ := a
  unfold atc at *
  dsimp only at *
  have hb0 := bl_alloc (bl_refl w) (.cells #[.int .i64 k, .bool p, .int .u32 N, .int .u32 M, .slice A1 n1 c1, .slice A2 n2 c2, .slice A3 n3 c3, .int .i64 f, .slice A4 n4 c4] 29)
  have o0 := Own.new w 29 #[.int .i64 k, .bool p, .int .u32 N, .int .u32 M, .slice A1 n1 c1, .slice A2 n2 c2, .slice A3 n3 c3, .int .i64 f, .slice A4 n4 c4]
  go_enter Tryd.func48, Tryd.ntmps48
  go_wp2_with fail
  refine (hV.out _).mono ?_
  rintro e w1 ⟨rfl, hb1⟩
  have hb2 := bl_trans hb0 hb1
  obtain ⟨e0, e1, e2, e3, e4, e5, e6, e7, e8⟩ := at_cells (o0.step hb1)
  have oL := Own.new w1 29 #[.int .i64 k, .bool p, .int .u32 N, .int .u32 M, .slice A1 n1 c1, .slice A2 n2 c2, .slice A3 n3 c3, .int .i64 f, .slice A4 n4 c4]
  go_wp2
  go_ret
  exact ⟨_, rfl, hat.out _ _ _ oL, bl_alloc hb2 _⟩
set_option maxRecDepth 100000 in
set_option maxHeartbeats 3200000 in
theorem nar_two (a : At) (w : World) (hN : 0 ≤ a.N) (hN2 : a.N < 4294967296) (h7 : (a.k != 7) = false) (hv : agVal 4 a = true) (hs : agVal 2 (at7 a.k a.p a.N a.M) = false) :
    Calls Tryd.prog 46 #[.agg (atc a)] w fun e w' => ∃ A, e = .returned (.slice A 2 2) ∧ Ats w' w'.heap.size A 2 [at7 a.k a.p 23456 a.M, at7 18 a.p a.N a.M] ∧ Below w.heap.size w w' := by
  have hV := Lib.hid (fun W => agvalid_any 4 a W hN hN2)
  have hS := Lib.hid (fun W => agvalid_any 2 (at7 a.k a.p a.N a.M) W hN hN2)
  rw [hv] at hV
  rw [hs] at hS
  clear hv hs hN hN2
  have hat := Lib.hid (fun (W : World) (g : Nat) (T : TypeId) (h : Own W g T (atc (at7 a.k a.p 23456 a.M) ++ atc (at7 18 a.p a.N a.M))) => ats_two h)
  unfold at7 at *
  obtain ⟨k, p, N, M, A1, n1, c1, A2, n2, c2, A3, n3, c3, f, A4, n4, c4⟩ := a
  unfold atc at *
  dsimp only at *
  have hb0 := bl_alloc (bl_refl w) (.cells #[.int .i64 k, .bool p, .int .u32 N, .int .u32 M, .slice A1 n1 c1, .slice A2 n2 c2, .slice A3 n3 c3, .int .i64 f, .slice A4 n4 c4] 29)
  have o0 := Own.new w 29 #[.int .i64 k, .bool p, .int .u32 N, .int .u32 M, .slice A1 n1 c1, .slice A2 n2 c2, .slice A3 n3 c3, .int .i64 f, .slice A4 n4 c4]
  go_enter Tryd.func46, Tryd.ntmps46
  obtain ⟨e0, e1, e2, e3, e4, e5, e6, e7, e8⟩ := at_cells o0
  go_wp2_with fail
  refine (hV.out _).mono ?_
  rintro e w1 ⟨rfl, hb1⟩
  have o1 := o0.step hb1
  have hb2 := bl_trans hb0 hb1
  clear hb0 hb1 o0 e0 e1 e2 e3 e4 e5 e6 e7 e8
  obtain ⟨e0, e1, e2, e3, e4, e5, e6, e7, e8⟩ := at_cells o1
  have oN := Own.new w1 29 #[.int .i64 k, .bool p, .int .u32 N, .int .u32 M, .slice none 0 0, .slice none 0 0, .slice none 0 0, .int .i64 0, .slice none 0 0]
  have o2 := o1.alloc (.cells #[.int .i64 k, .bool p, .int .u32 N, .int .u32 M, .slice none 0 0, .slice none 0 0, .slice none 0 0, .int .i64 0, .slice none 0 0] 29)
  have hb3 := bl_alloc hb2 (.cells #[.int .i64 k, .bool p, .int .u32 N, .int .u32 M, .slice none 0 0, .slice none 0 0, .slice none 0 0, .int .i64 0, .slice none 0 0] 29)
  go_wp2_with fail
  refine (hS.out _).mono ?_
  rintro e w2 ⟨rfl, hb4⟩
  have hb5 := bl_trans hb3 hb4
  have p1 := o2.step hb4
  have pN := oN.step hb4
  have hlt := o1.lt
  have hne : w.heap.size ≠ w1.heap.size := by omega
  have hz := hb2.size
  clear e0 e1 e2 e3 e4 e5 e6 e7 e8 oN hb2 hb3 hb4 o1 o2
  have fz := pN.frozen 2
  have sN : Own (w2.setCell ⟨w1.heap.size, 2, none⟩ (.int .u32 23456)) w1.heap.size 29 #[.int .i64 k, .bool p, .int .u32 23456, .int .u32 M, .slice none 0 0, .slice none 0 0, .slice none 0 0, .int .i64 0, .slice none 0 0] := by have := pN.set_ 2 (.int .u32 23456); simpa using this
  have s1 := p1.far (p := ⟨w1.heap.size, 2, none⟩) hne (.int .u32 23456)
  have hb6 := hb5.setCell (p := ⟨w1.heap.size, 2, none⟩) hz (.int .u32 23456)
  obtain ⟨f0, f1, f2, f3, f4, f5, f6, f7, f8⟩ := at_cells pN
  obtain ⟨e0, e1, e2, e3, e4, e5, e6, e7, e8⟩ := at_cells s1
  obtain ⟨g0, g1, g2, g3, g4, g5, g6, g7, g8⟩ := at_cells sN
  have hlN := pN.lt
  have oL := Own.new ((w2.setCell ⟨w1.heap.size, 2, none⟩ (.int .u32 23456)).alloc (.cells #[.int .i64 18, .bool p, .int .u32 N, .int .u32 M, .slice none 0 0, .slice none 0 0, .slice none 0 0, .int .i64 0, .slice none 0 0] 29)) 29 #[.int .i64 k, .bool p, .int .u32 23456, .int .u32 M, .slice none 0 0, .slice none 0 0, .slice none 0 0, .int .i64 0, .slice none 0 0, .int .i64 18, .bool p, .int .u32 N, .int .u32 M, .slice none 0 0, .slice none 0 0, .slice none 0 0, .int .i64 0, .slice none 0 0]
  rw [show ((w2.setCell ⟨w1.heap.size, 2, none⟩ (.int .u32 23456)).alloc (.cells #[.int .i64 18, .bool p, .int .u32 N, .int .u32 M, .slice none 0 0, .slice none 0 0, .slice none 0 0, .int .i64 0, .slice none 0 0] 29)).heap.size = w2.heap.size + 1 by simp] at oL
  have HL := Lib.hid oL
  clear oL
  go_wp2
  go_ret
  exact ⟨_, rfl, hat.out _ _ _ (by simpa using HL.out), bl_alloc (bl_alloc hb6 _) _⟩
set_option maxRecDepth 100000 in
set_option maxHeartbeats 1600000 in
theorem rnar_two (a : At) (w : World) (hN2 : a.N < 4294967296) (h7 : (a.k != 7) = false) (hv : agVal 4 a = true) (hs : ¬ a.N ≤ 65535) :
    Calls Tryd.prog 48 #[.agg (atc a)] w fun e w' => ∃ A, e = .returned (.slice A 2 2) ∧ Ats w' w'.heap.size A 2 [at7 7 a.p 23456 a.M, at7 18 a.p a.N a.M] ∧ Below w.heap.size w w' := by
  have hV := Lib.hid (fun W => ragvalid_any 4 a W hN2)
  rw [hv] at hV
  have d : decide (a.N ≤ 65535) = false := decide_eq_false hs
  clear hv hs hN2
  have hat := Lib.hid (fun (W : World) (g : Nat) (T : TypeId) (h : Own W g T (atc (at7 7 a.p 23456 a.M) ++ atc (at7 18 a.p a.N a.M))) => ats_two h)
  unfold at7 at *
  obtain ⟨k, p, N, M, A1, n1, c1, A2, n2, c2, A3, n3, c3, f, A4, n4, c4⟩ := a
  unfold atc at *
  dsimp only at *
  have hb0 := bl_alloc (bl_refl w) (.cells #[.int .i64 k, .bool p, .int .u32 N, .int .u32 M, .slice A1 n1 c1, .slice A2 n2 c2, .slice A3 n3 c3, .int .i64 f, .slice A4 n4 c4] 29)
  have o0 := Own.new w 29 #[.int .i64 k, .bool p, .int .u32 N, .int .u32 M, .slice A1 n1 c1, .slice A2 n2 c2, .slice A3 n3 c3, .int .i64 f, .slice A4 n4 c4]
  go_enter Tryd.func48, Tryd.ntmps48
  go_wp2_with fail
  refine (hV.out _).mono ?_
  rintro e w1 ⟨rfl, hb1⟩
  have hb2 := bl_trans hb0 hb1
  obtain ⟨e0, e1, e2, e3, e4, e5, e6, e7, e8⟩ := at_cells (o0.step hb1)
  have oL := Own.new w1 29 #[.int .i64 7, .bool p, .int .u32 23456, .int .u32 M, .slice none 0 0, .slice none 0 0, .slice none 0 0, .int .i64 0, .slice none 0 0, .int .i64 18, .bool p, .int .u32 N, .int .u32 M, .slice none 0 0, .slice none 0 0, .slice none 0 0, .int .i64 0, .slice none 0 0]
  have HL := Lib.hid oL
  clear oL
  go_wp2
  go_ret
  exact ⟨_, rfl, hat.out _ _ _ (by simpa using HL.out), bl_alloc hb2 _⟩
set_option maxRecDepth 100000 in
set_option maxHeartbeats 3200000 in
theorem eqfunc_any (A A' : Option Addr) (n c c' : Nat) (aa bb : List At) (w : World) (h : Ats w w.heap.size A n aa) (h' : Ats w w.heap.size A' n bb) (hm : n ≤ 1000000)
    (hS : Hid (∀ i, i < n → ∀ W, Calls Tryd.prog 37 #[.agg (atc (nthA aa i)), .agg (atc (nthA bb i))] W fun e w' => e = .returned (.bool true) ∧ Below W.heap.size W w')) :
    Calls Tryd.prog 47 #[.slice A n c, .slice A' n c', .func (.func 37) #[] #[]] w fun e w' => e = .returned (.bool true) ∧ Below w.heap.size w w' := by
  have HV := Lib.hid h
  have HV' := Lib.hid h'
  clear h h'
  go_enter Tryd.func47, Tryd.ntmps47
  go_wp2_with fail
  go_loopw [17] (fun i wr => (∃ j : Nat, j ≤ n ∧ i = .int .i64 j) ∧ Below w.heap.size w wr) (fun i _ => n - (intOf i).toNat)
  case atStart => exact ⟨⟨0, Nat.zero_le _, rfl⟩, bl_refl w⟩
  case round =>
    obtain ⟨⟨j, hj, rfl⟩, hbw⟩ := hrel
    by_cases hlt : j < n
    · obtain ⟨b, o, rfl, hbB, hrg⟩ := (HV.out.below hbw).at_ hlt
      obtain ⟨b', o', rfl, hbB', hrg'⟩ := (HV'.out.below hbw).at_ hlt
      have hs := Lib.hid (hS.out j hlt)
      generalize nthA aa j = a at *
      generalize nthA bb j = a' at *
      obtain ⟨k, p, N, M, A1, n1, c1, A2, n2, c2, A3, n3, c3, f, A4, n4, c4⟩ := a
      obtain ⟨k', p', N', M', A1', n1', c1', A2', n2', c2', A3', n3', c3', f', A4', n4', c4'⟩ := a'
      unfold atc at *
      dsimp only at *
      obtain ⟨e0, e1, e2, e3, e4, e5, e6, e7, e8⟩ := range9 hrg
      obtain ⟨f0, f1, f2, f3, f4, f5, f6, f7, f8⟩ := range9 hrg'
      have hbs := hbw.size
      have hlb' : b' < wr.heap.size := by omega
      have hb1 := bl_alloc (bl_alloc hbw (.cells #[.int .i64 k, .bool p, .int .u32 N, .int .u32 M, .slice A1 n1 c1, .slice A2 n2 c2, .slice A3 n3 c3, .int .i64 f, .slice A4 n4 c4] 29)) (.cells #[.int .i64 k', .bool p', .int .u32 N', .int .u32 M', .slice A1' n1' c1', .slice A2' n2' c2', .slice A3' n3' c3', .int .i64 f', .slice A4' n4' c4'] 29)
      clear hrg hrg'
      go_wp2_with fail
      go_at_call 37
      refine (hs.out _).mono ?_
      rintro e w2 ⟨rfl, hb2⟩
      have hb3 := bl_trans hb1 hb2
      clear e0 e1 e2 e3 e4 e5 e6 e7 e8 f0 f1 f2 f3 f4 f5 f6 f7 f8
      go_wp2
      go_roundw
      case rel => exact ⟨⟨j + 1, by omega, by go_num⟩, hb3⟩
      case measure => simp [intOf]; omega
    · obtain rfl : j = n := by omega
      go_wp2
      go_ret
      exact ⟨rfl, hbw⟩
end Go.Proofs.YtkcejeogacobiaaDoor

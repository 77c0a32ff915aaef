/- AggregateWidths: the walk -/
import Derived.Test.YtkcejeogacobiaaDoorAwA
import Derived.Test.YtkcejeogacobiaaDoorAgE
namespace Go.Proofs.YtkcejeogacobiaaDoor
open Go.RowKit Go.Sort

set_option maxRecDepth 100000 in
set_option maxHeartbeats 3200000 in
theorem agwid_core (a : At) (w : World) (ht : Tens w) (n m : Nat) (xs ys : List Int) (k1 N1 M1 k2 N2 M2 : Int) (v : Int) (q : Bool) (hn : n ≤ 100) (hm : m ≤ 100)
    (hS : Hid (∀ W, Below w.heap.size w W → Calls Tryd.prog 38 #[.agg (atc a)] W fun e w' => e = .returned (.bool true) ∧ Below W.heap.size W w'))
    (hV : Hid (∀ W, Calls Tryd.prog 39 #[.int .i64 2, .agg (atc a)] W fun e w' => e = .returned (.bool true) ∧ Below W.heap.size W w'))
    (hB2 : Hid (∀ W, Calls Tryd.prog 36 #[.int .i64 2, .agg (atc a)] W fun e w' => ∃ A, e = .returned (.tuple #[.slice A n n, .bool true]) ∧ Bytes w' w'.heap.size A n xs ∧ Below W.heap.size W w'))
    (hB4 : Hid (∀ W, Calls Tryd.prog 36 #[.int .i64 4, .agg (atc a)] W fun e w' => ∃ A, e = .returned (.tuple #[.slice A m m, .bool true]) ∧ Bytes w' w'.heap.size A m ys ∧ Below W.heap.size W w'))
    (hR4 : Hid (∀ W A, Bytes W W.heap.size A n xs → Calls Tryd.prog 34 #[.int .i64 4, .int .i64 a.k, .slice A n n] W fun e w' => e = .returned (.tuple #[.agg (agV k1 N1 M1), .int .i64 v]) ∧ Below W.heap.size W w'))
    (hR2 : Hid (∀ W A, Bytes W W.heap.size A m ys → Calls Tryd.prog 34 #[.int .i64 2, .int .i64 a.k, .slice A m m] W fun e w' => e = .returned (.tuple #[.agg (agV k2 N2 M2), .int .i64 v]) ∧ Below W.heap.size W w'))
    (hk : (a.k == 18) = q) (hv : (v == 0) = q) (hE : decide (xs = ys) = q) :
    Calls Tryd.prog 9 #[.agg (atc a)] w fun e w' => e = .returned (.bool true) ∧ Below w.heap.size w w' := by
  have HE := Lib.hid hE
  have qq : (q == q) = true := by simp
  clear hE
  obtain ⟨k, p, N, M, A1, n1, c1, A2, n2, c2, A3, n3, c3, f, A4, n4, c4⟩ := a
  unfold atc agV at *
  dsimp only at *
  have hb0 := bl_alloc (bl_refl w) (.cells #[.int .i64 k, .bool p, .int .u32 N, .int .u32 M, .slice A1 n1 c1, .slice A2 n2 c2, .slice A3 n3 c3, .int .i64 f, .slice A4 n4 c4] 29)
  have o0 := Own.new w 29 #[.int .i64 k, .bool p, .int .u32 N, .int .u32 M, .slice A1 n1 c1, .slice A2 n2 c2, .slice A3 n3 c3, .int .i64 f, .slice A4 n4 c4]
  go_enter Tryd.func9, Tryd.ntmps9
  go_wp2_with fail
  refine (hS.out _ hb0).mono ?_
  rintro e w1 ⟨rfl, hb1⟩
  have o1 := o0.step hb1
  have hb2 := bl_trans hb0 hb1
  clear hb0 hb1 o0
  obtain ⟨e0, e1, e2, e3, e4, e5, e6, e7, e8⟩ := at_cells o1
  go_wp2_with fail
  refine (hV.out _).mono ?_
  rintro e w2 ⟨rfl, hb3⟩
  have o2 := o1.step hb3
  have hb4 := bl_trans hb2 hb3
  clear hb2 hb3 o1 e0 e1 e2 e3 e4 e5 e6 e7 e8
  obtain ⟨e0, e1, e2, e3, e4, e5, e6, e7, e8⟩ := at_cells o2
  go_wp2_with fail
  refine (hB2.out _).mono ?_
  rintro e w3 ⟨B, rfl, hx, hb5⟩
  have o3 := o2.step hb5
  have hb6 := bl_trans hb4 hb5
  clear hb4 hb5 o2 e0 e1 e2 e3 e4 e5 e6 e7 e8
  obtain ⟨e0, e1, e2, e3, e4, e5, e6, e7, e8⟩ := at_cells o3
  go_wp2_with fail
  refine (hB4.out _).mono ?_
  rintro e w4 ⟨C, rfl, hy, hb7⟩
  have o4 := o3.step hb7
  have hb8 := bl_trans hb6 hb7
  have hx4 := (hx.below hb7).more hb7.size
  clear hb6 hb7 o3 e0 e1 e2 e3 e4 e5 e6 e7 e8 hx
  obtain ⟨e0, e1, e2, e3, e4, e5, e6, e7, e8⟩ := at_cells o4
  go_wp2_with fail
  refine (hR4.out _ _ hx4).mono ?_
  rintro e w5 ⟨rfl, hb9⟩
  have hal5 : Below w5.heap.size w5 (w5.alloc (.cells #[.int .i64 k1, .bool false, .int .u32 N1, .int .u32 M1, .slice none 0 0, .slice none 0 0, .slice none 0 0, .int .i64 0, .slice none 0 0] 29)) := bl_alloc (bl_refl w5) _
  have o5 := (o4.step hb9).step hal5
  have hb10 := bl_trans (bl_trans hb8 hb9) hal5
  have hx5 := (hx4.below hb9).more hb9.size
  have hx6 := Lib.hid ((hx5.below hal5).more hal5.size)
  have hy5 := (hy.below hb9).more hb9.size
  have hy6 := (hy5.below hal5).more hal5.size
  clear hb8 hb9 o4 e0 e1 e2 e3 e4 e5 e6 e7 e8 hx4 hx5 hy hy5 hal5
  obtain ⟨e0, e1, e2, e3, e4, e5, e6, e7, e8⟩ := at_cells o5
  go_wp2_with fail
  refine (hR2.out _ _ hy6).mono ?_
  rintro e w6 ⟨rfl, hb11⟩
  have hal6 : Below w6.heap.size w6 (w6.alloc (.cells #[.int .i64 k2, .bool false, .int .u32 N2, .int .u32 M2, .slice none 0 0, .slice none 0 0, .slice none 0 0, .int .i64 0, .slice none 0 0] 29)) := bl_alloc (bl_refl w6) _
  have o6 := (o5.step hb11).step hal6
  have hb12 := bl_trans (bl_trans hb10 hb11) hal6
  have hx7 := (hx6.out.below hb11).more hb11.size
  have hx8 := Lib.hid ((hx7.below hal6).more hal6.size)
  have hy7 := (hy6.below hb11).more hb11.size
  have hy8 := Lib.hid ((hy7.below hal6).more hal6.size)
  clear hb10 hb11 o5 e0 e1 e2 e3 e4 e5 e6 e7 e8 hx6 hx7 hy6 hy7 hal6
  obtain ⟨e0, e1, e2, e3, e4, e5, e6, e7, e8⟩ := at_cells o6
  go_wp2_with fail
  refine (alive08_any _ (ht.below hb12)).mono ?_
  rintro e w7 ⟨rfl, hb13⟩
  have hb14 := bl_trans hb12 hb13
  have hx9 := (hx8.out.below hb13).more hb13.size
  have hy9 := (hy8.out.below hb13).more hb13.size
  clear hb12 hb13 o6 e0 e1 e2 e3 e4 e5 e6 e7 e8
  go_wp2_with fail
  refine (bytesEq_any B C n m n m xs ys _ _ _ hx9 hy9 (by omega) (by omega)).mono ?_
  rw [HE.out]
  rintro e w8 ⟨rfl, j, rfl⟩
  go_wp2
  go_ret
  exact ⟨rfl, bl_drewN hb14 j⟩
set_option maxRecDepth 100000 in
set_option maxHeartbeats 1600000 in
theorem agwid_al (a : At) (w : World) (ht : Tens w) (S V : Bool) (h : S = false ∨ V = false)
    (hS : Hid (∀ W, Below w.heap.size w W → Calls Tryd.prog 38 #[.agg (atc a)] W fun e w' => e = .returned (.bool S) ∧ Below W.heap.size W w'))
    (hV : Hid (∀ W, Calls Tryd.prog 39 #[.int .i64 2, .agg (atc a)] W fun e w' => e = .returned (.bool V) ∧ Below W.heap.size W w')) :
    Calls Tryd.prog 9 #[.agg (atc a)] w fun e w' => e = .returned (.bool true) ∧ Below w.heap.size w w' := by
  obtain ⟨k, p, N, M, A1, n1, c1, A2, n2, c2, A3, n3, c3, f, A4, n4, c4⟩ := a
  unfold atc at *
  dsimp only at *
  have hb0 := bl_alloc (bl_refl w) (.cells #[.int .i64 k, .bool p, .int .u32 N, .int .u32 M, .slice A1 n1 c1, .slice A2 n2 c2, .slice A3 n3 c3, .int .i64 f, .slice A4 n4 c4] 29)
  have o0 := Own.new w 29 #[.int .i64 k, .bool p, .int .u32 N, .int .u32 M, .slice A1 n1 c1, .slice A2 n2 c2, .slice A3 n3 c3, .int .i64 f, .slice A4 n4 c4]
  cases S
  · clear h
    go_enter Tryd.func9, Tryd.ntmps9
    go_wp2_with fail
    refine (hS.out _ hb0).mono ?_
    rintro e w1 ⟨rfl, hb1⟩
    have hb2 := bl_trans hb0 hb1
    go_wp2_with fail
    refine (alive08_any _ (ht.below hb2)).mono ?_
    rintro e w2 ⟨rfl, hb3⟩
    go_wp2
    go_ret
    exact ⟨rfl, bl_trans hb2 hb3⟩
  · obtain rfl : V = false := by simpa using h
    clear h
    go_enter Tryd.func9, Tryd.ntmps9
    go_wp2_with fail
    refine (hS.out _ hb0).mono ?_
    rintro e w1 ⟨rfl, hb1⟩
    have hb2 := bl_trans hb0 hb1
    obtain ⟨e0, e1, e2, e3, e4, e5, e6, e7, e8⟩ := at_cells (o0.step hb1)
    go_wp2_with fail
    refine (hV.out _).mono ?_
    rintro e w2 ⟨rfl, hb3⟩
    have hb4 := bl_trans hb2 hb3
    go_wp2_with fail
    refine (alive08_any _ (ht.below hb4)).mono ?_
    rintro e w3 ⟨rfl, hb5⟩
    go_wp2
    go_ret
    exact ⟨rfl, bl_trans hb4 hb5⟩
theorem agForm_range (s : Nat) (N M : Int) : ∀ x ∈ agForm s N M, 0 ≤ x ∧ x ≤ 255 := by
  intro x hx
  rcases List.mem_append.1 hx with h | h
  · exact digitsOf_range _ _ x h
  · exact digitsOf_range _ _ x h
set_option maxRecDepth 100000 in
theorem agwid_walk (a : At) (w : World) (ht : Tens w) (hin : AtIn w a) :
    Calls Tryd.prog 9 #[.agg (atc a)] w fun e w' => e = .returned (.bool true) ∧ Below w.heap.size w w' := by
  obtain ⟨_, hN, hM, _, ⟨g1, g2, ss, g3⟩, _⟩ := hin
  have hS := Lib.hid (fun (W : World) (h : Below w.heap.size w W) => small08_any a ss W ((g3.below h).more h.size) (Nat.le_trans g1 g2))
  have hV := Lib.hid (fun (W : World) => ragvalid_any 2 a W hN.2)
  cases hs : smallB a ss with
  | false => exact agwid_al a w ht false (agVal 2 a) (.inl rfl) (by rw [hs] at hS; exact hS) hV
  | true =>
    rw [hs] at hS
    cases hv : agVal 2 a with
    | false => exact agwid_al a w ht true false (.inr rfl) hS (by rw [hv] at hV; exact hV)
    | true =>
      rw [hv] at hV
      obtain ⟨h1, h2, h3⟩ := agval_parts hv
      have hk : agHas a.k = true := by unfold agHnd at h1; simp at h1; exact h1
      have h41 : agHnd 4 a.k = true := by unfold agHnd; rw [hk]; rfl
      have h44 : agSize 4 a.k = 4 := by unfold agSize; split <;> rfl
      have hv4 : agVal 4 a = true := by
        unfold agVal
        rw [h41, h2, h44]
        have : (256 : Int) ^ (4 : Int).toNat = 4294967296 := by decide
        simp only [Bool.true_and, decide_eq_true_eq]
        omega
      have hB4 := Lib.hid (fun W => agbytes_yes 4 a W hN.1 hN.2 hM.1 hM.2 hv4 4 h44 (.inr rfl))
      by_cases h18 : a.k = 18
      · have h24 : agSize 2 a.k = 4 := by unfold agSize; rw [if_pos h18]
        refine agwid_core a w ht (4 + 4) (4 + 4) (agForm 4 a.N a.M) (agForm 4 a.N a.M) a.k (big ((agForm 4 a.N a.M).take 4)) (big ((agForm 4 a.N a.M).drop 4)) a.k (big ((agForm 4 a.N a.M).take 4)) (big ((agForm 4 a.N a.M).drop 4)) 0 true (by omega) (by omega) hS hV
          (Lib.hid (fun W => agbytes_yes 2 a W hN.1 hN.2 hM.1 hM.2 hv 4 h24 (.inr rfl))) hB4
          (Lib.hid (fun W A hx => agread_yes 4 a.k A _ _ _ W hx h41 4 h44 (.inr rfl) rfl))
          (Lib.hid (fun W A hx => agread_yes 2 a.k A _ _ _ W hx h1 4 h24 (.inr rfl) rfl)) (by rw [h18]; rfl) rfl (by simp)
      · have h22 : agSize 2 a.k = 2 := by unfold agSize; rw [if_neg h18]
        refine agwid_core a w ht (2 + 4) (4 + 4) (agForm 2 a.N a.M) (agForm 4 a.N a.M) 0 0 0 0 0 0 1 false (by omega) (by omega) hS hV
          (Lib.hid (fun W => agbytes_yes 2 a W hN.1 hN.2 hM.1 hM.2 hv 2 h22 (.inl rfl))) hB4
          (Lib.hid (fun W A _ => agread_no 4 a.k A _ _ W (.inr ⟨4, h44, by omega, by omega⟩)))
          (Lib.hid (fun W A _ => agread_no 2 a.k A _ _ W (.inr ⟨2, h22, by omega, by omega⟩))) (by simpa using h18) rfl (decide_eq_false (fun e => by have := congrArg List.length e; rw [agForm_len, agForm_len] at this; omega))
end Go.Proofs.YtkcejeogacobiaaDoor

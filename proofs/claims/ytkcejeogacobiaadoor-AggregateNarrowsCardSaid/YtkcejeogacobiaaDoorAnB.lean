/- AggregateNarrows: the walk -/
import Derived.Test.YtkcejeogacobiaaDoorAnA
namespace Go.Proofs.YtkcejeogacobiaaDoor
open Go.RowKit

set_option maxRecDepth 100000 in
set_option maxHeartbeats 3200000 in
theorem agnar_none (a : At) (w : World) (ht : Tens w) (hN : 0 ≤ a.N) (hN2 : a.N < 4294967296) (hS : Hid (∀ W, Below w.heap.size w W → Calls Tryd.prog 38 #[.agg (atc a)] W fun e w' => e = .returned (.bool true) ∧ Below W.heap.size W w')) (h : a.k ≠ 7 ∨ agVal 4 a = false) :
    Calls Tryd.prog 11 #[.agg (atc a)] w fun e w' => e = .returned (.bool true) ∧ Below w.heap.size w w' := by
  have hA := Lib.hid (fun W => nar_no a W hN hN2 h)
  have hB := Lib.hid (fun W => rnar_no a W hN2 h)
  have hV := Lib.hid (fun W => ragvalid_any 4 a W hN2)
  have hE := Lib.hid (fun (W : World) => eqfunc_any none none 0 0 0 [] [] W ⟨rfl, .inl rfl⟩ ⟨rfl, .inl rfl⟩ (by omega) (Lib.hid (fun i hi => absurd hi (by omega))))
  generalize agVal 4 a = v at *
  clear hN hN2
  have h7 : (a.k != 7) = true ∨ ((a.k != 7) = false ∧ v = false) := by
    by_cases e : a.k = 7
    · exact .inr ⟨by simp [e], h.resolve_left (by simpa using e)⟩
    · exact .inl (by simpa using e)
  clear h
  obtain ⟨k, p, N, M, A1, n1, c1, A2, n2, c2, A3, n3, c3, f, A4, n4, c4⟩ := a
  unfold atc at *
  dsimp only at *
  have hb0 := bl_alloc (bl_refl w) (.cells #[.int .i64 k, .bool p, .int .u32 N, .int .u32 M, .slice A1 n1 c1, .slice A2 n2 c2, .slice A3 n3 c3, .int .i64 f, .slice A4 n4 c4] 29)
  have o0 := Own.new w 29 #[.int .i64 k, .bool p, .int .u32 N, .int .u32 M, .slice A1 n1 c1, .slice A2 n2 c2, .slice A3 n3 c3, .int .i64 f, .slice A4 n4 c4]
  go_enter Tryd.func11, Tryd.ntmps11
  go_wp2_with fail
  refine (hS.out _ hb0).mono ?_
  rintro e w1 ⟨rfl, hb1⟩
  have o1 := o0.step hb1
  have hb2 := bl_trans hb0 hb1
  clear hb0 hb1 o0
  obtain ⟨e0, e1, e2, e3, e4, e5, e6, e7, e8⟩ := at_cells o1
  go_wp2_with fail
  refine (hA.out _).mono ?_
  rintro e w2 ⟨rfl, hb3⟩
  have o2 := o1.step hb3
  have hb4 := bl_trans hb2 hb3
  clear hb2 hb3 o1 e0 e1 e2 e3 e4 e5 e6 e7 e8
  obtain ⟨e0, e1, e2, e3, e4, e5, e6, e7, e8⟩ := at_cells o2
  go_wp2_with fail
  refine (hB.out _).mono ?_
  rintro e w3 ⟨rfl, hb5⟩
  have o3 := o2.step hb5
  have hb6 := bl_trans hb4 hb5
  clear hb4 hb5 o2 e0 e1 e2 e3 e4 e5 e6 e7 e8
  go_wp2_with fail
  refine (hE.out _).mono ?_
  rintro e w4 ⟨rfl, hb7⟩
  have o4 := o3.step hb7
  have hb8 := bl_trans hb6 hb7
  clear hb6 hb7 o3
  go_wp2_with fail
  go_loopw [21] (fun i wr => i = .int .i64 0 ∧ wr = w4) (fun _ _ => 0)
  case atStart => exact ⟨rfl, rfl⟩
  case round =>
    obtain ⟨rfl, rfl⟩ := hrel
    go_wp2_with fail
    refine (alive08_any _ (ht.below hb8)).mono ?_
    rintro e w5 ⟨rfl, hb9⟩
    have o5 := o4.step hb9
    have hb10 := bl_trans hb8 hb9
    obtain ⟨e0, e1, e2, e3, e4, e5, e6, e7, e8⟩ := at_cells o5
    go_wp2_with fail
    refine (hV.out _).mono ?_
    rintro e w6 ⟨rfl, hb11⟩
    have hb12 := bl_trans hb10 hb11
    obtain ⟨f0, f1, f2, f3, f4, f5, f6, f7, f8⟩ := at_cells (o5.step hb11)
    clear e0 e1 e2 e3 e4 e5 e6 e7 e8
    rcases h7 with h7 | ⟨h7, rfl⟩
    · cases v
      · go_wp2
        go_ret
        exact ⟨rfl, hb12⟩
      · go_wp2
        go_ret
        exact ⟨rfl, hb12⟩
    · go_wp2
      go_ret
      exact ⟨rfl, hb12⟩
set_option maxRecDepth 100000 in
set_option maxHeartbeats 3200000 in
theorem agnar_core (a : At) (w : World) (ht : Tens w) (hS : Hid (∀ W, Below w.heap.size w W → Calls Tryd.prog 38 #[.agg (atc a)] W fun e w' => e = .returned (.bool true) ∧ Below W.heap.size W w')) (n : Nat) (aa bb : List At) (hn : 1 ≤ n) (hm : n ≤ 10)
    (hA : Hid (∀ W, Calls Tryd.prog 46 #[.agg (atc a)] W fun e w' => ∃ A, e = .returned (.slice A n n) ∧ Ats w' w'.heap.size A n aa ∧ Below W.heap.size W w'))
    (hB : Hid (∀ W, Calls Tryd.prog 48 #[.agg (atc a)] W fun e w' => ∃ A, e = .returned (.slice A n n) ∧ Ats w' w'.heap.size A n bb ∧ Below W.heap.size W w'))
    (hE : Hid (∀ i, i < n → ∀ W, Calls Tryd.prog 37 #[.agg (atc (nthA aa i)), .agg (atc (nthA bb i))] W fun e w' => e = .returned (.bool true) ∧ Below W.heap.size W w'))
    (hV : Hid (∀ x ∈ aa, ∀ W, Calls Tryd.prog 41 #[.int .i64 2, .agg (atc x)] W fun e w' => e = .returned (.bool true) ∧ Below W.heap.size W w'))
    (hM : Hid (∀ W A, Ats W W.heap.size A n aa → Calls Tryd.prog 49 #[.slice A n n] W fun e w' => ∃ y, e = .returned (.tuple #[.agg (atc y), .bool true]) ∧ (y.k = a.k ∧ y.p = a.p ∧ y.N = a.N ∧ y.M = a.M ∧ bareB y = true) ∧ Below W.heap.size W w')) (hbare : bareB a = true) :
    Calls Tryd.prog 11 #[.agg (atc a)] w fun e w' => e = .returned (.bool true) ∧ Below w.heap.size w w' := by
  have hSS := Lib.hid (fun (y : At) (h : y.k = a.k ∧ y.p = a.p ∧ y.N = a.N ∧ y.M = a.M ∧ bareB y = true) W => rsame08_eq y a W h.1 h.2.1 h.2.2.1 h.2.2.2.1 h.2.2.2.2 hbare)
  have hlen := Lib.hid (show ∀ W B A, Ats W B A n aa → n = aa.length from fun W B A h => h.1)
  have dn : ((n : Int) == 0) = false := by simp; omega
  clear hbare
  obtain ⟨k, p, N, M, A1, n1, c1, A2, n2, c2, A3, n3, c3, f, A4, n4, c4⟩ := a
  unfold atc at *
  dsimp only at *
  have hb0 := bl_alloc (bl_refl w) (.cells #[.int .i64 k, .bool p, .int .u32 N, .int .u32 M, .slice A1 n1 c1, .slice A2 n2 c2, .slice A3 n3 c3, .int .i64 f, .slice A4 n4 c4] 29)
  have o0 := Own.new w 29 #[.int .i64 k, .bool p, .int .u32 N, .int .u32 M, .slice A1 n1 c1, .slice A2 n2 c2, .slice A3 n3 c3, .int .i64 f, .slice A4 n4 c4]
  go_enter Tryd.func11, Tryd.ntmps11
  go_wp2_with fail
  refine (hS.out _ hb0).mono ?_
  rintro e w1 ⟨rfl, hb1⟩
  have o1 := o0.step hb1
  have hb2 := bl_trans hb0 hb1
  clear hb0 hb1 o0
  obtain ⟨e0, e1, e2, e3, e4, e5, e6, e7, e8⟩ := at_cells o1
  go_wp2_with fail
  refine (hA.out _).mono ?_
  rintro e w2 ⟨A, rfl, hx, hb3⟩
  have o2 := o1.step hb3
  have hb4 := bl_trans hb2 hb3
  clear hb2 hb3 o1 e0 e1 e2 e3 e4 e5 e6 e7 e8
  obtain ⟨e0, e1, e2, e3, e4, e5, e6, e7, e8⟩ := at_cells o2
  go_wp2_with fail
  refine (hB.out _).mono ?_
  rintro e w3 ⟨B, rfl, hy, hb5⟩
  have o3 := o2.step hb5
  have hb6 := bl_trans hb4 hb5
  have hx3 := (hx.below hb5).more hb5.size
  clear hb4 hb5 o2 hx e0 e1 e2 e3 e4 e5 e6 e7 e8
  go_wp2_with fail
  refine (eqfunc_any A B n n n aa bb _ hx3 hy (by omega) hE).mono ?_
  rintro e w4 ⟨rfl, hb7⟩
  have o4 := o3.step hb7
  have hb8 := bl_trans hb6 hb7
  have HX := Lib.hid ((hx3.below hb7).more hb7.size)
  have HLN := Lib.hid (hlen.out _ _ _ HX.out)
  clear hb6 hb7 o3 hx3 hy
  go_wp2_with fail
  go_loopw [21] (fun i wr => (∃ j : Nat, j ≤ n ∧ i = .int .i64 j) ∧ Below w4.heap.size w4 wr) (fun i _ => n - (intOf i).toNat)
  case atStart => exact ⟨⟨0, Nat.zero_le _, rfl⟩, bl_refl w4⟩
  case round =>
    obtain ⟨⟨j, hj, rfl⟩, hbw⟩ := hrel
    by_cases hlt : j < n
    · obtain ⟨b, o, rfl, hbB, hrg⟩ := (HX.out.below hbw).at_ hlt
      have hv := Lib.hid (hV.out _ (nthA_mem (aa := aa) (i := j) (by have := HLN.out; omega)))
      generalize nthA aa j = x at *
      obtain ⟨k', p', N', M', A1', n1', c1', A2', n2', c2', A3', n3', c3', f', A4', n4', c4'⟩ := x
      dsimp only at *
      obtain ⟨f0, f1, f2, f3, f4, f5, f6, f7, f8⟩ := range9 hrg
      have hbs := hbw.size
      have hb1 := bl_alloc hbw (.cells #[.int .i64 k', .bool p', .int .u32 N', .int .u32 M', .slice A1' n1' c1', .slice A2' n2' c2', .slice A3' n3' c3', .int .i64 f', .slice A4' n4' c4'] 29)
      clear hrg
      go_wp2_with fail
      refine (hv.out _).mono ?_
      rintro e w5 ⟨rfl, hb9⟩
      have hb10 := bl_trans hb1 hb9
      clear f0 f1 f2 f3 f4 f5 f6 f7 f8 hb1 hb9 hbw
      go_wp2
      go_roundw
      case rel => exact ⟨⟨j + 1, by omega, by go_num⟩, hb10⟩
      case measure => simp [intOf]; omega
    · obtain rfl : j = n := by omega
      have o5 := o4.step hbw
      have hb9 := bl_trans hb8 hbw
      have hx5 := (HX.out.below hbw).more hbw.size
      clear o4 hbw
      go_wp2_with fail
      refine (hM.out _ _ hx5).mono ?_
      rintro e w6 ⟨y, rfl, hR, hb10⟩
      have HS2 := Lib.hid (hSS.out y hR)
      clear hR hx5
      obtain ⟨k', p', N', M', A1', n1', c1', A2', n2', c2', A3', n3', c3', f', A4', n4', c4'⟩ := y
      dsimp only at *
      have p1 := (o5.step hb10).alloc (.cells #[.int .i64 k', .bool p', .int .u32 N', .int .u32 M', .slice A1' n1' c1', .slice A2' n2' c2', .slice A3' n3' c3', .int .i64 f', .slice A4' n4' c4'] 29)
      have p2 := Own.new w6 29 #[.int .i64 k', .bool p', .int .u32 N', .int .u32 M', .slice A1' n1' c1', .slice A2' n2' c2', .slice A3' n3' c3', .int .i64 f', .slice A4' n4' c4']
      have hb11 := bl_alloc (bl_trans hb9 hb10) (.cells #[.int .i64 k', .bool p', .int .u32 N', .int .u32 M', .slice A1' n1' c1', .slice A2' n2' c2', .slice A3' n3' c3', .int .i64 f', .slice A4' n4' c4'] 29)
      clear o5 hb9 hb10
      go_wp2_with fail
      refine (alive08_any _ (ht.below hb11)).mono ?_
      rintro e w7 ⟨rfl, hb12⟩
      obtain ⟨e0, e1, e2, e3, e4, e5, e6, e7, e8⟩ := at_cells (p1.step hb12)
      obtain ⟨f0, f1, f2, f3, f4, f5, f6, f7, f8⟩ := at_cells (p2.step hb12)
      have hb13 := bl_trans hb11 hb12
      clear p1 p2 hb11 hb12
      go_wp2_with fail
      refine (HS2.out _).mono ?_
      rintro e w8 ⟨rfl, hb14⟩
      go_wp2
      go_ret
      exact ⟨rfl, bl_trans hb13 hb14⟩
theorem bare7 (k : Int) (p : Bool) (N M : Int) : bareB (at7 k p N M) = true := by unfold bareB at7; simp
theorem val7 {k : Int} (p : Bool) {N : Int} (M : Int) {wd : Int} (h : agHnd wd k = true) (hN : N < 256 ^ (agSize wd k).toNat) : agVal wd (at7 k p N M) = true := by
  unfold agVal
  rw [bare7]
  show (agHnd wd k && true && decide (N < 256 ^ (agSize wd k).toNat)) = true
  rw [h, decide_eq_true hN]; rfl
set_option maxRecDepth 100000 in
theorem agnar_walk (a : At) (w : World) (ht : Tens w) (hin : AtIn w a) : Calls Tryd.prog 11 #[.agg (atc a)] w fun e w' => e = .returned (.bool true) ∧ Below w.heap.size w w' := by
  obtain ⟨_, hN, hM, _, ⟨g1, g2, ss, g3⟩, _⟩ := hin
  have hS := Lib.hid (fun (W : World) (h : Below w.heap.size w W) => small08_any a ss W ((g3.below h).more h.size) (Nat.le_trans g1 g2))
  cases hs : smallB a ss with
  | false =>
    rw [hs] at hS
    clear hs g1 g2 g3 hN hM
    obtain ⟨k, p, N, M, A1, n1, c1, A2, n2, c2, A3, n3, c3, f, A4, n4, c4⟩ := a
    unfold atc at *
    dsimp only at *
    have hb0 := bl_alloc (bl_refl w) (.cells #[.int .i64 k, .bool p, .int .u32 N, .int .u32 M, .slice A1 n1 c1, .slice A2 n2 c2, .slice A3 n3 c3, .int .i64 f, .slice A4 n4 c4] 29)
    go_enter Tryd.func11, Tryd.ntmps11
    go_wp2_with fail
    refine (hS.out _ hb0).mono ?_
    rintro e w1 ⟨rfl, hb1⟩
    have hb2 := bl_trans hb0 hb1
    go_wp2_with fail
    refine (alive08_any _ (ht.below hb2)).mono ?_
    rintro e w2 ⟨rfl, hb3⟩
    go_wp2
    go_ret
    exact ⟨rfl, bl_trans hb2 hb3⟩
  | true =>
    rw [hs] at hS
    by_cases h7 : a.k = 7
    · cases hv : agVal 4 a with
      | false => exact agnar_none a w ht hN.1 hN.2 hS (.inr hv)
      | true =>
        have hb := agval_bare hv
        have h7b : (a.k != 7) = false := by simp [h7]
        have h27 : agHnd 2 a.k = true := by rw [h7]; rfl
        have h47 : agHnd 4 a.k = true := by rw [h7]; rfl
        have s27 : (agSize 2 a.k).toNat = 2 := by rw [h7]; rfl
        have s47 : (agSize 4 a.k).toNat = 4 := by rw [h7]; rfl
        have p2 : (256 : Int) ^ 2 = 65536 := by decide
        have p4 : (256 : Int) ^ 4 = 4294967296 := by decide
        by_cases hle : a.N ≤ 65535
        · have hs2 : agVal 2 (at7 a.k a.p a.N a.M) = true := val7 _ _ h27 (by rw [s27, p2]; omega)
          have hs4 : agVal 4 (at7 a.k a.p a.N a.M) = true := val7 _ _ h47 (by rw [s47, p4]; omega)
          refine agnar_core a w ht hS 1 [at7 a.k a.p a.N a.M] [a] (by omega) (by omega) (Lib.hid (fun W => nar_one a W hN.1 hN.2 h7b hv hs2)) (Lib.hid (fun W => rnar_one a W hN.2 h7b hv hle)) (Lib.hid ?_) (Lib.hid ?_) (Lib.hid ?_) hb
          · intro i hi W
            obtain rfl : i = 0 := by omega
            exact rsame08_eq (at7 a.k a.p a.N a.M) a W rfl rfl rfl rfl (bare7 _ _ _ _) hb
          · intro x hx W
            rw [List.mem_singleton] at hx
            subst hx
            have := agvalid_any 2 (at7 a.k a.p a.N a.M) W hN.1 hN.2
            rw [hs2] at this
            exact this
          · intro W A hA
            refine (merge_any A 1 1 _ W hA (by unfold maxLen; omega) (fun x hx => by rw [List.mem_singleton] at hx; subst hx; exact hN)).mono ?_
            rintro e w' ⟨y, q, rfl, hR, hb2⟩
            have h1 : MrgR [at7 a.k a.p a.N a.M] (at7 a.k a.p a.N a.M) true := .inr ⟨rfl, fun x hx => by rw [List.mem_singleton] at hx; subst hx; exact hs4, bare7 _ _ _ _, at7 a.k a.p a.N a.M, by simp [at7, h7], rfl, rfl, .inr ⟨.inl (by simp [at7, h7]), rfl, rfl⟩⟩
            obtain ⟨d1, d2, d3, d4, d5, d6, _⟩ := mrg_det hR h1
            exact ⟨y, by rw [d1], ⟨d2, d3, d4, d5, d6⟩, hb2⟩
        · have hs2 : agVal 2 (at7 a.k a.p a.N a.M) = false := by
            unfold agVal
            have : decide ((at7 a.k a.p a.N a.M).N < 256 ^ (agSize 2 (at7 a.k a.p a.N a.M).k).toNat) = false := decide_eq_false (by show ¬ a.N < 256 ^ (agSize 2 a.k).toNat; rw [s27, p2]; omega)
            rw [this, Bool.and_false]
          have k2 : agVal 2 (at7 a.k a.p 23456 a.M) = true := val7 _ _ h27 (by rw [s27, p2]; omega)
          have k4 : agVal 4 (at7 a.k a.p 23456 a.M) = true := val7 _ _ h47 (by rw [s47, p4]; omega)
          have m2 : agVal 2 (at7 18 a.p a.N a.M) = true := val7 _ _ rfl (by show a.N < 256 ^ 4; rw [p4]; omega)
          have m4 : agVal 4 (at7 18 a.p a.N a.M) = true := val7 _ _ rfl (by show a.N < 256 ^ 4; rw [p4]; omega)
          refine agnar_core a w ht hS 2 [at7 a.k a.p 23456 a.M, at7 18 a.p a.N a.M] [at7 7 a.p 23456 a.M, at7 18 a.p a.N a.M] (by omega) (by omega) (Lib.hid (fun W => nar_two a W hN.1 hN.2 h7b hv hs2)) (Lib.hid (fun W => rnar_two a W hN.2 h7b hv hle)) (Lib.hid ?_) (Lib.hid ?_) (Lib.hid ?_) hb
          · intro i hi W
            rcases (by omega : i = 0 ∨ i = 1) with rfl | rfl
            · exact rsame08_eq (at7 a.k a.p 23456 a.M) (at7 7 a.p 23456 a.M) W h7 rfl rfl rfl (bare7 _ _ _ _) (bare7 _ _ _ _)
            · exact rsame08_eq (at7 18 a.p a.N a.M) (at7 18 a.p a.N a.M) W rfl rfl rfl rfl (bare7 _ _ _ _) (bare7 _ _ _ _)
          · intro x hx W
            simp only [List.mem_cons, List.not_mem_nil, or_false] at hx
            rcases hx with rfl | rfl
            · have := agvalid_any 2 (at7 a.k a.p 23456 a.M) W (by show (0 : Int) ≤ 23456; omega) (by show (23456 : Int) < 4294967296; omega)
              rw [k2] at this
              exact this
            · have := agvalid_any 2 (at7 18 a.p a.N a.M) W hN.1 hN.2
              rw [m2] at this
              exact this
          · intro W A hA
            refine (merge_any A 2 2 _ W hA (by unfold maxLen; omega) (fun x hx => by
              simp only [List.mem_cons, List.not_mem_nil, or_false] at hx
              rcases hx with rfl | rfl
              · exact ⟨by show (0 : Int) ≤ 23456; omega, by show (23456 : Int) < 4294967296; omega⟩
              · exact hN)).mono ?_
            rintro e w' ⟨y, q, rfl, hR, hb2⟩
            have h1 : MrgR [at7 a.k a.p 23456 a.M, at7 18 a.p a.N a.M] (at7 a.k a.p a.N a.M) true := .inr ⟨rfl, fun x hx => by
              simp only [List.mem_cons, List.not_mem_nil, or_false] at hx
              rcases hx with rfl | rfl
              · exact k4
              · exact m4, bare7 _ _ _ _, at7 a.k a.p 23456 a.M, by simp [at7, h7], rfl, rfl, .inl ⟨at7 18 a.p a.N a.M, by simp [at7, h7], rfl, rfl, rfl⟩⟩
            obtain ⟨d1, d2, d3, d4, d5, d6, _⟩ := mrg_det hR h1
            exact ⟨y, by rw [d1], ⟨d2, d3, d4, d5, d6⟩, hb2⟩
    · exact agnar_none a w ht hN.1 hN.2 hS (.inl h7)
end Go.Proofs.YtkcejeogacobiaaDoor

/- AggregateForms: the walk -/
import Derived.Test.YtkcejeogacobiaaDoorAfA
import Derived.Test.YtkcejeogacobiaaDoorAfB
import Derived.Test.YtkcejeogacobiaaDoorAgE
namespace Go.Proofs.YtkcejeogacobiaaDoor
open Go.RowKit Go.Sort

def agT (a : At) : ByteArray := if agVal 4 a then agTxt a.k a.N a.M else ⟨#[]⟩
set_option maxRecDepth 100000 in
theorem agtext_any (a : At) (w : World) (ht : Tens w) (hN : 0 ≤ a.N) (hN2 : a.N < 4294967296) (hM : 0 ≤ a.M) (hM2 : a.M < 4294967296) :
    Calls Tryd.prog 42 #[.agg (atc a)] w fun e w' => e = .returned (.string (agT a)) ∧ Below w.heap.size w w' := by
  unfold agT
  cases hv : agVal 4 a with
  | true => exact agtext_yes a w ht hN hN2 hM hM2 hv
  | false => exact agtext_no a w hN hN2 hv
set_option maxRecDepth 100000 in
theorem ragtext_any (a : At) (w : World) (hN : 0 ≤ a.N) (hN2 : a.N < 4294967296) (hM : 0 ≤ a.M) (hM2 : a.M < 4294967296) :
    Calls Tryd.prog 43 #[.agg (atc a)] w fun e w' => e = .returned (.string (agT a)) ∧ Below w.heap.size w w' := by
  unfold agT
  cases hv : agVal 4 a with
  | true => exact ragtext_yes a w hN hN2 hM hM2 hv
  | false => exact ragtext_no a w hN2 hv
set_option maxRecDepth 100000 in
theorem rg_pure {w : World} {v : Value} {f : FuncId} {args : Array Value} (h : ∀ W, Calls Tryd.prog f args W fun e w' => e = .returned v ∧ W = w') (d : Nat) (os : Array Obj) :
    Calls Tryd.prog f args (grow (redrawn w d) os) fun e w'' => e = .returned v ∧ ∃ p : Regrown, w'' = grow (redrawn w p.d) p.os :=
  rg_of (w := w) (fun W _ => (h W).mono (fun e w' q => ⟨q.1, by rw [← q.2]; exact bl_refl W⟩)) d os
set_option maxRecDepth 100000 in
theorem bytesEq_rgA {w : World} (A A' : Option Addr) (n n' c c' : Nat) (xs : List Int) (hx : Bytes w w.heap.size A n xs) (hy : Bytes w w.heap.size A' n' xs) (hn : n ≤ 1000000000) (hn' : n' ≤ 1000000000) (d : Nat) (os : Array Obj) :
    Calls Tryd.prog 20 #[.slice A n c, .slice A' n' c'] (grow (redrawn w d) os) fun e w'' => e = .returned (.bool true) ∧ ∃ p : Regrown, w'' = grow (redrawn w p.d) p.os :=
  rg_of (w := w) (fun W hW => (bytesEq_any A A' n n' c c' xs xs W w.heap.size w.heap.size (hx.below hW) (hy.below hW) hn hn').mono (fun e w' h => ⟨by rw [h.1]; simp, by obtain ⟨m, rfl⟩ := h.2; exact bl_drewN (bl_refl W) m⟩)) d os
set_option maxRecDepth 100000 in
set_option maxHeartbeats 1600000 in
theorem rsame08_eq (a b : At) (w : World) (h1 : a.k = b.k) (h2 : a.p = b.p) (h3 : a.N = b.N) (h4 : a.M = b.M) (ha : bareB a = true) (hb : bareB b = true) :
    Calls Tryd.prog 37 #[.agg (atc a), .agg (atc b)] w fun e w' => e = .returned (.bool true) ∧ Below w.heap.size w w' := by
  have hB := Lib.hid (fun W => rbare_any a W)
  have hB' := Lib.hid (fun W => rbare_any b W)
  rw [ha] at hB
  rw [hb] at hB'
  clear ha hb
  obtain ⟨k, p, N, M, A1, n1, c1, A2, n2, c2, A3, n3, c3, f, A4, n4, c4⟩ := a
  obtain ⟨k', p', N', M', B1, m1, d1, B2, m2, d2, B3, m3, d3, f', B4, m4, d4⟩ := b
  unfold atc at *
  dsimp only at *
  subst h1 h2 h3 h4
  have hb0 := bl_alloc (bl_alloc (bl_refl w) (.cells #[.int .i64 k, .bool p, .int .u32 N, .int .u32 M, .slice A1 n1 c1, .slice A2 n2 c2, .slice A3 n3 c3, .int .i64 f, .slice A4 n4 c4] 29)) (.cells #[.int .i64 k, .bool p, .int .u32 N, .int .u32 M, .slice B1 m1 d1, .slice B2 m2 d2, .slice B3 m3 d3, .int .i64 f', .slice B4 m4 d4] 29)
  have o1 := (Own.new w 29 #[.int .i64 k, .bool p, .int .u32 N, .int .u32 M, .slice A1 n1 c1, .slice A2 n2 c2, .slice A3 n3 c3, .int .i64 f, .slice A4 n4 c4]).alloc (.cells #[.int .i64 k, .bool p, .int .u32 N, .int .u32 M, .slice B1 m1 d1, .slice B2 m2 d2, .slice B3 m3 d3, .int .i64 f', .slice B4 m4 d4] 29)
  have o2 := Own.new (w.alloc (.cells #[.int .i64 k, .bool p, .int .u32 N, .int .u32 M, .slice A1 n1 c1, .slice A2 n2 c2, .slice A3 n3 c3, .int .i64 f, .slice A4 n4 c4] 29)) 29 #[.int .i64 k, .bool p, .int .u32 N, .int .u32 M, .slice B1 m1 d1, .slice B2 m2 d2, .slice B3 m3 d3, .int .i64 f', .slice B4 m4 d4]
  rw [show (w.alloc (.cells #[.int .i64 k, .bool p, .int .u32 N, .int .u32 M, .slice A1 n1 c1, .slice A2 n2 c2, .slice A3 n3 c3, .int .i64 f, .slice A4 n4 c4] 29)).heap.size = w.heap.size + 1 by simp] at o2
  obtain ⟨e0, e1, e2, e3, e4, e5, e6, e7, e8⟩ := at_cells o1
  obtain ⟨f0, f1, f2, f3, f4, f5, f6, f7, f8⟩ := at_cells o2
  have h1 : (k == k) = true := by simp
  have h2 : (N == N) = true := by simp
  have h3 : (M == M) = true := by simp
  have h4 : (p == p) = true := by simp
  go_enter Tryd.func37, Tryd.ntmps37
  go_wp2_with fail
  refine (hB.out _).mono ?_
  rintro e w1 ⟨rfl, hb1⟩
  have hb2 := bl_trans hb0 hb1
  obtain ⟨g0, g1, g2, g3, g4, g5, g6, g7, g8⟩ := at_cells (o2.step hb1)
  clear e0 e1 e2 e3 e4 e5 e6 e7 e8 f0 f1 f2 f3 f4 f5 f6 f7 f8
  go_wp2_with fail
  refine (hB'.out _).mono ?_
  rintro e w2 ⟨rfl, hb3⟩
  go_wp2
  go_ret
  exact ⟨rfl, bl_trans hb2 hb3⟩
set_option maxRecDepth 100000 in
set_option maxHeartbeats 3200000 in
theorem agforms_no (wd : Int) (a : At) (w : World) (ht : Tens w) (hN : 0 ≤ a.N) (hN2 : a.N < 4294967296) (hM : 0 ≤ a.M) (hM2 : a.M < 4294967296)
    (hS : Hid (∀ W, Below w.heap.size w W → Calls Tryd.prog 38 #[.agg (atc a)] W fun e w' => e = .returned (.bool true) ∧ Below W.heap.size W w')) (hv : agVal wd a = false) :
    Calls Tryd.prog 10 #[.int .i64 wd, .agg (atc a)] w fun e w' => e = .returned (.bool true) ∧ Below w.heap.size w w' := by
  have hV := Lib.hid (fun W => agvalid_any wd a W hN hN2)
  have hRV := Lib.hid (fun W => ragvalid_any wd a W hN2)
  have hT := Lib.hid (fun W (h : Below w.heap.size w W) => agtext_any a W (ht.below h) hN hN2 hM hM2)
  have hRT := Lib.hid (fun W (_ : Below w.heap.size w W) => ragtext_any a W hN hN2 hM hM2)
  have hH := Lib.hid (aghas_any a.k)
  have hRH := Lib.hid (raghas_any a.k)
  have hB := Lib.hid (fun W => agbytes_no wd a W hN hN2 hv)
  have hRB := Lib.hid (fun W => ragbytes_no wd a W hN2 hv)
  rw [hv] at hV hRV
  generalize agHas a.k = Q at *
  generalize agT a = S at *
  clear hv hN hN2 hM hM2
  obtain ⟨k, p, N, M, A1, n1, c1, A2, n2, c2, A3, n3, c3, f, A4, n4, c4⟩ := a
  unfold atc at *
  dsimp only at *
  have hb0 := bl_alloc (bl_refl w) (.cells #[.int .i64 k, .bool p, .int .u32 N, .int .u32 M, .slice A1 n1 c1, .slice A2 n2 c2, .slice A3 n3 c3, .int .i64 f, .slice A4 n4 c4] 29)
  have o0 := Own.new w 29 #[.int .i64 k, .bool p, .int .u32 N, .int .u32 M, .slice A1 n1 c1, .slice A2 n2 c2, .slice A3 n3 c3, .int .i64 f, .slice A4 n4 c4]
  go_enter Tryd.func10, Tryd.ntmps10
  go_wp2_with fail
  refine (hS.out _ hb0).mono ?_
  rintro e w1 ⟨rfl, hb1⟩
  have o1 := o0.step hb1
  have hb2 := bl_trans hb0 hb1
  clear hb0 hb1 o0
  obtain ⟨e0, e1, e2, e3, e4, e5, e6, e7, e8⟩ := at_cells o1
  go_wp2_with fail
  refine (hB.out _).mono ?_
  rintro e w2 ⟨rfl, hb3⟩
  have o2 := o1.step hb3
  have hb4 := bl_trans hb2 hb3
  clear hb2 hb3 o1 e0 e1 e2 e3 e4 e5 e6 e7 e8
  obtain ⟨e0, e1, e2, e3, e4, e5, e6, e7, e8⟩ := at_cells o2
  go_wp2_with fail
  refine (hRB.out _).mono ?_
  rintro e w3 ⟨rfl, hb5⟩
  have o3 := o2.step hb5
  have hb6 := bl_trans hb4 hb5
  clear hb4 hb5 o2 e0 e1 e2 e3 e4 e5 e6 e7 e8
  go_wp2_with fail
  have a3 := Lib.hid (bytesEq_rgA (w := w3) none none 0 0 0 0 [] (Bytes.nil _ _ _) (Bytes.nil _ _ _) (by omega) (by omega))
  have a1 := Lib.hid (rg_of (w := w3) (fun W _ => hV.out W))
  have a2 := Lib.hid (rg_of (w := w3) (fun W _ => hRV.out W))
  have a4 := Lib.hid (rg_of (w := w3) (fun W hW => hT.out W (bl_trans hb6 hW)))
  have a5 := Lib.hid (rg_of (w := w3) (fun W hW => hRT.out W (bl_trans hb6 hW)))
  have a6 := Lib.hid (rg_pure (w := w3) hH.out)
  have a7 := Lib.hid (rg_pure (w := w3) hRH.out)
  have q0 := cell_regrown (at_cells o3).1
  refine wp_region_quiet_below (by kernel_rfl) (by kernel_rfl) ?_
  repeat (first
    | go_big_quiet_skip
    | (refine wpQuiet_load_row (by rfl) 29 _ rfl w.heap.size rfl 29 #[.int .i64 k, .bool p, .int .u32 N, .int .u32 M, .slice A1 n1 c1, .slice A2 n2 c2, .slice A3 n3 c3, .int .i64 f, .slice A4 n4 c4] (.struct (Tryd.prog.fieldsOf 29)) o3.rg (by kernel_rfl) rfl (at_info9 _ _ _ _ _ _ _ _ _) ?_; go_simp)
    | go_big_quiet_step (with_reducible first | exact a1.out _ _ | exact a2.out _ _ | exact a3.out _ _ | exact a4.out _ _ | exact a5.out _ _ | exact a6.out _ _ | exact a7.out _ _))
  refine wpQuiet_nil ?_
  first | rintro _ ⟨⟨dq, osq⟩, rfl⟩ | rintro ⟨dq, osq⟩
  have hb7 := bl_trans hb6 (below_regrown w3 dq osq)
  generalize grow (redrawn w3 dq) osq = w4 at *
  clear a1 a2 a3 a4 a5 a6 a7 q0 o3 hb6
  go_wp2_with fail
  refine (alive08_any _ (ht.below hb7)).mono ?_
  rintro e w5 ⟨rfl, hb8⟩
  go_wp2
  go_ret
  exact ⟨rfl, bl_trans hb7 hb8⟩
set_option maxRecDepth 100000 in
set_option maxHeartbeats 3200000 in
theorem agforms_yes (wd : Int) (a : At) (w : World) (ht : Tens w) (hN : 0 ≤ a.N) (hN2 : a.N < 4294967296) (hM : 0 ≤ a.M) (hM2 : a.M < 4294967296)
    (hS : Hid (∀ W, Below w.heap.size w W → Calls Tryd.prog 38 #[.agg (atc a)] W fun e w' => e = .returned (.bool true) ∧ Below W.heap.size W w')) (hv : agVal wd a = true) :
    Calls Tryd.prog 10 #[.int .i64 wd, .agg (atc a)] w fun e w' => e = .returned (.bool true) ∧ Below w.heap.size w w' := by
  have hV := Lib.hid (fun W => agvalid_any wd a W hN hN2)
  have hRV := Lib.hid (fun W => ragvalid_any wd a W hN2)
  have hT := Lib.hid (fun W (h : Below w.heap.size w W) => agtext_any a W (ht.below h) hN hN2 hM hM2)
  have hRT := Lib.hid (fun W (_ : Below w.heap.size w W) => ragtext_any a W hN hN2 hM hM2)
  have hH := Lib.hid (aghas_any a.k)
  have hRH := Lib.hid (raghas_any a.k)
  obtain ⟨g1, g2, g3⟩ := agval_parts hv
  obtain ⟨s, hs, hs2⟩ := agHnd_size g1
  have hB := Lib.hid (fun W => agbytes_yes wd a W hN hN2 hM hM2 hv s hs hs2)
  have hRB := Lib.hid (fun W => ragbytes_yes wd a W hN hN2 hM hM2 hv s hs hs2)
  have hR := Lib.hid (fun (W : World) A (hx : Bytes W W.heap.size A (s + 4) (agForm s a.N a.M)) => agread_yes wd a.k A (s + 4) (s + 4) (agForm s a.N a.M) W hx g1 s hs hs2 rfl)
  have ht1 : (agForm s a.N a.M).take s = digitsOf s a.N := by unfold agForm; rw [List.take_left' (digitsOf_len _ _)]
  have ht2 : (agForm s a.N a.M).drop s = digitsOf 4 a.M := by unfold agForm; rw [List.drop_left' (digitsOf_len _ _)]
  have hb1 : big (digitsOf s a.N) = a.N := by
    have h3 := g3
    rw [hs] at h3
    have := big_digitsA (s : Int) a.N (by omega) (by omega) hN h3
    rwa [Int.toNat_natCast] at this
  have hb2 : big (digitsOf 4 a.M) = a.M := big_digitsA 4 a.M (by omega) (by omega) hM (by rw [show (256 : Int) ^ (4 : Int).toNat = 4294967296 from by decide]; exact hM2)
  rw [ht1, ht2, hb1, hb2] at hR
  rw [hv] at hV hRV
  have hsl : s + 4 ≤ 100 := by omega
  generalize hn : s + 4 = n at *
  generalize agForm s a.N a.M = xs at *
  generalize agHas a.k = Q at *
  generalize agT a = S at *
  clear hv hN hN2 hM hM2 g1 g3 hs hs2 ht1 ht2 hb1 hb2 hn s
  have HB := Lib.hid g2
  clear g2
  obtain ⟨k, p, N, M, A1, n1, c1, A2, n2, c2, A3, n3, c3, f, A4, n4, c4⟩ := a
  have hSS := Lib.hid (fun W => rsame08_eq ⟨k, false, N, M, none, 0, 0, none, 0, 0, none, 0, 0, 0, none, 0, 0⟩ ⟨k, false, N, M, A1, n1, c1, A2, n2, c2, A3, n3, c3, f, A4, n4, c4⟩ W rfl rfl rfl rfl (by unfold bareB; simp) HB.out)
  unfold agV at hR
  unfold atc at *
  dsimp only at *
  have hb0 := bl_alloc (bl_refl w) (.cells #[.int .i64 k, .bool p, .int .u32 N, .int .u32 M, .slice A1 n1 c1, .slice A2 n2 c2, .slice A3 n3 c3, .int .i64 f, .slice A4 n4 c4] 29)
  have o0 := Own.new w 29 #[.int .i64 k, .bool p, .int .u32 N, .int .u32 M, .slice A1 n1 c1, .slice A2 n2 c2, .slice A3 n3 c3, .int .i64 f, .slice A4 n4 c4]
  go_enter Tryd.func10, Tryd.ntmps10
  go_wp2_with fail
  refine (hS.out _ hb0).mono ?_
  rintro e w1 ⟨rfl, hb1⟩
  have o1 := o0.step hb1
  have hb2 := bl_trans hb0 hb1
  clear hb0 hb1 o0
  obtain ⟨e0, e1, e2, e3, e4, e5, e6, e7, e8⟩ := at_cells o1
  go_wp2_with fail
  refine (hB.out _).mono ?_
  rintro e w2 ⟨A, rfl, hx, hb3⟩
  have o2 := o1.step hb3
  have hb4 := bl_trans hb2 hb3
  clear hb2 hb3 o1 e0 e1 e2 e3 e4 e5 e6 e7 e8
  obtain ⟨e0, e1, e2, e3, e4, e5, e6, e7, e8⟩ := at_cells o2
  go_wp2_with fail
  refine (hRB.out _).mono ?_
  rintro e w3 ⟨B, c, rfl, hy, hb5⟩
  have o3 := o2.step hb5
  have hb6 := bl_trans hb4 hb5
  have hx3 := (hx.below hb5).more hb5.size
  clear hb4 hb5 o2 e0 e1 e2 e3 e4 e5 e6 e7 e8 hx
  go_wp2_with fail
  have a3 := Lib.hid (bytesEq_rgA (w := w3) A B n n n c xs hx3 hy (by omega) (by omega))
  have a1 := Lib.hid (rg_of (w := w3) (fun W _ => hV.out W))
  have a2 := Lib.hid (rg_of (w := w3) (fun W _ => hRV.out W))
  have a4 := Lib.hid (rg_of (w := w3) (fun W hW => hT.out W (bl_trans hb6 hW)))
  have a5 := Lib.hid (rg_of (w := w3) (fun W hW => hRT.out W (bl_trans hb6 hW)))
  have a6 := Lib.hid (rg_pure (w := w3) hH.out)
  have a7 := Lib.hid (rg_pure (w := w3) hRH.out)
  have q0 := cell_regrown (at_cells o3).1
  refine wp_region_quiet_below (by kernel_rfl) (by kernel_rfl) ?_
  repeat (first
    | go_big_quiet_skip
    | (refine wpQuiet_load_row (by rfl) 29 _ rfl w.heap.size rfl 29 #[.int .i64 k, .bool p, .int .u32 N, .int .u32 M, .slice A1 n1 c1, .slice A2 n2 c2, .slice A3 n3 c3, .int .i64 f, .slice A4 n4 c4] (.struct (Tryd.prog.fieldsOf 29)) o3.rg (by kernel_rfl) rfl (at_info9 _ _ _ _ _ _ _ _ _) ?_; go_simp)
    | go_big_quiet_step (with_reducible first | exact a1.out _ _ | exact a2.out _ _ | exact a3.out _ _ | exact a4.out _ _ | exact a5.out _ _ | exact a6.out _ _ | exact a7.out _ _))
  refine wpQuiet_nil ?_
  first | rintro _ ⟨⟨dq, osq⟩, rfl⟩ | rintro ⟨dq, osq⟩
  have hg := below_regrown w3 dq osq
  have hb7 := bl_trans hb6 hg
  have o4 := o3.step hg
  have hx4 := (hx3.below hg).more hg.size
  generalize grow (redrawn w3 dq) osq = w4 at *
  clear a1 a2 a3 a4 a5 a6 a7 q0 o3 hb6 hx3 hy hg
  obtain ⟨e0, e1, e2, e3, e4, e5, e6, e7, e8⟩ := at_cells o4
  go_wp2_with fail
  refine (hR.out _ _ hx4).mono ?_
  rintro e w5 ⟨rfl, hb8⟩
  have hlt := (o4.step hb8).lt
  have o5 := (o4.step hb8).alloc (.cells #[.int .i64 k, .bool false, .int .u32 N, .int .u32 M, .slice none 0 0, .slice none 0 0, .slice none 0 0, .int .i64 0, .slice none 0 0] 29)
  have oS := (o4.step hb8).set_ 1 (.bool false)
  have hbS := (bl_trans hb7 hb8).setCell (p := ⟨w.heap.size, 1, none⟩) (Nat.le_refl _) (.bool false)
  clear hb7 hb8 o4 e0 e1 e2 e3 e4 e5 e6 e7 e8 hx4
  obtain ⟨e0, e1, e2, e3, e4, e5, e6, e7, e8⟩ := at_cells o5
  have fz := o5.frozen 1
  go_wp2_with fail
  have o6 : Own ((w5.setCell ⟨w.heap.size, 1, none⟩ (.bool false)).alloc (.cells #[.int .i64 k, .bool false, .int .u32 N, .int .u32 M, .slice none 0 0, .slice none 0 0, .slice none 0 0, .int .i64 0, .slice none 0 0] 29)) w.heap.size 29 #[.int .i64 k, .bool false, .int .u32 N, .int .u32 M, .slice A1 n1 c1, .slice A2 n2 c2, .slice A3 n3 c3, .int .i64 f, .slice A4 n4 c4] := by
    have := oS.alloc (.cells #[.int .i64 k, .bool false, .int .u32 N, .int .u32 M, .slice none 0 0, .slice none 0 0, .slice none 0 0, .int .i64 0, .slice none 0 0] 29)
    simpa using this
  have oY := Own.new (w5.setCell ⟨w.heap.size, 1, none⟩ (.bool false)) 29 #[.int .i64 k, .bool false, .int .u32 N, .int .u32 M, .slice none 0 0, .slice none 0 0, .slice none 0 0, .int .i64 0, .slice none 0 0]
  rw [show (w5.setCell ⟨w.heap.size, 1, none⟩ (.bool false)).heap.size = w5.heap.size by simp] at oY
  have hb10 := bl_alloc hbS (.cells #[.int .i64 k, .bool false, .int .u32 N, .int .u32 M, .slice none 0 0, .slice none 0 0, .slice none 0 0, .int .i64 0, .slice none 0 0] 29)
  clear e0 e1 e2 e3 e4 e5 e6 e7 e8 fz hbS o5 oS
  refine (alive08_any _ (ht.below hb10)).mono ?_
  rintro e w6 ⟨rfl, hb11⟩
  obtain ⟨e0, e1, e2, e3, e4, e5, e6, e7, e8⟩ := at_cells (o6.step hb11)
  obtain ⟨f0, f1, f2, f3, f4, f5, f6, f7, f8⟩ := at_cells (oY.step hb11)
  have hb12 := bl_trans hb10 hb11
  clear hb10 hb11 o6 oY
  go_wp2_with fail
  refine (hSS.out _).mono ?_
  rintro e w7 ⟨rfl, hb13⟩
  go_wp2
  go_ret
  exact ⟨rfl, bl_trans hb12 hb13⟩
set_option maxRecDepth 100000 in
theorem agforms_walk (wd : Int) (a : At) (w : World) (ht : Tens w) (hin : AtIn w a) :
    Calls Tryd.prog 10 #[.int .i64 wd, .agg (atc a)] w fun e w' => e = .returned (.bool true) ∧ Below w.heap.size w w' := by
  obtain ⟨_, hN, hM, _, ⟨g1, g2, ss, g3⟩, _⟩ := hin
  have hS := Lib.hid (fun (W : World) (h : Below w.heap.size w W) => small08_any a ss W ((g3.below h).more h.size) (Nat.le_trans g1 g2))
  cases hs : smallB a ss with
  | true =>
    rw [hs] at hS
    cases hv : agVal wd a with
    | true => exact agforms_yes wd a w ht hN.1 hN.2 hM.1 hM.2 hS hv
    | false => exact agforms_no wd a w ht hN.1 hN.2 hM.1 hM.2 hS hv
  | false =>
    rw [hs] at hS
    clear hs g1 g2 g3 hN hM
    obtain ⟨k, p, N, M, A1, n1, c1, A2, n2, c2, A3, n3, c3, f, A4, n4, c4⟩ := a
    unfold atc at *
    dsimp only at *
    have hb0 := bl_alloc (bl_refl w) (.cells #[.int .i64 k, .bool p, .int .u32 N, .int .u32 M, .slice A1 n1 c1, .slice A2 n2 c2, .slice A3 n3 c3, .int .i64 f, .slice A4 n4 c4] 29)
    go_enter Tryd.func10, Tryd.ntmps10
    go_wp2_with fail
    refine (hS.out _ hb0).mono ?_
    rintro e w1 ⟨rfl, hb1⟩
    have hb2 := bl_trans hb0 hb1
    go_wp2_with fail
    refine (alive08_any _ (ht.below hb2)).mono ?_
    rintro e w2 ⟨rfl, hb3⟩
    go_wp2
    go_ret
    exact ⟨rfl, bl_trans hb2 hb3⟩
end Go.Proofs.YtkcejeogacobiaaDoor

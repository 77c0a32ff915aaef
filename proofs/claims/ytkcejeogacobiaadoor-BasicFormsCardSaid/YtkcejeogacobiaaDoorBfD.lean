/- BasicForms: the walk -/
import Derived.Test.YtkcejeogacobiaaDoorBfB
import Derived.Test.YtkcejeogacobiaaDoorBfC
import Derived.Test.YtkcejeogacobiaaDoorFew
import Derived.Test.YtkcejeogacobiaaDoorBsF
import Derived.Test.YtkcejeogacobiaaDoorRgS
namespace Go.Proofs.YtkcejeogacobiaaDoor
open Go.RowKit Go.Sort

set_option maxRecDepth 100000 in
set_option maxHeartbeats 3200000 in
theorem bforms_no (a : At) (hwf : (Lit.int .i64 a.k).wf = true) (w : World) (ht : Tens w) (hN : 0 ≤ a.N) (hN2 : a.N < 4294967296)
    (hS : Hid (∀ W, Below w.heap.size w W → Calls Tryd.prog 22 #[.agg (atc a)] W fun e w' => e = .returned (.bool true) ∧ Below W.heap.size W w')) (hv : vOk a = false) :
    Calls Tryd.prog 7 #[.agg (atc a)] w fun e w' => e = .returned (.bool true) ∧ Below w.heap.size w w' := by
  have hV := Lib.hid (fun W => bvalid_any a hwf W)
  have hRV := Lib.hid (fun W => rbvalid_any a W)
  have hT := Lib.hid (fun W (h : Below w.heap.size w W) => btext_any a hwf hN hN2 W (ht.below h))
  have hRT := Lib.hid (fun W (_ : Below w.heap.size w W) => rbtext_any a hN hN2 W)
  have hH := Lib.hid (fun W => bhas_any a.k hwf W)
  have hRH := Lib.hid (rbhas_any a.k)
  have hB := Lib.hid (fun W => bbytes_no a hwf hv W)
  have hRB := Lib.hid (fun W => rbbytes_no a hv W)
  rw [hv] at hV hRV
  generalize bKnown a.k = Q at *
  generalize bT a = S at *
  clear hv hN hN2 hwf
  obtain ⟨k, p, N, M, A1, n1, c1, A2, n2, c2, A3, n3, c3, f, A4, n4, c4⟩ := a
  unfold atc at *
  dsimp only at *
  have hb0 := bl_alloc (bl_refl w) (.cells #[.int .i64 k, .bool p, .int .u32 N, .int .u32 M, .slice A1 n1 c1, .slice A2 n2 c2, .slice A3 n3 c3, .int .i64 f, .slice A4 n4 c4] 29)
  have o0 := Own.new w 29 #[.int .i64 k, .bool p, .int .u32 N, .int .u32 M, .slice A1 n1 c1, .slice A2 n2 c2, .slice A3 n3 c3, .int .i64 f, .slice A4 n4 c4]
  go_enter Tryd.func7, Tryd.ntmps7
  go_wp2_with fail
  refine (hS.out _ hb0).mono ?_
  rintro e w1 ⟨rfl, hb1⟩
  have o1 := o0.step hb1
  have hb2 := bl_trans hb0 hb1
  clear hb0 hb1 o0
  obtain ⟨e0, e1, e2, e3, e4, e5, e6, e7, e8⟩ := at_cells o1
  go_wp2_with fail
  refine (hB.out _).mono ?_
  rintro e w2 ⟨rfl, hb3⟩
  have o2 := o1.step hb3
  have hb4 := bl_trans hb2 hb3
  clear hb2 hb3 o1 e0 e1 e2 e3 e4 e5 e6 e7 e8
  obtain ⟨e0, e1, e2, e3, e4, e5, e6, e7, e8⟩ := at_cells o2
  go_wp2_with fail
  refine (hRB.out _).mono ?_
  rintro e w3 ⟨rfl, hb5⟩
  have o3 := o2.step hb5
  have hb6 := bl_trans hb4 hb5
  clear hb4 hb5 o2 e0 e1 e2 e3 e4 e5 e6 e7 e8
  go_wp2_with fail
  have a3 := Lib.hid (bytesEq_rgS (w := w3) none none 0 0 0 0 [] [] true (Bytes.nil _ _ _) (Bytes.nil _ _ _) (by omega) (by omega) rfl)
  have a1 := Lib.hid (rg_of (w := w3) (fun W _ => hV.out W))
  have a2 := Lib.hid (rg_of (w := w3) (fun W _ => hRV.out W))
  have a4 := Lib.hid (rg_of (w := w3) (fun W hW => hT.out W (bl_trans hb6 hW)))
  have a5 := Lib.hid (rg_of (w := w3) (fun W hW => hRT.out W (bl_trans hb6 hW)))
  have a6 := Lib.hid (rg_of (w := w3) (fun W _ => hH.out W))
  have a7 := Lib.hid (rg_pureS (w := w3) hRH.out)
  have q0 := cell_regrown (at_cells o3).1
  refine wp_region_quiet_below (by kernel_rfl) (by kernel_rfl) ?_
  repeat (first
    | go_big_quiet_skip
    | (refine wpQuiet_load_row (by rfl) 29 _ rfl w.heap.size rfl 29 #[.int .i64 k, .bool p, .int .u32 N, .int .u32 M, .slice A1 n1 c1, .slice A2 n2 c2, .slice A3 n3 c3, .int .i64 f, .slice A4 n4 c4] (.struct (Tryd.prog.fieldsOf 29)) o3.rg (by kernel_rfl) rfl (at_info9 _ _ _ _ _ _ _ _ _) ?_; go_simp)
    | go_big_quiet_step (with_reducible first | exact a1.out _ _ | exact a2.out _ _ | exact a3.out _ _ | exact a4.out _ _ | exact a5.out _ _ | exact a6.out _ _ | exact a7.out _ _))
  refine wpQuiet_nil ?_
  first | rintro _ ⟨⟨dq, osq⟩, rfl⟩ | rintro ⟨dq, osq⟩
  have hb7 := bl_trans hb6 (below_regrown w3 dq osq)
  generalize grow (redrawn w3 dq) osq = w4 at *
  clear a1 a2 a3 a4 a5 a6 a7 q0 o3 hb6
  go_wp2_with fail
  refine (alive07_any _).mono ?_
  rintro e w5 ⟨rfl, hb8⟩
  go_wp2
  go_ret
  exact ⟨rfl, bl_trans hb7 hb8⟩
theorem bform_back {a : At} (h : vOk a = true) (hN : 0 ≤ a.N) (hN2 : a.N < 4294967296) : bOkV a.k (bForm a.k a.N) = true ∧ numV (bForm a.k a.N) (bSize a.k) = a.N := by
  obtain ⟨hkn, _, _, h1, h6⟩ := vOk_bits h
  have hlen : (((bForm a.k a.N).length : Nat) : Int) = bSize a.k := by
    rw [bForm_len]
    rcases vOk_size h hN hN2 with ⟨h2, _⟩ | ⟨h2, _⟩ <;> omega
  have hnum : numV (bForm a.k a.N) (bSize a.k) = a.N := by
    rcases vOk_size h hN hN2 with ⟨h2, h3⟩ | ⟨h2, h3, h4⟩
    · unfold numV numOk; rw [h2, h3]; rfl
    · unfold numV numOk
      rw [hlen, if_pos (decide_eq_true ⟨h2, h3, Int.le_refl _⟩), List.take_of_length_le (by rw [bForm_len]; omega)]
      exact big_digitsA _ _ h2 h3 hN h4
  refine ⟨?_, hnum⟩
  unfold bOkV
  rw [decide_eq_true_eq]
  refine ⟨hlen, fun hk => ?_⟩
  have hs : bSize a.k = 1 := by rw [hk]; rfl
  rw [hs] at hnum
  rw [hnum]
  exact h1 hk
set_option maxRecDepth 100000 in
set_option maxHeartbeats 3200000 in
theorem bforms_yes (a : At) (hwf : (Lit.int .i64 a.k).wf = true) (w : World) (ht : Tens w) (hN : 0 ≤ a.N) (hN2 : a.N < 4294967296)
    (hS : Hid (∀ W, Below w.heap.size w W → Calls Tryd.prog 22 #[.agg (atc a)] W fun e w' => e = .returned (.bool true) ∧ Below W.heap.size W w')) (hv : vOk a = true) :
    Calls Tryd.prog 7 #[.agg (atc a)] w fun e w' => e = .returned (.bool true) ∧ Below w.heap.size w w' := by
  have hV := Lib.hid (fun W => bvalid_any a hwf W)
  have hRV := Lib.hid (fun W => rbvalid_any a W)
  have hT := Lib.hid (fun W (h : Below w.heap.size w W) => btext_any a hwf hN hN2 W (ht.below h))
  have hRT := Lib.hid (fun W (_ : Below w.heap.size w W) => rbtext_any a hN hN2 W)
  have hH := Lib.hid (fun W => bhas_any a.k hwf W)
  have hRH := Lib.hid (rbhas_any a.k)
  have hB := Lib.hid (fun W => bbytes_yes a hwf hN hN2 hv W)
  have hRB := Lib.hid (fun W => rbbytes_yes a hN hN2 hv W)
  have hsz : (bSize a.k).toNat ≤ 4 := by rcases vOk_size hv hN hN2 with ⟨h2, _⟩ | ⟨_, h2, _⟩ <;> omega
  have hR := Lib.hid (fun (W : World) A (hx : Bytes W W.heap.size A (bSize a.k).toNat (bForm a.k a.N)) => bread_any a.k hwf A (bSize a.k).toNat (bSize a.k).toNat (bForm a.k a.N) W hx (by omega))
  obtain ⟨g1, g2⟩ := bform_back hv hN hN2
  unfold bAtt bKind at hR
  rw [g1, g2] at hR
  simp only [if_true] at hR
  have hP := Lib.hid (fun A c W hl => plain_any (at0 a.k a.N) A 1 c [a.N] W hl (by unfold maxLen; omega))
  rw [show plB (at0 a.k a.N) [a.N] = true by unfold plB bareB at0; simp [nth]] at hP
  unfold at0 at hP
  unfold atV at hR
  rw [hv] at hV hRV
  generalize (bSize a.k).toNat = n at *
  generalize bForm a.k a.N = xs at *
  generalize bKnown a.k = Q at *
  generalize bT a = S at *
  clear hv hN hN2 hwf g1 g2
  obtain ⟨k, p, N, M, A1, n1, c1, A2, n2, c2, A3, n3, c3, f, A4, n4, c4⟩ := a
  unfold atc at *
  dsimp only at *
  have hb0 := bl_alloc (bl_refl w) (.cells #[.int .i64 k, .bool p, .int .u32 N, .int .u32 M, .slice A1 n1 c1, .slice A2 n2 c2, .slice A3 n3 c3, .int .i64 f, .slice A4 n4 c4] 29)
  have o0 := Own.new w 29 #[.int .i64 k, .bool p, .int .u32 N, .int .u32 M, .slice A1 n1 c1, .slice A2 n2 c2, .slice A3 n3 c3, .int .i64 f, .slice A4 n4 c4]
  go_enter Tryd.func7, Tryd.ntmps7
  go_wp2_with fail
  refine (hS.out _ hb0).mono ?_
  rintro e w1 ⟨rfl, hb1⟩
  have o1 := o0.step hb1
  have hb2 := bl_trans hb0 hb1
  clear hb0 hb1 o0
  obtain ⟨e0, e1, e2, e3, e4, e5, e6, e7, e8⟩ := at_cells o1
  go_wp2_with fail
  refine (hB.out _).mono ?_
  rintro e w2 ⟨A, rfl, hx, hb3⟩
  have o2 := o1.step hb3
  have hb4 := bl_trans hb2 hb3
  clear hb2 hb3 o1 e0 e1 e2 e3 e4 e5 e6 e7 e8
  obtain ⟨e0, e1, e2, e3, e4, e5, e6, e7, e8⟩ := at_cells o2
  go_wp2_with fail
  refine (hRB.out _).mono ?_
  rintro e w3 ⟨B, c, rfl, hy, hb5⟩
  have o3 := o2.step hb5
  have hb6 := bl_trans hb4 hb5
  have hx3 := (hx.below hb5).more hb5.size
  clear hb4 hb5 o2 e0 e1 e2 e3 e4 e5 e6 e7 e8 hx
  go_wp2_with fail
  have a3 := Lib.hid (bytesEq_rgS (w := w3) A B n n n c xs xs true hx3 hy (by omega) (by omega) (by simp))
  have a1 := Lib.hid (rg_of (w := w3) (fun W _ => hV.out W))
  have a2 := Lib.hid (rg_of (w := w3) (fun W _ => hRV.out W))
  have a4 := Lib.hid (rg_of (w := w3) (fun W hW => hT.out W (bl_trans hb6 hW)))
  have a5 := Lib.hid (rg_of (w := w3) (fun W hW => hRT.out W (bl_trans hb6 hW)))
  have a6 := Lib.hid (rg_of (w := w3) (fun W _ => hH.out W))
  have a7 := Lib.hid (rg_pureS (w := w3) hRH.out)
  have q0 := cell_regrown (at_cells o3).1
  refine wp_region_quiet_below (by kernel_rfl) (by kernel_rfl) ?_
  repeat (first
    | go_big_quiet_skip
    | (refine wpQuiet_load_row (by rfl) 29 _ rfl w.heap.size rfl 29 #[.int .i64 k, .bool p, .int .u32 N, .int .u32 M, .slice A1 n1 c1, .slice A2 n2 c2, .slice A3 n3 c3, .int .i64 f, .slice A4 n4 c4] (.struct (Tryd.prog.fieldsOf 29)) o3.rg (by kernel_rfl) rfl (at_info9 _ _ _ _ _ _ _ _ _) ?_; go_simp)
    | go_big_quiet_step (with_reducible first | exact a1.out _ _ | exact a2.out _ _ | exact a3.out _ _ | exact a4.out _ _ | exact a5.out _ _ | exact a6.out _ _ | exact a7.out _ _))
  refine wpQuiet_nil ?_
  first | rintro _ ⟨⟨dq, osq⟩, rfl⟩ | rintro ⟨dq, osq⟩
  have hg := below_regrown w3 dq osq
  have hb7 := bl_trans hb6 hg
  have o4 := o3.step hg
  have hx4 := (hx3.below hg).more hg.size
  generalize grow (redrawn w3 dq) osq = w4 at *
  clear a1 a2 a3 a4 a5 a6 a7 q0 o3 hb6 hx3 hy hg
  obtain ⟨e0, e1, e2, e3, e4, e5, e6, e7, e8⟩ := at_cells o4
  go_wp2_with fail
  refine (hR.out _ _ hx4).mono ?_
  rintro e w5 ⟨rfl, hb8⟩
  have hlt := (o4.step hb8).lt
  have o5 := (o4.step hb8).alloc (.cells #[.int .i64 k, .bool false, .int .u32 N, .int .u32 0, .slice none 0 0, .slice none 0 0, .slice none 0 0, .int .i64 0, .slice none 0 0] 29)
  have oX := Own.new w5 29 #[.int .i64 k, .bool false, .int .u32 N, .int .u32 0, .slice none 0 0, .slice none 0 0, .slice none 0 0, .int .i64 0, .slice none 0 0]
  have hb9 := bl_alloc (bl_trans hb7 hb8) (.cells #[.int .i64 k, .bool false, .int .u32 N, .int .u32 0, .slice none 0 0, .slice none 0 0, .slice none 0 0, .int .i64 0, .slice none 0 0] 29)
  clear hb7 hb8 o4 e0 e1 e2 e3 e4 e5 e6 e7 e8 hx4
  obtain ⟨e0, e1, e2, e3, e4, e5, e6, e7, e8⟩ := at_cells o5
  go_wp2_with fail
  clear e0 e1 e2 e3 e4 e5 e6 e7 e8
  refine (alive07_any _).mono ?_
  rintro e w6 ⟨rfl, hb11⟩
  have hkk : (k == k) = true := by simp
  obtain ⟨e0, e1, e2, e3, e4, e5, e6, e7, e8⟩ := at_cells (o5.step hb11)
  obtain ⟨f0, f1, f2, f3, f4, f5, f6, f7, f8⟩ := at_cells (oX.step hb11)
  have hb12 := bl_alloc (bl_trans hb9 hb11) (.cells #[.int .u32 N] 24)
  clear hb9 hb11 o5 oX
  go_wp2_with fail
  refine (hP.out _ _ _ (one32 _ N rfl)).mono ?_
  rintro e w7 ⟨rfl, hb13⟩
  go_wp2
  go_ret
  exact ⟨rfl, bl_trans hb12 hb13⟩
set_option maxRecDepth 100000 in
theorem bforms_walk (a : At) (w : World) (ht : Tens w) (hin : AtIn w a) :
    Calls Tryd.prog 7 #[.agg (atc a)] w fun e w' => e = .returned (.bool true) ∧ Below w.heap.size w w' := by
  obtain ⟨hwf, hN, _, _, ⟨g1, g2, ss, g3⟩, _⟩ := hin
  have hS := Lib.hid (fun (W : World) (h : Below w.heap.size w W) => small07_any a ss W ((g3.below h).more h.size) (Nat.le_trans g1 g2))
  cases hs : smallB a ss with
  | true =>
    rw [hs] at hS
    cases hv : vOk a with
    | true => exact bforms_yes a hwf w ht hN.1 hN.2 hS hv
    | false => exact bforms_no a hwf w ht hN.1 hN.2 hS hv
  | false =>
    rw [hs] at hS
    clear hs g1 g2 g3 hN
    obtain ⟨k, p, N, M, A1, n1, c1, A2, n2, c2, A3, n3, c3, f, A4, n4, c4⟩ := a
    unfold atc at *
    dsimp only at *
    have hb0 := bl_alloc (bl_refl w) (.cells #[.int .i64 k, .bool p, .int .u32 N, .int .u32 M, .slice A1 n1 c1, .slice A2 n2 c2, .slice A3 n3 c3, .int .i64 f, .slice A4 n4 c4] 29)
    go_enter Tryd.func7, Tryd.ntmps7
    go_wp2_with fail
    refine (hS.out _ hb0).mono ?_
    rintro e w1 ⟨rfl, hb1⟩
    have hb2 := bl_trans hb0 hb1
    go_wp2_with fail
    refine (alive07_any _).mono ?_
    rintro e w2 ⟨rfl, hb3⟩
    go_wp2
    go_ret
    exact ⟨rfl, bl_trans hb2 hb3⟩
end Go.Proofs.YtkcejeogacobiaaDoor

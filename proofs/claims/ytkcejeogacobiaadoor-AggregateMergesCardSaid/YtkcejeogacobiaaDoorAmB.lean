/- aggregate.Merge and its reference -/
import Derived.Test.YtkcejeogacobiaaDoorAmA
import Derived.RegionTactic
import Derived.ChangeAlike
namespace Go.Proofs.YtkcejeogacobiaaDoor
open Go.RowKit

/-- What merging some attributes gives. -/
def MrgR (aa : List At) (y : At) (q : Bool) : Prop :=
  (q = false ∧ y = atz ∧ ((∃ x ∈ aa, agVal 4 x = false) ∨ aa.find? (fun a => a.k == 7) = none)) ∨
  (q = true ∧ (∀ x ∈ aa, agVal 4 x = true) ∧ bareB y = true ∧ ∃ x, aa.find? (fun a => a.k == 7) = some x ∧ y.k = x.k ∧ y.p = x.p ∧
    ((∃ z, aa.find? (fun a => a.k == 18) = some z ∧ x.N = 23456 ∧ y.N = z.N ∧ y.M = z.M) ∨ ((aa.find? (fun a => a.k == 18) = none ∨ x.N ≠ 23456) ∧ y.N = x.N ∧ y.M = x.M)))
theorem mrg_det {aa : List At} {y y' : At} {q q' : Bool} (h : MrgR aa y q) (h' : MrgR aa y' q') : q = q' ∧ y.k = y'.k ∧ y.p = y'.p ∧ y.N = y'.N ∧ y.M = y'.M ∧ bareB y = true ∧ bareB y' = true := by
  have hz : bareB atz = true := rfl
  rcases h with ⟨rfl, rfl, h⟩ | ⟨rfl, hv, hb, x, hx, h1, h2, h3⟩
  · rcases h' with ⟨rfl, rfl, _⟩ | ⟨rfl, hv', hb', x', hx', _⟩
    · exact ⟨rfl, rfl, rfl, rfl, rfl, hz, hz⟩
    · rcases h with ⟨x, hm, hf⟩ | hn
      · have := hv' x hm; rw [hf] at this; cases this
      · rw [hn] at hx'; cases hx'
  · rcases h' with ⟨rfl, rfl, h'⟩ | ⟨rfl, hv', hb', x', hx', h1', h2', h3'⟩
    · rcases h' with ⟨x', hm, hf⟩ | hn
      · have := hv x' hm; rw [hf] at this; cases this
      · rw [hn] at hx; cases hx
    · rw [hx] at hx'
      obtain rfl := Option.some.inj hx'
      refine ⟨rfl, h1.trans h1'.symm, h2.trans h2'.symm, ?_⟩
      rcases h3 with ⟨z, hz1, hn, hN, hM⟩ | ⟨hz1, hN, hM⟩
      · rcases h3' with ⟨z', hz1', _, hN', hM'⟩ | ⟨hz1', _⟩
        · rw [hz1] at hz1'
          obtain rfl := Option.some.inj hz1'
          exact ⟨hN.trans hN'.symm, hM.trans hM'.symm, hb, hb'⟩
        · rcases hz1' with h | h
          · rw [hz1] at h; cases h
          · exact absurd hn h
      · rcases h3' with ⟨z', hz1', hn', _⟩ | ⟨_, hN', hM'⟩
        · rcases hz1 with h | h
          · rw [h] at hz1'; cases hz1'
          · exact absurd hn' h
        · exact ⟨hN.trans hN'.symm, hM.trans hM'.symm, hb, hb'⟩
theorem agval_bare {a : At} (h : agVal 4 a = true) : bareB a = true := by unfold agVal at h; simp only [Bool.and_eq_true] at h; exact h.1.2
theorem atv_one (k : Int) (p : Bool) (N M : Int) : (#[.int .i64 k, .bool p, .int .u32 N, .int .u32 M, .slice none 0 0, .slice none 0 0, .slice none 0 0, .int .i64 0, .slice none 0 0] : Array Value).all (·.oneCell') = true := by simp [Value.oneCell']
theorem set23 {V : World} {g : Nat} {T : TypeId} {a b c d e f h i j : Value} (o : Own V g T #[a, b, c, d, e, f, h, i, j]) (x y : Value) : Own ((V.setCell ⟨g, 2, none⟩ x).setCell ⟨g, 3, none⟩ y) g T #[a, b, x, y, e, f, h, i, j] := by
  have := (o.set_ 2 x).set_ 3 y
  simpa using this
set_option maxRecDepth 100000 in
set_option maxHeartbeats 6400000 in
theorem merge_any (A : Option Addr) (n c : Nat) (aa : List At) (w : World) (h : Ats w w.heap.size A n aa) (hm : n ≤ maxLen) (hN : ∀ a ∈ aa, 0 ≤ a.N ∧ a.N < 4294967296) :
    Calls Tryd.prog 49 #[.slice A n c] w fun e w' => ∃ y q, e = .returned (.tuple #[.agg (atc y), .bool q]) ∧ MrgR aa y q ∧ Below w.heap.size w w' := by
  have HV := Lib.hid h
  have HM := Lib.hid hm
  have H1 := Lib.hid (show ∀ a ∈ aa, ∀ W : World, Calls Tryd.prog 82 #[.agg (atc a)] W fun e w' => e = .returned (.bool (!agVal 4 a)) ∧ Below W.heap.size W w' from fun a ha W => mg1_any a W (hN a ha).1 (hN a ha).2)
  have hF1 := Lib.hid (fun (W : World) (hb : Below w.heap.size w W) => first_1 A n c aa W ((h.below hb).more hb.size) hm (fun a => !agVal 4 a) (Lib.hid (fun a ha W' _ => H1.out a ha W')))
  have hF2 := Lib.hid (fun (W : World) (hb : Below w.heap.size w W) => first_2 A n c aa W ((h.below hb).more hb.size) hm (fun a => a.k == 7) (Lib.hid (fun a _ W' _ => mg2_any a W')))
  have hF3 := Lib.hid (fun (W : World) (hb : Below w.heap.size w W) => first_3 A n c aa W ((h.below hb).more hb.size) hm (fun a => a.k == 18) (Lib.hid (fun a _ W' _ => mg3_any a W')))
  clear h hm hN
  have o0 := Own.new w 29 #[.int .i64 0, .bool false, .int .u32 0, .int .u32 0, .slice none 0 0, .slice none 0 0, .slice none 0 0, .int .i64 0, .slice none 0 0]
  have hb0 := bl_alloc (bl_refl w) (.cells #[.int .i64 0, .bool false, .int .u32 0, .int .u32 0, .slice none 0 0, .slice none 0 0, .slice none 0 0, .int .i64 0, .slice none 0 0] 29)
  go_enter Tryd.func49, Tryd.ntmps49
  go_wp2_with fail
  refine (hF1.out _ hb0).mono ?_
  rintro e w1 ⟨x1, q1, rfl, hR1, hb1⟩
  have o1 := o0.step hb1
  have hb2 := bl_trans hb0 hb1
  clear o0 hb0 hb1
  rcases hR1 with ⟨rfl, hf1⟩ | ⟨rfl, hf1, rfl⟩
  · have hbad := Lib.hid (show ∃ x ∈ aa, agVal 4 x = false from ⟨x1, List.mem_of_find?_eq_some hf1, by have := List.find?_some hf1; simpa using this⟩)
    clear hf1
    obtain ⟨k, p, N, M, A1, n1, c1, A2, n2, c2, A3, n3, c3, f, A4, n4, c4⟩ := x1
    unfold atc
    dsimp only
    have o2 := o1.alloc (.cells #[.int .i64 k, .bool p, .int .u32 N, .int .u32 M, .slice A1 n1 c1, .slice A2 n2 c2, .slice A3 n3 c3, .int .i64 f, .slice A4 n4 c4] 29)
    have hb3 := bl_alloc hb2 (.cells #[.int .i64 k, .bool p, .int .u32 N, .int .u32 M, .slice A1 n1 c1, .slice A2 n2 c2, .slice A3 n3 c3, .int .i64 f, .slice A4 n4 c4] 29)
    go_wp2_with (refine wpList_store_row rfl 29 _ _ rfl w.heap.size #[.int .i64 0, .bool false, .int .u32 0, .int .u32 0, .slice none 0 0, .slice none 0 0, .slice none 0 0, .int .i64 0, .slice none 0 0] rfl rfl 29 #[.int .i64 0, .bool false, .int .u32 0, .int .u32 0, .slice none 0 0, .slice none 0 0, .slice none 0 0, .int .i64 0, .slice none 0 0] o2 (at_info9 _ _ _ _ _ _ _ _ _) rfl (ag_one _ _ _) ?_)
    exact bodyPost_ret (results_cell_tmp (p := 2) (t := 3) (fn := Tryd.f49) rfl _ _ w.heap.size 29 #[.int .i64 0, .bool false, .int .u32 0, .int .u32 0, .slice none 0 0, .slice none 0 0, .slice none 0 0, .int .i64 0, .slice none 0 0] _ rfl o2.setRow at_desc rfl (at_info9 _ _ _ _ _ _ _ _ _)) rfl ⟨atz, false, rfl, .inl ⟨rfl, rfl, .inl hbad.out⟩, bl_setRow hb3 (Nat.le_refl _)⟩
  · have hgood := Lib.hid (show ∀ x ∈ aa, agVal 4 x = true from fun x hx => by have := List.find?_eq_none.1 hf1 x hx; simpa using this)
    clear hf1
    have o2 := o1.alloc (.cells #[.int .i64 0, .bool false, .int .u32 0, .int .u32 0, .slice none 0 0, .slice none 0 0, .slice none 0 0, .int .i64 0, .slice none 0 0] 29)
    have hb3 := bl_alloc hb2 (.cells #[.int .i64 0, .bool false, .int .u32 0, .int .u32 0, .slice none 0 0, .slice none 0 0, .slice none 0 0, .int .i64 0, .slice none 0 0] 29)
    unfold atz at0 atc
    dsimp only
    clear o1 hb2
    go_wp2_with fail
    refine (hF2.out _ hb3).mono ?_
    rintro e w2 ⟨x2, q2, rfl, hR2, hb4⟩
    have o3 := o2.step hb4
    have hb5 := bl_trans hb3 hb4
    clear o2 hb3 hb4
    rcases hR2 with ⟨rfl, hf2⟩ | ⟨rfl, hf2, rfl⟩
    · have HF2 := Lib.hid hf2
      have hmem := Lib.hid (List.mem_of_find?_eq_some hf2)
      have hbare := Lib.hid (agval_bare (hgood.out x2 hmem.out))
      clear hf2
      obtain ⟨k, p, N, M, A1, n1, c1, A2, n2, c2, A3, n3, c3, f, A4, n4, c4⟩ := x2
      unfold atc
      dsimp only
      have o4 := (o3.alloc (.cells #[.int .i64 k, .bool p, .int .u32 N, .int .u32 M, .slice A1 n1 c1, .slice A2 n2 c2, .slice A3 n3 c3, .int .i64 f, .slice A4 n4 c4] 29)).alloc (.cells #[.int .i64 k, .bool p, .int .u32 N, .int .u32 M, .slice none 0 0, .slice none 0 0, .slice none 0 0, .int .i64 0, .slice none 0 0] 29)
      have oX := (Own.new w2 29 #[.int .i64 k, .bool p, .int .u32 N, .int .u32 M, .slice A1 n1 c1, .slice A2 n2 c2, .slice A3 n3 c3, .int .i64 f, .slice A4 n4 c4]).alloc (.cells #[.int .i64 k, .bool p, .int .u32 N, .int .u32 M, .slice none 0 0, .slice none 0 0, .slice none 0 0, .int .i64 0, .slice none 0 0] 29)
      have oY := Own.new (w2.alloc (.cells #[.int .i64 k, .bool p, .int .u32 N, .int .u32 M, .slice A1 n1 c1, .slice A2 n2 c2, .slice A3 n3 c3, .int .i64 f, .slice A4 n4 c4] 29)) 29 #[.int .i64 k, .bool p, .int .u32 N, .int .u32 M, .slice none 0 0, .slice none 0 0, .slice none 0 0, .int .i64 0, .slice none 0 0]
      rw [show (w2.alloc (.cells #[.int .i64 k, .bool p, .int .u32 N, .int .u32 M, .slice A1 n1 c1, .slice A2 n2 c2, .slice A3 n3 c3, .int .i64 f, .slice A4 n4 c4] 29)).heap.size = w2.heap.size + 1 by simp] at oY
      have hb6 := bl_alloc (bl_alloc hb5 (.cells #[.int .i64 k, .bool p, .int .u32 N, .int .u32 M, .slice A1 n1 c1, .slice A2 n2 c2, .slice A3 n3 c3, .int .i64 f, .slice A4 n4 c4] 29)) (.cells #[.int .i64 k, .bool p, .int .u32 N, .int .u32 M, .slice none 0 0, .slice none 0 0, .slice none 0 0, .int .i64 0, .slice none 0 0] 29)
      have hz5 := hb5.size
      have hlt3 := o3.lt
      clear o3 hb5
      go_wp2_with fail
      refine (hF3.out _ hb6).mono ?_
      rintro e w3 ⟨x3, q3, rfl, hR3, hb7⟩
      have p4 := o4.step hb7
      have pX := oX.step hb7
      have pY := oY.step hb7
      have hb8 := bl_trans hb6 hb7
      clear o4 oX oY hb6 hb7
      rcases hR3 with ⟨rfl, hf3⟩ | ⟨rfl, hf3, rfl⟩
      · have HF3 := Lib.hid hf3
        clear hf3
        obtain ⟨k', p', N', M', A1', n1', c1', A2', n2', c2', A3', n3', c3', f', A4', n4', c4'⟩ := x3
        unfold atc
        dsimp only
        have r4 := p4.alloc (.cells #[.int .i64 k', .bool p', .int .u32 N', .int .u32 M', .slice A1' n1' c1', .slice A2' n2' c2', .slice A3' n3' c3', .int .i64 f', .slice A4' n4' c4'] 29)
        have rX := pX.alloc (.cells #[.int .i64 k', .bool p', .int .u32 N', .int .u32 M', .slice A1' n1' c1', .slice A2' n2' c2', .slice A3' n3' c3', .int .i64 f', .slice A4' n4' c4'] 29)
        have rY := pY.alloc (.cells #[.int .i64 k', .bool p', .int .u32 N', .int .u32 M', .slice A1' n1' c1', .slice A2' n2' c2', .slice A3' n3' c3', .int .i64 f', .slice A4' n4' c4'] 29)
        have rZ := Own.new w3 29 #[.int .i64 k', .bool p', .int .u32 N', .int .u32 M', .slice A1' n1' c1', .slice A2' n2' c2', .slice A3' n3' c3', .int .i64 f', .slice A4' n4' c4']
        have hb9 := bl_alloc hb8 (.cells #[.int .i64 k', .bool p', .int .u32 N', .int .u32 M', .slice A1' n1' c1', .slice A2' n2' c2', .slice A3' n3' c3', .int .i64 f', .slice A4' n4' c4'] 29)
        have hne : w3.heap.size ≠ w2.heap.size + 1 := by have := pY.lt; omega
        obtain ⟨e0, e1, e2, e3, e4, e5, e6, e7, e8⟩ := at_cells rX
        obtain ⟨f0, f1, f2, f3, f4, f5, f6, f7, f8⟩ := at_cells rY
        obtain ⟨g0, g1, g2, g3, g4, g5, g6, g7, g8⟩ := at_cells rZ
        clear p4 pX pY hb8
        by_cases hNN : N = 23456
        · have hq : (N == 23456) = true := by simpa using hNN
          have HNN := Lib.hid hNN
          clear hNN
          have z2 := rY.frozen 2
          have z3 := rY.frozen 3
          go_wp2_with fail
          generalize w3.alloc (.cells #[.int .i64 k', .bool p', .int .u32 N', .int .u32 M', .slice A1' n1' c1', .slice A2' n2' c2', .slice A3' n3' c3', .int .i64 f', .slice A4' n4' c4'] 29) = W at *
          go_region
          have oM := (set23 rY (.int .u32 N') (.int .u32 M')).drew
          have hne2 : w.heap.size ≠ w2.heap.size + 1 := by omega
          have rM := ((r4.far (p := ⟨w2.heap.size + 1, 2, none⟩) hne2 (.int .u32 N')).far (p := ⟨w2.heap.size + 1, 3, none⟩) hne2 (.int .u32 M')).drew
          have hb10 := ((hb9.setCell (p := ⟨w2.heap.size + 1, 2, none⟩) (by show w.heap.size ≤ w2.heap.size + 1; omega) (.int .u32 N')).setCell (p := ⟨w2.heap.size + 1, 3, none⟩) (by show w.heap.size ≤ w2.heap.size + 1; omega) (.int .u32 M')).drew
          clear e0 e1 e2 e3 e4 e5 e6 e7 e8 f0 f1 f2 f3 f4 f5 f6 f7 f8 g0 g1 g2 g3 g4 g5 g6 g7 g8 z2 z3 r4 rX rY rZ hb9
          generalize ((W.setCell ⟨w2.heap.size + 1, 2, none⟩ (.int .u32 N')).setCell ⟨w2.heap.size + 1, 3, none⟩ (.int .u32 M')).drew = U at *
          obtain ⟨f0, f1, f2, f3, f4, f5, f6, f7, f8⟩ := at_cells oM
          go_wp2_with (refine wpList_store_row rfl 29 _ _ rfl w.heap.size #[.int .i64 k, .bool p, .int .u32 N', .int .u32 M', .slice none 0 0, .slice none 0 0, .slice none 0 0, .int .i64 0, .slice none 0 0] rfl rfl 29 #[.int .i64 0, .bool false, .int .u32 0, .int .u32 0, .slice none 0 0, .slice none 0 0, .slice none 0 0, .int .i64 0, .slice none 0 0] rM (at_info9 _ _ _ _ _ _ _ _ _) rfl (atv_one _ _ _ _) ?_)
          exact bodyPost_ret (results_cell_tmp (p := 2) (t := 3) (fn := Tryd.f49) rfl _ _ w.heap.size 29 #[.int .i64 k, .bool p, .int .u32 N', .int .u32 M', .slice none 0 0, .slice none 0 0, .slice none 0 0, .int .i64 0, .slice none 0 0] _ rfl rM.setRow at_desc rfl (at_info9 _ _ _ _ _ _ _ _ _)) rfl ⟨⟨k, p, N', M', none, 0, 0, none, 0, 0, none, 0, 0, 0, none, 0, 0⟩, true, rfl, .inr ⟨rfl, hgood.out, rfl, _, HF2.out, rfl, rfl, .inl ⟨_, HF3.out, HNN.out, rfl, rfl⟩⟩, bl_setRow hb10 (Nat.le_refl _)⟩
        · have hq : (N == 23456) = false := by simpa using hNN
          have HNN := Lib.hid hNN
          clear hNN
          go_wp2_with (refine wpList_store_row rfl 29 _ _ rfl w.heap.size #[.int .i64 k, .bool p, .int .u32 N, .int .u32 M, .slice none 0 0, .slice none 0 0, .slice none 0 0, .int .i64 0, .slice none 0 0] rfl rfl 29 #[.int .i64 0, .bool false, .int .u32 0, .int .u32 0, .slice none 0 0, .slice none 0 0, .slice none 0 0, .int .i64 0, .slice none 0 0] r4 (at_info9 _ _ _ _ _ _ _ _ _) rfl (atv_one _ _ _ _) ?_)
          exact bodyPost_ret (results_cell_tmp (p := 2) (t := 3) (fn := Tryd.f49) rfl _ _ w.heap.size 29 #[.int .i64 k, .bool p, .int .u32 N, .int .u32 M, .slice none 0 0, .slice none 0 0, .slice none 0 0, .int .i64 0, .slice none 0 0] _ rfl r4.setRow at_desc rfl (at_info9 _ _ _ _ _ _ _ _ _)) rfl ⟨⟨k, p, N, M, none, 0, 0, none, 0, 0, none, 0, 0, 0, none, 0, 0⟩, true, rfl, .inr ⟨rfl, hgood.out, rfl, _, HF2.out, rfl, rfl, .inr ⟨.inr HNN.out, rfl, rfl⟩⟩, bl_setRow hb9 (Nat.le_refl _)⟩
      · have HF3 := Lib.hid hf3
        clear hf3
        unfold atz at0 atc
        dsimp only
        have r4 := p4.alloc (.cells #[.int .i64 0, .bool false, .int .u32 0, .int .u32 0, .slice none 0 0, .slice none 0 0, .slice none 0 0, .int .i64 0, .slice none 0 0] 29)
        have rY := pY.alloc (.cells #[.int .i64 0, .bool false, .int .u32 0, .int .u32 0, .slice none 0 0, .slice none 0 0, .slice none 0 0, .int .i64 0, .slice none 0 0] 29)
        have hb9 := bl_alloc hb8 (.cells #[.int .i64 0, .bool false, .int .u32 0, .int .u32 0, .slice none 0 0, .slice none 0 0, .slice none 0 0, .int .i64 0, .slice none 0 0] 29)
        obtain ⟨f0, f1, f2, f3, f4, f5, f6, f7, f8⟩ := at_cells rY
        clear p4 pX pY hb8
        go_wp2_with (refine wpList_store_row rfl 29 _ _ rfl w.heap.size #[.int .i64 k, .bool p, .int .u32 N, .int .u32 M, .slice none 0 0, .slice none 0 0, .slice none 0 0, .int .i64 0, .slice none 0 0] rfl rfl 29 #[.int .i64 0, .bool false, .int .u32 0, .int .u32 0, .slice none 0 0, .slice none 0 0, .slice none 0 0, .int .i64 0, .slice none 0 0] r4 (at_info9 _ _ _ _ _ _ _ _ _) rfl (atv_one _ _ _ _) ?_)
        exact bodyPost_ret (results_cell_tmp (p := 2) (t := 3) (fn := Tryd.f49) rfl _ _ w.heap.size 29 #[.int .i64 k, .bool p, .int .u32 N, .int .u32 M, .slice none 0 0, .slice none 0 0, .slice none 0 0, .int .i64 0, .slice none 0 0] _ rfl r4.setRow at_desc rfl (at_info9 _ _ _ _ _ _ _ _ _)) rfl ⟨⟨k, p, N, M, none, 0, 0, none, 0, 0, none, 0, 0, 0, none, 0, 0⟩, true, rfl, .inr ⟨rfl, hgood.out, rfl, _, HF2.out, rfl, rfl, .inr ⟨.inl HF3.out, rfl, rfl⟩⟩, bl_setRow hb9 (Nat.le_refl _)⟩
    · have HF2 := Lib.hid hf2
      clear hf2
      unfold atz at0 atc
      dsimp only
      have o4 := o3.alloc (.cells #[.int .i64 0, .bool false, .int .u32 0, .int .u32 0, .slice none 0 0, .slice none 0 0, .slice none 0 0, .int .i64 0, .slice none 0 0] 29)
      have hb6 := bl_alloc hb5 (.cells #[.int .i64 0, .bool false, .int .u32 0, .int .u32 0, .slice none 0 0, .slice none 0 0, .slice none 0 0, .int .i64 0, .slice none 0 0] 29)
      go_wp2_with (refine wpList_store_row rfl 29 _ _ rfl w.heap.size #[.int .i64 0, .bool false, .int .u32 0, .int .u32 0, .slice none 0 0, .slice none 0 0, .slice none 0 0, .int .i64 0, .slice none 0 0] rfl rfl 29 #[.int .i64 0, .bool false, .int .u32 0, .int .u32 0, .slice none 0 0, .slice none 0 0, .slice none 0 0, .int .i64 0, .slice none 0 0] o4 (at_info9 _ _ _ _ _ _ _ _ _) rfl (ag_one _ _ _) ?_)
      exact bodyPost_ret (results_cell_tmp (p := 2) (t := 3) (fn := Tryd.f49) rfl _ _ w.heap.size 29 #[.int .i64 0, .bool false, .int .u32 0, .int .u32 0, .slice none 0 0, .slice none 0 0, .slice none 0 0, .int .i64 0, .slice none 0 0] _ rfl o4.setRow at_desc rfl (at_info9 _ _ _ _ _ _ _ _ _)) rfl ⟨atz, false, rfl, .inl ⟨rfl, rfl, .inr HF2.out⟩, bl_setRow hb6 (Nat.le_refl _)⟩
end Go.Proofs.YtkcejeogacobiaaDoor

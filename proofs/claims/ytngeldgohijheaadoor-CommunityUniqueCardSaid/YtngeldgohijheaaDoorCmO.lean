/- CommunityUnique -/
import Derived.Test.YtngeldgohijheaaDoorCmJ
namespace Go.Proofs.YtngeldgohijheaaDoor
open Go.RowKit Go.Sort

theorem row_open {w : World} {base n c : Nat} {A : Option Addr} {L : List Int} (h : w.ownsRow base 24 1 (.slice A n c) n (L.map (Value.int .u32))) (hL : n = L.length) :
    n = 0 ∨ ∃ g cur, A = some ⟨g, 0, none⟩ ∧ base ≤ g ∧ Own w g 24 cur ∧ ∀ j, j < n → ∃ x, cur[j]? = some (.int .u32 x) := by
  rcases h.2 with ⟨h0, _⟩ | ⟨g, cap, cur, hv, hb, hg, h3⟩
  · cases h0
    exact .inl rfl
  · cases hv
    refine .inr ⟨g, cur, rfl, hb, hg, fun j hj => ?_⟩
    have hj2 : j < L.length := by omega
    refine ⟨L[j], ?_⟩
    have h4 := h3.2.2.2
    rw [Nat.mul_one] at h4
    have h5 := congrArg (fun l => l[j]?) h4
    simp only [List.getElem?_take, hj, if_true, List.getElem?_map, List.getElem?_eq_getElem hj2, Option.map_some] at h5
    rw [← Array.getElem?_toList]
    exact h5
theorem set_ints {cur : Array Value} {n k : Nat} (h : ∀ j, j < n → ∃ x, cur[j]? = some (.int .u32 x)) (y : Int) : ∀ j, j < n → ∃ x, (cur.setIfInBounds k (.int .u32 y))[j]? = some (.int .u32 x) := by
  intro j hj
  obtain ⟨x, hx⟩ := h j hj
  by_cases e : j = k
  · subst e
    have hlt := (Array.getElem?_eq_some_iff.1 hx).1
    exact ⟨y, by rw [Array.getElem?_setIfInBounds]; simp [hlt]⟩
  · exact ⟨x, by rw [Array.getElem?_setIfInBounds, if_neg (Ne.symm e)]; exact hx⟩
set_option maxRecDepth 100000 in
set_option maxHeartbeats 6400000 in
theorem cuniq_walk (a : At) (ss : List Sg) (ls : List Int) (w : World) (ht : Tens w) (hs : Segs w w.heap.size a.A1 a.n1 ss) (hm : a.n1 ≤ maxLen) (hR : U32L ls) (hU : U32s w w.heap.size a.A2 a.n2 ls) (hnc : a.n2 ≤ a.c2) (hcm : a.c2 ≤ maxLen) (hsm : small9 a ss = true) :
    Calls Tryd.prog 7 #[.agg (atc a)] w fun e w' => e = .returned (.bool true) ∧ Below w.heap.size w w' := by
  have hn2 : a.n2 ≤ 200 := by
    unfold small9 at hsm
    simp only [Bool.and_eq_true, decide_eq_true_eq] at hsm
    exact hsm.2.1
  have hSm := Lib.hid (fun (W : World) (hb : Below w.heap.size w W) => small09_any a ss W ((hs.below hb).more hb.size) hm)
  rw [hsm] at hSm
  have hCl := Lib.hid (fun (W : World) (hb : Below w.heap.size w W) => cloneU_any a.A2 a.n2 a.c2 ls W ((hU.below hb).more hb.size) (by omega))
  have hEq := Lib.hid (fun (W : World) (hb : Below w.heap.size w W) (Ac : Option Addr) (cc B : Nat) (hx : U32s W B Ac a.n2 ls) => u32eq_any a.A2 Ac a.n2 a.n2 a.c2 cc ls ls W w.heap.size B (hU.below hb) hx (by omega) (by omega))
  have hUq := Lib.hid (fun (W : World) (hb : Below w.heap.size w W) => cmuniq_all a ls W hR ((hU.below hb).more hb.size) hnc hcm (by omega))
  have hRU := Lib.hid (fun (W : World) (hb : Below w.heap.size w W) (h1 : a.n2 ≤ 200) => rcmuniq_all a ls W hR ((hU.below hb).more hb.size) hnc hcm (by omega))
  have hLn := ukV_le (a := a) hU.1
  have hUq2 := Lib.hid (fun (A : Option Addr) (n c : Nat) (W : World) (hn : n = (ukV a ls).length) (hx : U32s W W.heap.size A n (ukV a ls)) (h1 : n ≤ c) (h2 : c ≤ maxLen) =>
    (show Calls Tryd.prog 26 #[.agg (atc (atL (ukk a) (ukp a) A n c))] W fun e w' => UqP W (ukk a) (ukp a) (ukV a ls) e w' from by
      have h := cmuniq_all (atL (ukk a) (ukp a) A n c) (ukV a ls) W (ukV_u32 hR) hx h1 h2 (by show n ≤ 1000; omega)
      subst hn
      obtain ⟨e1, e2, e3⟩ := uk_uk hU.1 A c
      rw [e1, e2, e3] at h
      exact h))
  have hSm2 := Lib.hid (fun (A : Option Addr) (n c : Nat) (A' : Option Addr) (n' c' : Nat) (W : World) (hx : U32s W W.heap.size A n (ukV a ls)) (hy : U32s W W.heap.size A' n' (ukV a ls)) =>
    rsame09_yes (atL (ukk a) (ukp a) A n c) (atL (ukk a) (ukp a) A' n' c') (ukV a ls) W rfl rfl (cmB_atL _ _ _ _ _) (cmB_atL _ _ _ _ _) hx hy (by omega))
  have HLs := Lib.hid hU.1
  generalize ukV a ls = L at *
  generalize ukk a = uk at *
  generalize ukp a = up at *
  clear hs hU hR hsm
  have HT := Lib.hid ht
  obtain ⟨k, p, N, M, A1, n1, c1, A2, n2, c2, A3, n3, c3, f, A4, n4, c4⟩ := a
  unfold atc at hSm hUq hRU ⊢
  unfold atc atL at hUq2 hSm2
  dsimp only at *
  have hb0 := bl_alloc (bl_refl w) (.cells #[.int .i64 k, .bool p, .int .u32 N, .int .u32 M, .slice A1 n1 c1, .slice A2 n2 c2, .slice A3 n3 c3, .int .i64 f, .slice A4 n4 c4] 29)
  have o0 := Own.new w 29 #[.int .i64 k, .bool p, .int .u32 N, .int .u32 M, .slice A1 n1 c1, .slice A2 n2 c2, .slice A3 n3 c3, .int .i64 f, .slice A4 n4 c4]
  go_enter Tryd.func7, Tryd.ntmps7
  go_wp2_with fail
  refine (hSm.out _ hb0).mono ?_
  rintro e w1 ⟨rfl, hb1⟩
  have o1 := o0.step hb1
  have hbA1 := bl_trans hb0 hb1
  clear hb0 hb1 o0
  obtain ⟨e0, e1, e2, e3, e4, e5, e6, e7, e8⟩ := at_cells o1
  go_wp2_with fail
  refine (hCl.out _ hbA1).mono ?_
  rintro e w2 ⟨vc, rfl, rowc, hb2⟩
  obtain ⟨Ac, cc, rfl⟩ := own_form rowc
  have HXc := Lib.hid (show U32s w2 w2.heap.size Ac n2 ls from ⟨HLs.out, Shows.of_own rowc⟩)
  have o2 := o1.step hb2
  have hbA2 := bl_trans hbA1 hb2
  clear hbA1 hb2 o1 e0 e1 e2 e3 e4 e5 e6 e7 e8 rowc
  obtain ⟨e0, e1, e2, e3, e4, e5, e6, e7, e8⟩ := at_cells o2
  go_wp2_with fail
  refine (hUq.out _ hbA2).mono ?_
  rintro e w3 ⟨Au, c, n, hn, rfl, row3, hb3⟩
  have hcap := row_caps row3
  have o3 := o2.step hb3
  have hbA3 := bl_trans hbA2 hb3
  have hbU3 := hb3
  clear e0 e1 e2 e3 e4 e5 e6 e7 e8 hb3
  have HN := Lib.hid hn
  clear hn
  unfold atc atL
  dsimp only
  have oU := Own.new w3 29 #[.int .i64 uk, .bool up, .int .u32 0, .int .u32 0, .slice none 0 0, .slice Au n c, .slice none 0 0, .int .i64 0, .slice none 0 0]
  have o4 := o3.alloc (.cells #[.int .i64 uk, .bool up, .int .u32 0, .int .u32 0, .slice none 0 0, .slice Au n c, .slice none 0 0, .int .i64 0, .slice none 0 0] 29)
  have hbA4 := bl_alloc hbA3 (.cells #[.int .i64 uk, .bool up, .int .u32 0, .int .u32 0, .slice none 0 0, .slice Au n c, .slice none 0 0, .int .i64 0, .slice none 0 0] 29)
  have hbU4 := bl_alloc hbU3 (.cells #[.int .i64 uk, .bool up, .int .u32 0, .int .u32 0, .slice none 0 0, .slice Au n c, .slice none 0 0, .int .i64 0, .slice none 0 0] 29)
  have row4 := row3.alloc (.cells #[.int .i64 uk, .bool up, .int .u32 0, .int .u32 0, .slice none 0 0, .slice Au n c, .slice none 0 0, .int .i64 0, .slice none 0 0] 29)
  have HXu4 := Lib.hid (show U32s (w3.alloc (.cells #[.int .i64 uk, .bool up, .int .u32 0, .int .u32 0, .slice none 0 0, .slice Au n c, .slice none 0 0, .int .i64 0, .slice none 0 0] 29)) (w3.alloc (.cells #[.int .i64 uk, .bool up, .int .u32 0, .int .u32 0, .slice none 0 0, .slice Au n c, .slice none 0 0, .int .i64 0, .slice none 0 0] 29)).heap.size Au n L from ⟨HN.out, Shows.of_own row4⟩)
  obtain ⟨e0, e1, e2, e3, e4, e5, e6, e7, e8⟩ := at_cells oU
  clear row3 o3 hbA3 hbU3
  go_wp2_with fail
  refine (hUq2.out _ _ _ _ HN.out HXu4.out hcap.1 hcap.2).mono ?_
  rintro e w5 ⟨Av, cv, nv, hnv, rfl, row5, hb5⟩
  unfold atc atL
  dsimp only
  have hu6 := (oU.step hb5).alloc (.cells #[.int .i64 uk, .bool up, .int .u32 0, .int .u32 0, .slice none 0 0, .slice Av nv cv, .slice none 0 0, .int .i64 0, .slice none 0 0] 29)
  have ha6 := (o4.step hb5).alloc (.cells #[.int .i64 uk, .bool up, .int .u32 0, .int .u32 0, .slice none 0 0, .slice Av nv cv, .slice none 0 0, .int .i64 0, .slice none 0 0] 29)
  have hv6 := Own.new w5 29 #[.int .i64 uk, .bool up, .int .u32 0, .int .u32 0, .slice none 0 0, .slice Av nv cv, .slice none 0 0, .int .i64 0, .slice none 0 0]
  have hbA6 := bl_alloc (bl_trans hbA4 hb5) (.cells #[.int .i64 uk, .bool up, .int .u32 0, .int .u32 0, .slice none 0 0, .slice Av nv cv, .slice none 0 0, .int .i64 0, .slice none 0 0] 29)
  have hbU6 := bl_alloc (hbU4.trans (hb5.mono hbU4.size)) (.cells #[.int .i64 uk, .bool up, .int .u32 0, .int .u32 0, .slice none 0 0, .slice Av nv cv, .slice none 0 0, .int .i64 0, .slice none 0 0] 29)
  have row6 := (own_belowG row4 hb5).alloc (.cells #[.int .i64 uk, .bool up, .int .u32 0, .int .u32 0, .slice none 0 0, .slice Av nv cv, .slice none 0 0, .int .i64 0, .slice none 0 0] 29)
  have HXu := Lib.hid (show U32s (w5.alloc (.cells #[.int .i64 uk, .bool up, .int .u32 0, .int .u32 0, .slice none 0 0, .slice Av nv cv, .slice none 0 0, .int .i64 0, .slice none 0 0] 29)) (w5.alloc (.cells #[.int .i64 uk, .bool up, .int .u32 0, .int .u32 0, .slice none 0 0, .slice Av nv cv, .slice none 0 0, .int .i64 0, .slice none 0 0] 29)).heap.size Au n L from ⟨HN.out, Shows.of_own row6⟩)
  have HXv := Lib.hid (show U32s (w5.alloc (.cells #[.int .i64 uk, .bool up, .int .u32 0, .int .u32 0, .slice none 0 0, .slice Av nv cv, .slice none 0 0, .int .i64 0, .slice none 0 0] 29)) (w5.alloc (.cells #[.int .i64 uk, .bool up, .int .u32 0, .int .u32 0, .slice none 0 0, .slice Av nv cv, .slice none 0 0, .int .i64 0, .slice none 0 0] 29)).heap.size Av nv L from ⟨hnv, (Shows.of_own row5).below (bl_alloc (bl_refl w5) _) |>.more (by simp)⟩)
  clear e0 e1 e2 e3 e4 e5 e6 e7 e8 hbA4 hbU4 row4 row5 hb5 o4 oU HXu4 hnv
  go_wp2_with fail
  generalize w5.alloc (.cells #[.int .i64 uk, .bool up, .int .u32 0, .int .u32 0, .slice none 0 0, .slice Av nv cv, .slice none 0 0, .int .i64 0, .slice none 0 0] 29) = X6 at *
  refine wp_region_held_drew (S := fun X => Own X w3.heap.size 29 #[.int .i64 uk, .bool up, .int .u32 0, .int .u32 0, .slice none 0 0, .slice Au n c, .slice none 0 0, .int .i64 0, .slice none 0 0] ∧ Own X w.heap.size 29 #[.int .i64 k, .bool p, .int .u32 N, .int .u32 M, .slice A1 n1 c1, .slice A2 n2 c2, .slice A3 n3 c3, .int .i64 f, .slice A4 n4 c4] ∧ Own X w5.heap.size 29 #[.int .i64 uk, .bool up, .int .u32 0, .int .u32 0, .slice none 0 0, .slice Av nv cv, .slice none 0 0, .int .i64 0, .slice none 0 0]) (by kernel_rfl) ⟨hu6, ha6, hv6⟩ (fun hHeld => ?_)
  have hbA : Below w.heap.size w X6.drew := bl_drewN hbA6 1
  have hbU : Below w2.heap.size w2 X6.drew := bl_drewN hbU6 1
  have HXu7 : Hid (U32s X6.drew X6.drew.heap.size Au n L) := HXu
  have HXv7 : Hid (U32s X6.drew X6.drew.heap.size Av nv L) := HXv
  have row7 : X6.drew.ownsRow w2.heap.size 24 1 (.slice Au n c) n (L.map (Value.int .u32)) := row6
  have hu7 : Own X6.drew w3.heap.size 29 #[.int .i64 uk, .bool up, .int .u32 0, .int .u32 0, .slice none 0 0, .slice Au n c, .slice none 0 0, .int .i64 0, .slice none 0 0] := hu6
  have ha7 : Own X6.drew w.heap.size 29 #[.int .i64 k, .bool p, .int .u32 N, .int .u32 M, .slice A1 n1 c1, .slice A2 n2 c2, .slice A3 n3 c3, .int .i64 f, .slice A4 n4 c4] := ha6
  have hv7 : Own X6.drew w5.heap.size 29 #[.int .i64 uk, .bool up, .int .u32 0, .int .u32 0, .slice none 0 0, .slice Av nv cv, .slice none 0 0, .int .i64 0, .slice none 0 0] := hv6
  clear hbA6 hbU6 HXu HXv row6 hu6 ha6 hv6
  generalize X6.drew = X7 at *
  refine wpAnyH_take (i := 0) (v := ?_) rfl (by kernel_rfl) (by kernel_rfl) (by kernel_rfl) (fun _ _ _ h => h) (Or.inl ⟨by rfl, ?_⟩) (by assumption) ?_
  rotate_left
  · (intro W hSw; obtain ⟨e0, e1, e2, e3, e4, e5, e6, e7, e8⟩ := at_cells hSw.1; go_simp; try with_reducible rfl)
  simp only [Act.put, List.getElem_toArray, List.getElem_cons_zero, List.setIfInBounds_toArray, List.set_cons_zero, List.set_cons_succ]
  refine wpAnyH_take (i := 1) (v := ?_) rfl (by kernel_rfl) (by kernel_rfl) (by kernel_rfl) (fun _ _ _ h => h) (Or.inl ⟨by rfl, ?_⟩) (by assumption) ?_
  rotate_left
  · (intro W hSw; obtain ⟨e0, e1, e2, e3, e4, e5, e6, e7, e8⟩ := at_cells hSw.2.1; go_simp; try with_reducible rfl)
  simp only [Act.put, List.getElem_toArray, List.getElem_cons_zero, List.getElem_cons_succ, List.setIfInBounds_toArray, List.set_cons_zero, List.set_cons_succ]
  refine wpAnyH_ready (rs := [2]) (by kernel_rfl) (by simp) ?_
  refine AllReadyH.cons rfl (fun K hK => ?_) AllReadyH.nil
  go_simp
  go_at_call 28
  refine (hRU.out _ hbA hn2).mono ?_
  rintro e w7 ⟨Ar, cr, nr, hnr, rfl, rowr, hb7⟩
  have hs7 : Own w7 w3.heap.size 29 #[.int .i64 uk, .bool up, .int .u32 0, .int .u32 0, .slice none 0 0, .slice Au n c, .slice none 0 0, .int .i64 0, .slice none 0 0] ∧ Own w7 w.heap.size 29 #[.int .i64 k, .bool p, .int .u32 N, .int .u32 M, .slice A1 n1 c1, .slice A2 n2 c2, .slice A3 n3 c3, .int .i64 f, .slice A4 n4 c4] ∧ Own w7 w5.heap.size 29 #[.int .i64 uk, .bool up, .int .u32 0, .int .u32 0, .slice none 0 0, .slice Av nv cv, .slice none 0 0, .int .i64 0, .slice none 0 0] := ⟨hu7.step hb7, ha7.step hb7, hv7.step hb7⟩
  have hbA7 := bl_trans hbA hb7
  have hbU7 := hbU.trans (hb7.mono hbU.size)
  have HXr := Lib.hid (show U32s w7 w7.heap.size Ar nr L from ⟨hnr, Shows.of_own rowr⟩)
  have HXu8 := Lib.hid ((HXu7.out.below hb7).more hb7.size)
  have HXv8 := Lib.hid ((HXv7.out.below hb7).more hb7.size)
  clear hbA hbU rowr hnr
  unfold atc atL
  dsimp only
  refine hK.out _ _ hs7 (fun hHeld2 => ?_)
  clear hK K hHeld
  have hHeld := hHeld2
  clear hHeld2
  try simp only [Act.put, List.getElem_toArray, List.getElem_cons_zero, List.getElem_cons_succ, List.setIfInBounds_toArray, List.set_cons_zero, List.set_cons_succ]
  refine wpAnyH_ready (rs := [3]) (by kernel_rfl) (by simp) ?_
  refine AllReadyH.cons rfl (fun K hK => ?_) AllReadyH.nil
  go_simp
  go_at_call 13
  refine (hSm2.out _ _ _ _ _ _ _ HXu8.out HXr.out).mono ?_
  rintro e w8 ⟨rfl, hb8⟩
  have hs8 : Own w8 w3.heap.size 29 #[.int .i64 uk, .bool up, .int .u32 0, .int .u32 0, .slice none 0 0, .slice Au n c, .slice none 0 0, .int .i64 0, .slice none 0 0] ∧ Own w8 w.heap.size 29 #[.int .i64 k, .bool p, .int .u32 N, .int .u32 M, .slice A1 n1 c1, .slice A2 n2 c2, .slice A3 n3 c3, .int .i64 f, .slice A4 n4 c4] ∧ Own w8 w5.heap.size 29 #[.int .i64 uk, .bool up, .int .u32 0, .int .u32 0, .slice none 0 0, .slice Av nv cv, .slice none 0 0, .int .i64 0, .slice none 0 0] := ⟨hs7.1.step hb8, hs7.2.1.step hb8, hs7.2.2.step hb8⟩
  have hbA8 := bl_trans hbA7 hb8
  have hbU8 := hbU7.trans (hb8.mono hbU7.size)
  have HXu9 := Lib.hid ((HXu8.out.below hb8).more hb8.size)
  have HXv9 := Lib.hid ((HXv8.out.below hb8).more hb8.size)
  clear hbA7 hbU7
  refine hK.out _ _ hs8 (fun hHeld2 => ?_)
  clear hK K hHeld
  have hHeld := hHeld2
  clear hHeld2
  try simp only [Act.put, List.getElem_toArray, List.getElem_cons_zero, List.getElem_cons_succ, List.setIfInBounds_toArray, List.set_cons_zero, List.set_cons_succ]
  refine wpAnyH_take (i := 4) (v := ?_) rfl (by kernel_rfl) (by kernel_rfl) (by kernel_rfl) (fun _ _ _ h => h) (Or.inl ⟨by rfl, ?_⟩) (by assumption) ?_
  rotate_left
  · (intro W hSw; go_simp; try with_reducible rfl)
  simp only [Act.put, List.getElem_toArray, List.getElem_cons_zero, List.getElem_cons_succ, List.setIfInBounds_toArray, List.set_cons_zero, List.set_cons_succ]
  refine wpAnyH_take (i := 5) (v := ?_) rfl (by kernel_rfl) (by kernel_rfl) (by kernel_rfl) (fun _ _ _ h => h) (Or.inl ⟨by rfl, ?_⟩) (by assumption) ?_
  rotate_left
  · (intro W hSw; go_simp; try with_reducible rfl)
  simp only [Act.put, List.getElem_toArray, List.getElem_cons_zero, List.getElem_cons_succ, List.setIfInBounds_toArray, List.set_cons_zero, List.set_cons_succ]
  refine wpAnyH_take (i := 6) (v := ?_) rfl (by kernel_rfl) (by kernel_rfl) (by kernel_rfl) (fun _ _ _ h => h) (Or.inl ⟨by rfl, ?_⟩) (by assumption) ?_
  rotate_left
  · (intro W hSw; obtain ⟨e0, e1, e2, e3, e4, e5, e6, e7, e8⟩ := at_cells hSw.2.2; go_simp; try with_reducible rfl)
  simp only [Act.put, List.getElem_toArray, List.getElem_cons_zero, List.getElem_cons_succ, List.setIfInBounds_toArray, List.set_cons_zero, List.set_cons_succ]
  refine wpAnyH_take (i := 7) (v := ?_) rfl (by kernel_rfl) (by kernel_rfl) (by kernel_rfl) (fun _ _ _ h => h) (Or.inl ⟨by rfl, ?_⟩) (by assumption) ?_
  rotate_left
  · (intro W hSw; obtain ⟨e0, e1, e2, e3, e4, e5, e6, e7, e8⟩ := at_cells hSw.1; go_simp; try with_reducible rfl)
  simp only [Act.put, List.getElem_toArray, List.getElem_cons_zero, List.getElem_cons_succ, List.setIfInBounds_toArray, List.set_cons_zero, List.set_cons_succ]
  refine wpAnyH_ready (rs := [8]) (by kernel_rfl) (by simp) ?_
  refine AllReadyH.cons rfl (fun K hK => ?_) AllReadyH.nil
  go_simp
  go_at_call 13
  refine (hSm2.out _ _ _ _ _ _ _ HXv9.out HXu9.out).mono ?_
  rintro e w9 ⟨rfl, hb9⟩
  have hs9 : Own w9 w3.heap.size 29 #[.int .i64 uk, .bool up, .int .u32 0, .int .u32 0, .slice none 0 0, .slice Au n c, .slice none 0 0, .int .i64 0, .slice none 0 0] ∧ Own w9 w.heap.size 29 #[.int .i64 k, .bool p, .int .u32 N, .int .u32 M, .slice A1 n1 c1, .slice A2 n2 c2, .slice A3 n3 c3, .int .i64 f, .slice A4 n4 c4] ∧ Own w9 w5.heap.size 29 #[.int .i64 uk, .bool up, .int .u32 0, .int .u32 0, .slice none 0 0, .slice Av nv cv, .slice none 0 0, .int .i64 0, .slice none 0 0] := ⟨hs8.1.step hb9, hs8.2.1.step hb9, hs8.2.2.step hb9⟩
  have hbA9 := bl_trans hbA8 hb9
  have hbU9 := hbU8.trans (hb9.mono hbU8.size)
  have row9 := own_belowG row7 (bl_trans (bl_trans hb7 hb8) hb9)
  clear hbA8 hbU8 hb7 hb8 hb9 row7
  refine hK.out _ _ hs9 (fun hHeld2 => ?_)
  clear hK K hHeld
  have hHeld := hHeld2
  clear hHeld2
  try simp only [Act.put, List.getElem_toArray, List.getElem_cons_zero, List.getElem_cons_succ, List.setIfInBounds_toArray, List.set_cons_zero, List.set_cons_succ]
  refine wpAnyH_take (i := 9) (v := ?_) rfl (by kernel_rfl) (by kernel_rfl) (by kernel_rfl) (fun _ _ _ h => h) (Or.inl ⟨by rfl, ?_⟩) (by assumption) ?_
  rotate_left
  · (intro W hSw; go_simp; try with_reducible rfl)
  simp only [Act.put, List.getElem_toArray, List.getElem_cons_zero, List.getElem_cons_succ, List.setIfInBounds_toArray, List.set_cons_zero, List.set_cons_succ]
  refine wpAnyH_take (i := 10) (v := ?_) rfl (by kernel_rfl) (by kernel_rfl) (by kernel_rfl) (fun _ _ _ h => h) (Or.inl ⟨by rfl, ?_⟩) (by assumption) ?_
  rotate_left
  · (intro W hSw; go_simp; try with_reducible rfl)
  simp only [Act.put, List.getElem_toArray, List.getElem_cons_zero, List.getElem_cons_succ, List.setIfInBounds_toArray, List.set_cons_zero, List.set_cons_succ]
  refine wpAnyH_done (by kernel_rfl) ?_ _
  have eu := hs9.1.cell (i := 5) (v := .slice Au n c) rfl
  have hRo := row_open row9 HN.out
  have oU9 := hs9.1
  have ha9 := ha7
  have hnb : n ≤ 200 := by have := HN.out; omega
  clear row9 hs9 hs7 hs8 hu7 ha7 hv7 ha9 HXu7 HXv7 HXu8 HXv8 HXu9 HXv9 HXr hHeld
  go_wp2
  go_loopw [32] (fun i wr => ∃ q : Nat, q ≤ n ∧ i = .int .i64 q ∧ Own wr w3.heap.size 29 #[.int .i64 uk, .bool up, .int .u32 0, .int .u32 0, .slice none 0 0, .slice Au n c, .slice none 0 0, .int .i64 0, .slice none 0 0] ∧ Below w2.heap.size w2 wr ∧ (n = 0 ∨ ∃ g cur, Au = some ⟨g, 0, none⟩ ∧ w2.heap.size ≤ g ∧ Own wr g 24 cur ∧ ∀ j, j < n → ∃ x, cur[j]? = some (.int .u32 x))) (fun i _ => n - (intOf i).toNat)
  case atStart => exact ⟨0, Nat.zero_le _, rfl, oU9, hbU9, hRo⟩
  case round =>
    obtain ⟨q, hq, rfl, oq, hbq, hro⟩ := hrel
    clear oU9 hRo eu hbU9 hbA9
    by_cases hlt : q < n
    · rcases hro with h0 | ⟨g, cur, rfl, hgb, og, hj⟩
      · omega
      · obtain ⟨x, hx⟩ := hj q hlt
        have e5 := oq.cell (i := 5) (v := .slice (some ⟨g, 0, none⟩) n c) rfl
        have ex := og.cell hx
        have fx := og.frozen q
        have hJ := Lib.hid hj
        have hne := oq.typed.ne og.typed uq_types.2.1
        clear hj hx
        go_wp2
        go_roundw
        case rel => exact ⟨q + 1, hlt, by go_num, oq.far (p := ⟨g, q, none⟩) hne _, hbq.setCell (p := ⟨g, q, none⟩) hgb _, .inr ⟨g, _, rfl, hgb, og.set_ q _, set_ints hJ.out _⟩⟩
        case measure => simp [intOf]; omega
    · obtain rfl : q = n := by omega
      have hbW := hbA2.trans (hbq.mono hbA2.size)
      have oA := o2.below hbq o2.lt
      clear hro
      go_wp2_with fail
      refine (alive09_any _ (HT.out.below hbW)).mono ?_
      rintro e w11 ⟨rfl, hb11⟩
      have hbX := bl_trans hbW hb11
      obtain ⟨e0, e1, e2, e3, e4, e5, e6, e7, e8⟩ := at_cells (oA.step hb11)
      have hXc := (HXc.out.below hbq).below (hb11.mono hbq.size)
      go_wp2_with fail
      refine (hEq.out _ hbX _ _ _ hXc).mono ?_
      rintro e w12 ⟨rfl, mm, rfl⟩
      go_wp2
      go_ret
      exact ⟨rfl, bl_drewN hbX mm⟩
set_option maxRecDepth 100000 in
theorem cuniq_early (a : At) (ss : List Sg) (w : World) (ht : Tens w) (hs : Segs w w.heap.size a.A1 a.n1 ss) (hm : a.n1 ≤ maxLen) (h : small9 a ss = false) :
    Calls Tryd.prog 7 #[.agg (atc a)] w fun e w' => e = .returned (.bool true) ∧ Below w.heap.size w w' := by
  have hSm := Lib.hid (fun (W : World) (hb : Below w.heap.size w W) => small09_any a ss W ((hs.below hb).more hb.size) hm)
  rw [h] at hSm
  have HT := Lib.hid ht
  clear hs ht h
  obtain ⟨k, p, N, M, A1, n1, c1, A2, n2, c2, A3, n3, c3, f, A4, n4, c4⟩ := a
  unfold atc at *
  dsimp only at *
  have hb0 := bl_alloc (bl_refl w) (.cells #[.int .i64 k, .bool p, .int .u32 N, .int .u32 M, .slice A1 n1 c1, .slice A2 n2 c2, .slice A3 n3 c3, .int .i64 f, .slice A4 n4 c4] 29)
  go_enter Tryd.func7, Tryd.ntmps7
  go_wp2_with fail
  refine (hSm.out _ hb0).mono ?_
  rintro e w1 ⟨rfl, hb1⟩
  have hb2 := bl_trans hb0 hb1
  go_wp2_with fail
  refine (alive09_any _ (HT.out.below hb2)).mono ?_
  rintro e w3 ⟨rfl, hb3⟩
  go_wp2
  go_ret
  exact ⟨rfl, bl_trans hb2 hb3⟩
set_option maxRecDepth 100000 in
theorem cuniq_all (a : At) (w : World) (ht : Tens w) (hin : AtIn w a) :
    Calls Tryd.prog 7 #[.agg (atc a)] w fun e w' => e = .returned (.bool true) ∧ Below w.heap.size w w' := by
  obtain ⟨_, _, _, _, ⟨i1, i2, ss, i3⟩, ⟨i4, i5, ls, i6, i7⟩, _, _⟩ := hin
  by_cases h : small9 a ss = false
  · exact cuniq_early a ss w ht i3 (by omega) h
  · exact cuniq_walk a ss ls w ht i3 (by omega) i6 i7 i4 i5 (by simpa using h)
end Go.Proofs.YtngeldgohijheaaDoor

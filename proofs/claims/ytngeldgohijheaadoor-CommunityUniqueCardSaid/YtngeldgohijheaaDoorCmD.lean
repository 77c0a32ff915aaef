/- community.Unique -/
import Derived.Test.YtngeldgohijheaaDoorCmHm
import Derived.Carry
namespace Go.Proofs.YtngeldgohijheaaDoor
open Go.RowKit Go.Shelf Go.Maps

attribute [local go_sem] Oper.semAt_some

theorem results_at {P : Program} {fn : Func} {p : Tmp} {ty : TypeId} (h : fn.results = #[.cell p ty]) (tmps : Array Value) (w : World) (g : Nat) (T : TypeId) (cs : Array Value) (d : TypeDesc)
    (hp : tmps.getD p undef = .pointer (some ⟨g, 0, none⟩)) (hg : Own w g T cs) (hu : P.underlying ty = some d) (hd : (match d with | .struct _ | .array _ _ => true | _ => false) = true) (hi : (P.info? ty).map (·.size) = some cs.size) :
    (results fn tmps).run P w = .ok (.agg cs) w := by
  have hp' : tmps[p]?.getD undef = .pointer (some ⟨g, 0, none⟩) := by simpa using hp
  simp [results, h, hp', asAddr, run_loadVar_row w g T ty cs (0, 0) d hg hu hd hi]
theorem wpListIn_store_row {P : Program} {n : Nat} {ops : Array Oper} {rest : List Oper} {o : Oper} {a : Act} {w : World} {Q : Exit → Act → World → Prop} (hgd : o.guard = none) (ty : TypeId) (x y : Operand) (ho : o.op = .store ty x y)
    (g : Nat) (cells : Array Value) (hx : a.eval x = .pointer (some ⟨g, 0, none⟩)) (hy : a.eval y = .agg cells)
    (t : TypeId) (old : Array Value) (hg : w.heap[g]? = some (.cells old t (0, 0))) (hi : (P.info? ty).map (·.size) = some cells.size)
    (hold : old.size = cells.size) (h1 : cells.all (·.oneCell') = true)
    (h : wpListIn Fence.wide n P ops Q rest (a.put o.dst undef) (w.setRow g cells)) : wpListIn Fence.wide n P ops Q (o :: rest) a w :=
  wpListIn_plain hgd fun _ hK => oper_wide (wp_store_row ty x y ho g cells hx hy t old hg hi hold h1 (hK _ _ h))
set_option maxRecDepth 100000 in
theorem cmuniq_no (a : At) (w : World) (hm : a.n2 ≤ maxLen) (hv : cmOk a = false) :
    Calls Tryd.prog 26 #[.agg (atc a)] w fun e w' => e = .returned (.agg uqZ) ∧ Below w.heap.size w w' := by
  have hV := Lib.hid (fun W => cmvalid_any a W hm)
  rw [hv] at hV
  clear hm hv
  obtain ⟨k, p, N, M, A1, n1, c1, A2, n2, c2, A3, n3, c3, f, A4, n4, c4⟩ := a
  unfold atc at *
  dsimp only at *
  have hb0 := bl_alloc (bl_alloc (bl_refl w) (.cells #[.int .i64 k, .bool p, .int .u32 N, .int .u32 M, .slice A1 n1 c1, .slice A2 n2 c2, .slice A3 n3 c3, .int .i64 f, .slice A4 n4 c4] 29)) (.cells #[.int .i64 0, .bool false, .int .u32 0, .int .u32 0, .slice none 0 0, .slice none 0 0, .slice none 0 0, .int .i64 0, .slice none 0 0] 29)
  have r0 := Own.new (w.alloc (.cells #[.int .i64 k, .bool p, .int .u32 N, .int .u32 M, .slice A1 n1 c1, .slice A2 n2 c2, .slice A3 n3 c3, .int .i64 f, .slice A4 n4 c4] 29)) 29 #[.int .i64 0, .bool false, .int .u32 0, .int .u32 0, .slice none 0 0, .slice none 0 0, .slice none 0 0, .int .i64 0, .slice none 0 0]
  rw [World.size_alloc] at r0
  go_enter Tryd.func26, Tryd.ntmps26
  go_wp2_with fail
  refine (hV.out _).mono ?_
  rintro e w1 ⟨rfl, hb1⟩
  have r1 := r0.step hb1
  have hb2 := bl_trans hb0 hb1
  go_wp2_with (refine wpList_store_row rfl 29 _ _ rfl (w.heap.size + 1) #[.int .i64 0, .bool false, .int .u32 0, .int .u32 0, .slice none 0 0, .slice none 0 0, .slice none 0 0, .int .i64 0, .slice none 0 0] rfl rfl 29 #[.int .i64 0, .bool false, .int .u32 0, .int .u32 0, .slice none 0 0, .slice none 0 0, .slice none 0 0, .int .i64 0, .slice none 0 0] r1 (at_info9 _ _ _ _ _ _ _ _ _) rfl (by simp [Value.oneCell']) ?_)
  exact bodyPost_ret (results_at (fn := Tryd.f26) rfl _ _ (w.heap.size + 1) 29 _ _ rfl r1.setRow at_desc rfl (at_info9 _ _ _ _ _ _ _ _ _)) rfl ⟨rfl, below_setRow hb2 (Nat.le_succ _) _⟩
set_option maxRecDepth 100000 in
set_option maxHeartbeats 6400000 in
theorem cmuniq_yes (a : At) (g m : Nat) (ls : List Int) (h : CmIn a g m ls) (hv : cmOk a = true) (w : World) (hU : U32s w w.heap.size a.A2 a.n2 ls) (hm : m ≤ 1000) :
    Calls Tryd.prog 26 #[.agg (atc a)] w fun e w' => ∃ A c n, n = (uqC (chunks g ls m)).flatten.length ∧ e = .returned (.agg (atc (atL a.k a.p A n c))) ∧ w'.ownsRow w.heap.size 24 1 (.slice A n c) n ((uqC (chunks g ls m)).flatten.map (Value.int .u32)) ∧ Below w.heap.size w w' := by
  have hV := Lib.hid (fun W => cmvalid_any a W (Nat.le_trans h.hnc h.hcm))
  rw [hv] at hV
  have hG := Lib.hid (fun W => cmgroup_any a.k W)
  rw [h.hg] at hG
  have hGr := Lib.hid (fun W => cmgroups_any a W)
  have hSt := Lib.hid (fun (Bn : Nat) (W : World) (hBn : Own W Bn 29 (atc a)) (hU : U32s W w.heap.size a.A2 a.n2 ls) (hn0 : w.heap.size ≤ W.heap.size) => groups_stops 8 (by omega) Bn w.heap.size a g m ls h W hBn hU hn0)
  have HU := Lib.hid hU
  have hg3 : g ≤ 3 := by have := h.hg1; omega
  have hO : Hid (uL g (tups g ls h.hR m) = (uqC (chunks g ls m)).flatten) := Lib.hid (by unfold uL; rw [uqT_tups h.hg1 (by rw [← h.hl]; exact h.hm) m (Nat.le_refl _)])
  generalize (uqC (chunks g ls m)).flatten = V at *
  generalize tups g ls h.hR = tsf at *
  have hb0 := bl_alloc (bl_alloc (bl_refl w) (.cells (atc a) 29)) (.cells #[.int .i64 0, .bool false, .int .u32 0, .int .u32 0, .slice none 0 0, .slice none 0 0, .slice none 0 0, .int .i64 0, .slice none 0 0] 29)
  have o0 := (Own.new w 29 (atc a)).alloc (.cells #[.int .i64 0, .bool false, .int .u32 0, .int .u32 0, .slice none 0 0, .slice none 0 0, .slice none 0 0, .int .i64 0, .slice none 0 0] 29)
  have r0 := Own.new (w.alloc (.cells (atc a) 29)) 29 #[.int .i64 0, .bool false, .int .u32 0, .int .u32 0, .slice none 0 0, .slice none 0 0, .slice none 0 0, .int .i64 0, .slice none 0 0]
  rw [World.size_alloc] at r0
  clear h hU hv
  have gi1 : (g : Int) ≤ 3 := by omega
  obtain ⟨k, p, N, M, A1, n1, c1, A2, n2, c2, A3, n3, c3, f, A4, n4, c4⟩ := a
  unfold atc at *
  dsimp only at *
  have hMk : ∀ (W : World), (Instr.makeMap 74 none).run Tryd.prog W = .ok (.map (some W.heap.size)) (W.alloc (.map #[] 0)) := fun W => run_makeMap _ W
  refine (callsIn_wide (n := 9)).1 ?_
  refine callsIn_of_wp_marks Tryd.func26 rfl trivial ?_ rfl
  simp only [Tryd.ntmps26, List.size_toArray, List.length_cons, List.length_nil, Nat.reduceAdd, Nat.reduceSub, Array.replicate_succ, Array.replicate_zero, List.push_toArray, List.append_toArray, List.nil_append, List.cons_append]
  gi_wp2_with (first
    | (refine ⟨trivial, ?_⟩; gi_at_call 20; refine (callsIn_wide.2 (hV.out _)).mono ?_; rintro e w1 ⟨rfl, hb1⟩; have o1 := o0.step hb1; have r1 := r0.step hb1; have hb2 := bl_trans hb0 hb1; have hs1 : w.heap.size + 2 ≤ w1.heap.size := (by have := hb1.size; simp at this; omega); obtain ⟨e0, e1, e2, e3, e4, e5, e6, e7, e8⟩ := at_cells ((((o1.alloc (.cells #[.int .i64 k, .bool p, .int .u32 0, .int .u32 0, .slice none 0 0, .slice none 0 0, .slice none 0 0, .int .i64 0, .slice none 0 0] 29)).alloc (.map #[] 0)).alloc (.cells #[.map (some (w1.heap.size + 1))] 74))); obtain ⟨d0, d1, d2, d3, d4, d5, d6, d7, d8⟩ := at_cells o1)
    | (refine ⟨trivial, ?_⟩; gi_at_call 48; refine (callsIn_wide.2 (hGr.out _)).mono ?_; rintro e w' ⟨rfl, rfl⟩))
  have oO := (((Own.new w1 29 #[.int .i64 k, .bool p, .int .u32 0, .int .u32 0, .slice none 0 0, .slice none 0 0, .slice none 0 0, .int .i64 0, .slice none 0 0]).alloc (.map #[] 0)).alloc (.cells #[.map (some (w1.heap.size + 1))] 74)).alloc (.cells #[.int .i64 k, .bool p, .int .u32 N, .int .u32 M, .slice A1 n1 c1, .slice A2 n2 c2, .slice A3 n3 c3, .int .i64 f, .slice A4 n4 c4] 29)
  have hM0 := World.ownsMap_made (H := Unit) (w1.alloc (.cells #[.int .i64 k, .bool p, .int .u32 0, .int .u32 0, .slice none 0 0, .slice none 0 0, .slice none 0 0, .int .i64 0, .slice none 0 0] 29)) Tryd.prog 70 (plainElem Tryd.prog 4)
  rw [World.size_alloc] at hM0
  have hM := (hM0.alloc (.cells #[.map (some (w1.heap.size + 1))] 74)).alloc (.cells #[.int .i64 k, .bool p, .int .u32 N, .int .u32 M, .slice A1 n1 c1, .slice A2 n2 c2, .slice A3 n3 c3, .int .i64 f, .slice A4 n4 c4] 29)
  have bM := (Boxed.new ((w1.alloc (.cells #[.int .i64 k, .bool p, .int .u32 0, .int .u32 0, .slice none 0 0, .slice none 0 0, .slice none 0 0, .int .i64 0, .slice none 0 0] 29)).alloc (.map #[] 0)) 74 (.map (some (w1.heap.size + 1)))).alloc (.cells #[.int .i64 k, .bool p, .int .u32 N, .int .u32 M, .slice A1 n1 c1, .slice A2 n2 c2, .slice A3 n3 c3, .int .i64 f, .slice A4 n4 c4] 29)
  have oB := Own.new (((w1.alloc (.cells #[.int .i64 k, .bool p, .int .u32 0, .int .u32 0, .slice none 0 0, .slice none 0 0, .slice none 0 0, .int .i64 0, .slice none 0 0] 29)).alloc (.map #[] 0)).alloc (.cells #[.map (some (w1.heap.size + 1))] 74)) 29 #[.int .i64 k, .bool p, .int .u32 N, .int .u32 M, .slice A1 n1 c1, .slice A2 n2 c2, .slice A3 n3 c3, .int .i64 f, .slice A4 n4 c4]
  have oA := (((o1.alloc (.cells #[.int .i64 k, .bool p, .int .u32 0, .int .u32 0, .slice none 0 0, .slice none 0 0, .slice none 0 0, .int .i64 0, .slice none 0 0] 29)).alloc (.map #[] 0)).alloc (.cells #[.map (some (w1.heap.size + 1))] 74)).alloc (.cells #[.int .i64 k, .bool p, .int .u32 N, .int .u32 M, .slice A1 n1 c1, .slice A2 n2 c2, .slice A3 n3 c3, .int .i64 f, .slice A4 n4 c4] 29)
  have oR := (((r1.alloc (.cells #[.int .i64 k, .bool p, .int .u32 0, .int .u32 0, .slice none 0 0, .slice none 0 0, .slice none 0 0, .int .i64 0, .slice none 0 0] 29)).alloc (.map #[] 0)).alloc (.cells #[.map (some (w1.heap.size + 1))] 74)).alloc (.cells #[.int .i64 k, .bool p, .int .u32 N, .int .u32 M, .slice A1 n1 c1, .slice A2 n2 c2, .slice A3 n3 c3, .int .i64 f, .slice A4 n4 c4] 29)
  have hB0 := bl_alloc (bl_alloc (bl_alloc (bl_alloc hb2 (.cells #[.int .i64 k, .bool p, .int .u32 0, .int .u32 0, .slice none 0 0, .slice none 0 0, .slice none 0 0, .int .i64 0, .slice none 0 0] 29)) (.map #[] 0)) (.cells #[.map (some (w1.heap.size + 1))] 74)) (.cells #[.int .i64 k, .bool p, .int .u32 N, .int .u32 M, .slice A1 n1 c1, .slice A2 n2 c2, .slice A3 n3 c3, .int .i64 f, .slice A4 n4 c4] 29)
  have hsz : ((((w1.alloc (.cells #[.int .i64 k, .bool p, .int .u32 0, .int .u32 0, .slice none 0 0, .slice none 0 0, .slice none 0 0, .int .i64 0, .slice none 0 0] 29)).alloc (.map #[] 0)).alloc (.cells #[.map (some (w1.heap.size + 1))] 74)).alloc (.cells #[.int .i64 k, .bool p, .int .u32 N, .int .u32 M, .slice A1 n1 c1, .slice A2 n2 c2, .slice A3 n3 c3, .int .i64 f, .slice A4 n4 c4] 29)).heap.size = w1.heap.size + 4 := by simp
  simp only [World.size_alloc] at bM oB
  obtain ⟨W0, hW0⟩ : ∃ W0, (((w1.alloc (.cells #[.int .i64 k, .bool p, .int .u32 0, .int .u32 0, .slice none 0 0, .slice none 0 0, .slice none 0 0, .int .i64 0, .slice none 0 0] 29)).alloc (.map #[] 0)).alloc (.cells #[.map (some (w1.heap.size + 1))] 74)).alloc (.cells #[.int .i64 k, .bool p, .int .u32 N, .int .u32 M, .slice A1 n1 c1, .slice A2 n2 c2, .slice A3 n3 c3, .int .i64 f, .slice A4 n4 c4] 29) = W0 := ⟨_, rfl⟩
  rw [hW0] at oO hM bM oB oA oR hB0 hsz ⊢
  clear hW0 hM0 o1 o0 hb0 hb1 hb2 r0 r1 e0 e1 e2 e3 e4 e5 e6 e7 e8 d0 d1 d2 d3 d4 d5 d6 d7 d8 hMk
  refine wpIn_rangeFunc_ownH rfl (by omega) (gf := 66) (lb := #[.pointer (some ⟨w1.heap.size + 1 + 1 + 1, 0, none⟩)]) rfl trivial (enters_of Tryd.func66 (by kernel_rfl) rfl)
    (hSt.out (w1.heap.size + 1 + 1 + 1) W0 oB (HU.out.below hB0) hB0.size) (fun h k => kpB_t h k) (kpB_b hB0.size oB.lt) (Below.refl _ _) (fun _ => rfl)
    (fun pre W => ∃ v D, UqI w k p g #[.int .i64 k, .bool p, .int .u32 N, .int .u32 M, .slice A1 n1 c1, .slice A2 n2 c2, .slice A3 n3 c3, .int .i64 f, .slice A4 n4 c4] w1.heap.size v D pre W)
    (fun _ _ _ => False)
    (uqI_own (by omega))
    (fun _ _ _ _ _ hs _ _ => hs)
    ⟨.slice none 0 0, .map [], World.ownsRow_nil _ _ _ _, oO, hM, MetD.nil, bM, oA, oB, oR, hB0, hs1⟩
    (fun x a' W => ∃ Bx, Own W Bx 70 #[.int .u32 x.a, .int .u32 x.b, .int .u32 x.c] ∧ a' = { tmps := #[.agg #[.int .i64 k, .bool p, .int .u32 N, .int .u32 M, .slice A1 n1 c1, .slice A2 n2 c2, .slice A3 n3 c3, .int .i64 f, .slice A4 n4 c4], .pointer (some ⟨w.heap.size, 0, none⟩), .pointer (some ⟨w.heap.size + 1, 0, none⟩), .pointer (some ⟨w1.heap.size, 0, none⟩), .pointer (some ⟨w1.heap.size + 1 + 1, 0, none⟩), .pointer (some ⟨Bx, 0, none⟩), .agg #[.int .i64 k, .bool p, .int .u32 N, .int .u32 M, .slice A1 n1 c1, .slice A2 n2 c2, .slice A3 n3 c3, .int .i64 f, .slice A4 n4 c4], .bool true, .bool false, undef, .pointer (some ⟨w.heap.size, 0, none⟩), .int .i64 k, .pointer (some ⟨w.heap.size, 1, none⟩), .bool p, .agg #[.int .i64 k, .bool p, .int .u32 0, .int .u32 0, .slice none 0 0, .slice none 0 0, .slice none 0 0, .int .i64 0, .slice none 0 0], .map (some (w1.heap.size + 1)), .agg #[.int .i64 k, .bool p, .int .u32 N, .int .u32 M, .slice A1 n1 c1, .slice A2 n2 c2, .slice A3 n3 c3, .int .i64 f, .slice A4 n4 c4], .func (.func 66) #[] #[.pointer (some ⟨w1.heap.size + 1 + 1 + 1, 0, none⟩)], .agg #[.int .u32 x.a, .int .u32 x.b, .int .u32 x.c], undef, undef, undef, undef, undef, undef, undef, undef, undef, undef, undef, undef, undef, undef, undef], defers := [] })
    (fun x a' _ X Y row hs hg hr => by obtain ⟨Bx, h1, h2⟩ := hs; exact ⟨Bx, (own_cells (β := Unit) _ _ _).from _ () X Y row h1 hg hr, h2⟩)
    ?assign ?body ?done ?stop
  case assign =>
    rintro l pre x W K ⟨v, D, hI⟩ hK
    unfold tupEnc
    gi_wp2
    exact hK _ _ ((KeepsOthers.alloc _ _).from _) ⟨(Below.refl _ W).alloc hI.bel.size _, Below.heap_alloc W _ _ hI.o2.lt⟩ ⟨v, D, uqI_below hI (bl_alloc (bl_refl W) _)⟩ ⟨W.heap.size, Own.new W _ _, rfl⟩
  case body =>
    rintro l pre x a' W hl _ ⟨v, D, hI⟩ ⟨Bx, oX, rfl⟩ hlt
    obtain ⟨A5, c5, rfl⟩ := own_form hI.row
    have hlk := look_met hI.map hI.met x
    unfold tupV at hlk
    have c0 : W.cell? ⟨w1.heap.size + 1 + 1, 0, none⟩ = some (.map (some (w1.heap.size + 1))) := hI.box.cell
    have q0 := oX.cell (i := 0) (v := .int .u32 x.a) rfl
    have q1 := oX.cell (i := 1) (v := .int .u32 x.b) rfl
    have q2 := oX.cell (i := 2) (v := .int .u32 x.c) rfl
    have hul := uL_le hg3 pre
    cases hany : pre.any (tEq · x)
    · rw [hany] at hlk
      have Hany := Lib.hid hany
      clear hany
      gi_wp2_with (gi_at_mapUpdate; refine wpListIn_mapUpdate_own _ rfl _ _ _ 74 rfl 70 4 tup_keyed Tryd.underlying74 _ (w1.heap.size + 1) pre.length D rfl hI.map (by unfold maxLen; omega) _ _ (kt x) rfl rfl (kt_some x) _ [] (plainElem_bool Tryd.underlying4 true) ?_; intro W2 hm2 hg2)
      have hany := Hany.out
      clear c0 hlk
      have hbX := bl_drewN (bl_refl W2) 1
      have hMid := uq_mid hI hg2 hbX
      have oX2 : Own W2 Bx 70 #[.int .u32 x.a, .int .u32 x.b, .int .u32 x.c] := oX.grown hg2 (fun e => by
        obtain ⟨es, clock, hb, _⟩ := hI.map
        have h1 := oX
        unfold Own at h1
        rw [Option.some.inj e, hb] at h1
        cases h1)
      have hsh := tup_shows (W := W2.drew) (g := g) oX2
      have hsz3 : W.heap.size ≤ W2.drew.heap.size := hg2.size
      have hlo := hI.lo
      refine round_held (S := fun X => X.cell? ⟨w.heap.size, 0, none⟩ = some (.int .i64 k)) (by kernel_rfl) (fun ⟨_, _, hq⟩ => hq) (by kernel_rfl) (hMid.o1.cell (i := 0) rfl) (fun hHeld => ?_)
      refine wpAnyH_take (i := 0) (v := ?_) rfl (by kernel_rfl) (by kernel_rfl) (by kernel_rfl) (fun _ _ _ h => h) (Or.inl ⟨by rfl, ?_⟩) (by assumption) ?_
      rotate_left
      · (intro W hSw; have s0 : W.cell? ⟨w.heap.size, 0, none⟩ = some (.int .i64 k) := hSw; go_simp; try with_reducible rfl)
      simp only [Act.put, List.getElem_toArray, List.getElem_cons_zero, List.setIfInBounds_toArray, List.set_cons_zero, List.set_cons_succ]
      refine wpAnyH_take (i := 2) (v := ?_) rfl (by kernel_rfl) (by kernel_rfl) (by kernel_rfl) (fun _ _ _ h => h) (Or.inl ⟨by rfl, ?_⟩) (by assumption) ?_
      rotate_left
      · (intro W hSw; have s0 : W.cell? ⟨w.heap.size, 0, none⟩ = some (.int .i64 k) := hSw; go_simp; try with_reducible rfl)
      simp only [Act.put, List.getElem_toArray, List.getElem_cons_zero, List.getElem_cons_succ, List.setIfInBounds_toArray, List.set_cons_zero, List.set_cons_succ]
      refine wpAnyH_take (i := 3) (v := ?_) rfl (by kernel_rfl) (by kernel_rfl) (by kernel_rfl) (fun _ _ _ h => h) (Or.inl ⟨by rfl, ?_⟩) (by assumption) ?_
      rotate_left
      · (intro W hSw; have s0 : W.cell? ⟨w.heap.size, 0, none⟩ = some (.int .i64 k) := hSw; go_simp; try with_reducible rfl)
      simp only [Act.put, List.getElem_toArray, List.getElem_cons_zero, List.getElem_cons_succ, List.setIfInBounds_toArray, List.set_cons_zero, List.set_cons_succ]
      refine wpAnyH_ready (rs := [1, 4]) (by kernel_rfl) (by simp) ?_
      refine AllReadyH.cons rfl (fun K hK => ?_) (AllReadyH.cons rfl (fun K hK => ?_) AllReadyH.nil)
      · skip
        have c0 := hMid.out.cell (i := 5) (v := .slice A5 (uL g pre).length c5) rfl
        have c00 : W2.cell? ⟨w1.heap.size, 5, none⟩ = some (.slice A5 (uL g pre).length c5) := c0
        go_simp
        refine hK.out _ _ hHeld (fun hHeld2 => ?_)
        clear hK K hHeld
        have hHeld := hHeld2
        clear hHeld2
        try simp only [Act.put, List.getElem_toArray, List.getElem_cons_zero, List.getElem_cons_succ, List.setIfInBounds_toArray, List.set_cons_zero, List.set_cons_succ]
        refine wpAnyH_ready (rs := [4]) (by kernel_rfl) (by simp) ?_
        refine AllReadyH.cons rfl (fun K hK => ?_) AllReadyH.nil
        go_simp
        go_at_call 23
        refine (hG.out _).mono ?_
        rintro e w4 ⟨rfl, rfl⟩
        refine hK.out _ _ hHeld (fun hHeld2 => ?_)
        clear hK K hHeld
        have hHeld := hHeld2
        clear hHeld2
        try simp only [Act.put, List.getElem_toArray, List.getElem_cons_zero, List.getElem_cons_succ, List.setIfInBounds_toArray, List.set_cons_zero, List.set_cons_succ]
        refine wpAnyH_take (i := 5) (v := ?_) rfl (by kernel_rfl) (by kernel_rfl) (by kernel_rfl) (fun _ _ _ h => h) (Or.inl ⟨by rfl, ?_⟩) (by assumption) ?_
        rotate_left
        · (intro W hSw; have s0 : W.cell? ⟨w.heap.size, 0, none⟩ = some (.int .i64 k) := hSw; go_simp; try with_reducible rfl)
        simp only [Act.put, List.getElem_toArray, List.getElem_cons_zero, List.getElem_cons_succ, List.setIfInBounds_toArray, List.set_cons_zero, List.set_cons_succ]
        refine wpAnyH_ready (rs := [6]) (by kernel_rfl) (by simp) ?_
        refine AllReadyH.cons rfl (fun K hK => ?_) AllReadyH.nil
        refine step_append_at _ rfl _ _ rfl sl_u32 w.heap.size _ _ _ rfl hMid.row _ (some ⟨Bx, 0, none⟩) g 3 _ rfl (by rw [List.length_map, tupL_len hg3]; exact (Nat.mul_one _).symm) hsh (ints_oneCell .u32 _) (by unfold maxLen; omega) (by omega) (Nat.le_trans hI.bel.size hsz3) ?_
        intro v5 w5 ho5 hg5 _
        obtain ⟨A6, c6, rfl⟩ := own_form ho5
        have ho6 := ho5
        rw [show (uL g pre).length + g = (uL g pre).length + (tupL g x).length by rw [tupL_len hg3]] at ho6
        have hfin := uq_end (B := W0.heap.size) (by omega) hI hany hg2 hm2 hbX ho6 hg5
        rw [tupL_len hg3] at hfin
        have n5 : ∀ j, Typed W2.drew j 29 → some j ≠ (Value.slice A5 (uL g pre).length c5).ownBlock := fun j hj e => (row_typed hMid.row e.symm).1.ne hj (Ne.symm uq_types.2.1) rfl
        have hS5 := (hMid.o1.grown hg5 (n5 _ hMid.o1.typed)).cell (i := 0) (v := .int .i64 k) rfl
        have oO5 := hMid.out.grown hg5 (n5 _ hMid.out.typed)
        have hc5 := oO5.cell (i := 5) (v := .slice A5 (uL g pre).length c5) rfl
        have hf5 := oO5.frozen 5
        refine hK.out _ _ hS5 (fun hHeld2 => ?_)
        clear hK K hHeld
        have hHeld := hHeld2
        clear hHeld2
        try simp only [Act.put, List.getElem_toArray, List.getElem_cons_zero, List.getElem_cons_succ, List.setIfInBounds_toArray, List.set_cons_zero, List.set_cons_succ]
        refine wpAnyH_ready (rs := [7]) (by kernel_rfl) (by simp) ?_
        refine AllReadyH.cons rfl (fun K hK => ?_) AllReadyH.nil
        go_simp
        refine hK.out _ _ hS5 (fun hHeld2 => ?_)
        clear hK K hHeld
        have hHeld := hHeld2
        clear hHeld2
        try simp only [Act.put, List.getElem_toArray, List.getElem_cons_zero, List.getElem_cons_succ, List.setIfInBounds_toArray, List.set_cons_zero, List.set_cons_succ]
        refine wpAnyH_ready (rs := [8]) (by kernel_rfl) (by simp) ?_
        refine AllReadyH.cons rfl (fun K hK => ?_) AllReadyH.nil
        go_simp
        refine hK.out _ _ (((hMid.o1.grown hg5 (n5 _ hMid.o1.typed)).far (p := ⟨w1.heap.size, 5, none⟩) (by dsimp only; omega) _).cell (i := 0) (v := .int .i64 k) rfl) (fun hHeld2 => ?_)
        clear hK K hHeld
        have hHeld := hHeld2
        clear hHeld2
        try simp only [Act.put, List.getElem_toArray, List.getElem_cons_zero, List.getElem_cons_succ]
        refine wpAnyH_done (by kernel_rfl) ?_ _
        exact hfin
      · skip
        go_simp
        go_at_call 23
        refine (hG.out _).mono ?_
        rintro e w4 ⟨rfl, rfl⟩
        refine hK.out _ _ hHeld (fun hHeld2 => ?_)
        clear hK K hHeld
        have hHeld := hHeld2
        clear hHeld2
        try simp only [Act.put, List.getElem_toArray, List.getElem_cons_zero, List.getElem_cons_succ, List.setIfInBounds_toArray, List.set_cons_zero, List.set_cons_succ]
        refine wpAnyH_take (i := 5) (v := ?_) rfl (by kernel_rfl) (by kernel_rfl) (by kernel_rfl) (fun _ _ _ h => h) (Or.inl ⟨by rfl, ?_⟩) (by assumption) ?_
        rotate_left
        · (intro W hSw; have s0 : W.cell? ⟨w.heap.size, 0, none⟩ = some (.int .i64 k) := hSw; go_simp; try with_reducible rfl)
        simp only [Act.put, List.getElem_toArray, List.getElem_cons_zero, List.getElem_cons_succ, List.setIfInBounds_toArray, List.set_cons_zero, List.set_cons_succ]
        refine wpAnyH_ready (rs := [1]) (by kernel_rfl) (by simp) ?_
        refine AllReadyH.cons rfl (fun K hK => ?_) AllReadyH.nil
        have c0 := hMid.out.cell (i := 5) (v := .slice A5 (uL g pre).length c5) rfl
        have c00 : W2.cell? ⟨w1.heap.size, 5, none⟩ = some (.slice A5 (uL g pre).length c5) := c0
        go_simp
        refine hK.out _ _ hHeld (fun hHeld2 => ?_)
        clear hK K hHeld
        have hHeld := hHeld2
        clear hHeld2
        try simp only [Act.put, List.getElem_toArray, List.getElem_cons_zero, List.getElem_cons_succ, List.setIfInBounds_toArray, List.set_cons_zero, List.set_cons_succ]
        refine wpAnyH_ready (rs := [6]) (by kernel_rfl) (by simp) ?_
        refine AllReadyH.cons rfl (fun K hK => ?_) AllReadyH.nil
        refine step_append_at _ rfl _ _ rfl sl_u32 w.heap.size _ _ _ rfl hMid.row _ (some ⟨Bx, 0, none⟩) g 3 _ rfl (by rw [List.length_map, tupL_len hg3]; exact (Nat.mul_one _).symm) hsh (ints_oneCell .u32 _) (by unfold maxLen; omega) (by omega) (Nat.le_trans hI.bel.size hsz3) ?_
        intro v5 w5 ho5 hg5 _
        obtain ⟨A6, c6, rfl⟩ := own_form ho5
        have ho6 := ho5
        rw [show (uL g pre).length + g = (uL g pre).length + (tupL g x).length by rw [tupL_len hg3]] at ho6
        have hfin := uq_end (B := W0.heap.size) (by omega) hI hany hg2 hm2 hbX ho6 hg5
        rw [tupL_len hg3] at hfin
        have n5 : ∀ j, Typed W2.drew j 29 → some j ≠ (Value.slice A5 (uL g pre).length c5).ownBlock := fun j hj e => (row_typed hMid.row e.symm).1.ne hj (Ne.symm uq_types.2.1) rfl
        have hS5 := (hMid.o1.grown hg5 (n5 _ hMid.o1.typed)).cell (i := 0) (v := .int .i64 k) rfl
        have oO5 := hMid.out.grown hg5 (n5 _ hMid.out.typed)
        have hc5 := oO5.cell (i := 5) (v := .slice A5 (uL g pre).length c5) rfl
        have hf5 := oO5.frozen 5
        refine hK.out _ _ hS5 (fun hHeld2 => ?_)
        clear hK K hHeld
        have hHeld := hHeld2
        clear hHeld2
        try simp only [Act.put, List.getElem_toArray, List.getElem_cons_zero, List.getElem_cons_succ, List.setIfInBounds_toArray, List.set_cons_zero, List.set_cons_succ]
        refine wpAnyH_ready (rs := [7]) (by kernel_rfl) (by simp) ?_
        refine AllReadyH.cons rfl (fun K hK => ?_) AllReadyH.nil
        go_simp
        refine hK.out _ _ hS5 (fun hHeld2 => ?_)
        clear hK K hHeld
        have hHeld := hHeld2
        clear hHeld2
        try simp only [Act.put, List.getElem_toArray, List.getElem_cons_zero, List.getElem_cons_succ, List.setIfInBounds_toArray, List.set_cons_zero, List.set_cons_succ]
        refine wpAnyH_ready (rs := [8]) (by kernel_rfl) (by simp) ?_
        refine AllReadyH.cons rfl (fun K hK => ?_) AllReadyH.nil
        go_simp
        refine hK.out _ _ (((hMid.o1.grown hg5 (n5 _ hMid.o1.typed)).far (p := ⟨w1.heap.size, 5, none⟩) (by dsimp only; omega) _).cell (i := 0) (v := .int .i64 k) rfl) (fun hHeld2 => ?_)
        clear hK K hHeld
        have hHeld := hHeld2
        clear hHeld2
        try simp only [Act.put, List.getElem_toArray, List.getElem_cons_zero, List.getElem_cons_succ]
        refine wpAnyH_done (by kernel_rfl) ?_ _
        exact hfin
    · rw [hany] at hlk
      have Hany := Lib.hid hany
      clear hany
      gi_wp2
      exact ⟨KeepsFrom.refl _ _, ⟨Below.refl _ _, rfl⟩, _, _, uqI_old hI Hany.out⟩
  case done =>
    rintro D zs W hD rfl ⟨v, E, hI⟩ hK
    obtain ⟨A5, c5, rfl⟩ := own_form hI.row
    have hout := hI.out
    have hres := hI.ores
    unfold uqC0 at hout
    unfold uqZ at hres
    obtain ⟨e0, e1, e2, e3, e4, e5, e6, e7, e8⟩ := at_cells hout
    gi_wp2_with (refine wpListIn_store_row rfl 29 _ _ rfl (w.heap.size + 1) #[.int .i64 k, .bool p, .int .u32 0, .int .u32 0, .slice none 0 0, .slice A5 (uL g (tsf m)).length c5, .slice none 0 0, .int .i64 0, .slice none 0 0] rfl rfl 29 #[.int .i64 0, .bool false, .int .u32 0, .int .u32 0, .slice none 0 0, .slice none 0 0, .slice none 0 0, .int .i64 0, .slice none 0 0] hres (at_info9 _ _ _ _ _ _ _ _ _) rfl (by simp [Value.oneCell']) ?_)
    have hlo := hI.lo
    have hK5 : (W.setRow (w.heap.size + 1) #[.int .i64 k, .bool p, .int .u32 0, .int .u32 0, .slice none 0 0, .slice A5 (uL g (tsf m)).length c5, .slice none 0 0, .int .i64 0, .slice none 0 0]).heap[D]? = some (.deferred (some [])) := (setRow_other W (w.heap.size + 1) D _ (by omega)).trans hK
    have R1 : Rest W (W.setRow (w.heap.size + 1) #[.int .i64 k, .bool p, .int .u32 0, .int .u32 0, .slice none 0 0, .slice A5 (uL g (tsf m)).length c5, .slice none 0 0, .int .i64 0, .slice none 0 0]) (fun i => i = w.heap.size + 1 ∨ i = D) := ⟨rfl, rfl, rfl, by simp, fun i _ hn => setRow_other W (w.heap.size + 1) i _ (fun e => hn (.inl e))⟩
    have R2 := R1.trans (Rest.of_grown (P := fun i => i = w.heap.size + 1 ∨ i = D) (grownBy_putObj' (W.setRow (w.heap.size + 1) #[.int .i64 k, .bool p, .int .u32 0, .int .u32 0, .slice none 0 0, .slice A5 (uL g (tsf m)).length c5, .slice none 0 0, .int .i64 0, .slice none 0 0]) D (.deferred none)) (fun j e => .inr (by cases e; rfl))) (fun _ _ h => h)
    refine ⟨by simp, .inl ⟨_, _, rfl, run_takeDeferred hK5, ?_⟩⟩
    exact ⟨_, results_at (fn := Tryd.f26) rfl _ _ (w.heap.size + 1) 29 _ _ rfl (((own_cells (β := Unit) _ _ _).from 0).putObj _ (s := ()) (show Own W (w.heap.size + 1) _ _ from hres).setRow (Nat.zero_le _) hK5 rfl) at_desc rfl (at_info9 _ _ _ _ _ _ _ _ _), A5, c5, (uL g (tsf m)).length, by rw [hO.out], rfl,
      by rw [← hO.out]; exact row_rest hI.row R2 (fun j hj e => by
          have ht := (row_typed hI.row hj).1
          rcases e with e | e
          · exact ht.ne hI.ores.typed (Ne.symm uq_types.2.1) e
          · obtain ⟨cs', hc⟩ := ht
            subst e
            rw [hK] at hc
            cases hc), hI.bel.trans (R2.to_below hI.bel.size (by rintro i hi (e | e) <;> omega))⟩
  case stop =>
    rintro D c pre W _ _ h _
    exact h.elim
end Go.Proofs.YtngeldgohijheaaDoor

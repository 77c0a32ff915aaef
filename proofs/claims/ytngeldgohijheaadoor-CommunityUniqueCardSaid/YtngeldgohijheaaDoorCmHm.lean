/- XCmHm: XCmH, XCmI, XCmC in one text -/
import Derived.Test.YtngeldgohijheaaDoorCmU
import Derived.Test.YtngeldgohijheaaDoorCmX
import Derived.Test.YtngeldgohijheaaDoorCmS
import Derived.Test.YtngeldgohijheaaDoorSgN
/- community.Has -/
namespace Go.Proofs.YtngeldgohijheaaDoor
open Go.RowKit Go.Shelf

attribute [local go_sem] Oper.semAt_some

theorem oper_wide {P : Program} {o : Oper} {a : Act} {w : World} {K : Act → World → Prop} {Q : Exit → Act → World → Prop} {n : Nat} (h : Oper.wp P o a w K Q) : Oper.wpIn Fence.wide n P o a w K Q := by
  unfold Oper.wpIn
  refine ⟨fun _ _ => trivial, ?_⟩
  rw [show Fence.wide.round = none from rfl, Oper.semAt_none]
  unfold Oper.wp at h
  generalize (execOp a.eval o).run P w = r at *
  cases r with
  | ok x w' =>
    cases x <;> simp only [Oper.upon, Oper.uponIn] at h ⊢ <;>
      first
        | exact h
        | exact ⟨fun hh => (by cases hh), callsIn_wide.2 h⟩
        | exact ⟨fun hh => (by cases hh), fun c cs _ => let ⟨v, w', r, s⟩ := h c cs; ⟨v, w', r, stepsIn_wide.2 s⟩⟩
  | halt x w' => cases x <;> simp only [Oper.upon, Oper.uponIn] at h ⊢ <;> exact h
theorem list_wide {P : Program} {ops : Array Oper} {Q : Exit → Act → World → Prop} {n : Nat} (hQ : ¬ LetsOut Q) : ∀ (l : List Oper) (a : Act) (w : World), wpList P ops Q l a w → wpListIn Fence.wide n P ops Q l a w
  | [], _, _, h => h
  | o :: l, a, w, h => by
    unfold wpList at h
    unfold wpListIn
    split at h
    · rename_i hw
      rw [if_pos hw]
      exact oper_wide (Oper.wp_mono (fun a' w' h' => list_wide hQ l a' w' h') (h.resolve_right (fun x => hQ x.2)))
    · rename_i hw
      rw [if_neg hw]
      exact ⟨fun _ _ => trivial, list_wide hQ l _ _ h⟩
set_option maxRecDepth 100000 in
theorem eql_tup (s t : Tup) (W : World) : (binOp .eql 70 (.agg #[.int .u32 s.a, .int .u32 s.b, .int .u32 s.c]) (.agg #[.int .u32 t.a, .int .u32 t.b, .int .u32 t.c])).run Tryd.prog W = .ok (.bool (tEq s t)) W := by
  rw [run_eql_struct, show (10000 : Nat) = 9999 + 1 from rfl, Op.equalIn]
  simp only [Sem.run_bind, run_underlying tup_under, Result.andThen_ok]
  simp only [Std.Legacy.Range.forIn_eq_forIn_range', Std.Legacy.Range.size, Nat.sub_zero, Nat.add_sub_cancel, Nat.div_one, List.range'_succ, List.range'_zero, List.forIn_cons, List.forIn_nil]
  go_simp
  unfold tEq
  by_cases h1 : s.a = t.a <;> by_cases h2 : s.b = t.b <;> by_cases h3 : s.c = t.c <;> simp [h1, h2, h3]
theorem tEq_at2 {g : Nat} {ls gs : List Int} {h : U32L ls} {h' : U32L gs} {q r : Nat} (hg : g = 1 ∨ g = 2 ∨ g = 3) (h1 : q * g + g ≤ ls.length) (h2 : r * g + g ≤ gs.length) : tEq (tupAt g ls h q) (tupAt g gs h' r) = decide (chunk g ls q = chunk g gs r) := by
  rw [← tupL_at (h := h) hg h1, ← tupL_at (h := h') hg h2, Bool.eq_iff_iff]
  unfold tEq tupL
  rw [decide_eq_true_iff, decide_eq_true_iff]
  rcases hg with rfl | rfl | rfl <;> simp [tupAt]
theorem chunk_all {g : Nat} {gs : List Int} (h : gs.length = g) : chunk g gs 0 = gs := by unfold chunk; rw [Nat.zero_mul, List.drop_zero, ← h, List.take_length]
theorem tups_has {g m : Nat} {ls gs : List Int} {h : U32L ls} {h' : U32L gs} (hg : g = 1 ∨ g = 2 ∨ g = 3) (hl : ls.length = m * g) (hgl : gs.length = g) {k : Nat} (hk : k ≤ m) :
    (tups g ls h k).any (tEq · (tupAt g gs h' 0)) = hasC g ls k gs := by
  unfold hasC
  rw [Bool.eq_iff_iff, List.any_eq_true, decide_eq_true_iff]
  unfold tups chunks
  constructor
  · rintro ⟨s, hs, he⟩
    obtain ⟨q, hq, rfl⟩ := List.mem_map.1 hs
    rw [List.mem_range] at hq
    rw [tEq_at2 hg (chunk_bound hl (by omega)) (by omega), decide_eq_true_iff, chunk_all hgl] at he
    exact List.mem_map.2 ⟨q, List.mem_range.2 hq, he⟩
  · intro hm
    obtain ⟨q, hq, he⟩ := List.mem_map.1 hm
    rw [List.mem_range] at hq
    refine ⟨_, List.mem_map.2 ⟨q, List.mem_range.2 hq, rfl⟩, ?_⟩
    rw [tEq_at2 hg (chunk_bound hl (by omega)) (by omega), decide_eq_true_iff, chunk_all hgl]
    exact he
theorem hasC_le {g k m : Nat} {ls gs : List Int} (hk : k ≤ m) (h : hasC g ls k gs = true) : hasC g ls m gs = true := by
  unfold hasC chunks at *
  rw [decide_eq_true_iff] at *
  obtain ⟨q, hq, he⟩ := List.mem_map.1 h
  rw [List.mem_range] at hq
  exact List.mem_map.2 ⟨q, List.mem_range.2 (by omega), he⟩
set_option maxRecDepth 100000 in
theorem copy_tup (W : World) (A6 : Option Addr) (n6 c6 B : Nat) (gs : List Int) (hU : U32s W B A6 n6 gs) (g : Nat) (hg1 : g = 1 ∨ g = 2 ∨ g = 3) (hgl : gs.length = g) (hR : U32L gs) (ty : TypeId) :
    ∃ w2, (Builtin.copy_ #[26, 26] ty #[.slice (some ⟨W.heap.size, 0, none⟩) 3 3, .slice A6 n6 c6]).run Tryd.prog (W.alloc (.cells #[.int .u32 0, .int .u32 0, .int .u32 0] 70)) = .ok (.int .i64 n6) w2 ∧
      Own w2 W.heap.size 70 #[.int .u32 (tupAt g gs hR 0).a, .int .u32 (tupAt g gs hR 0).b, .int .u32 (tupAt g gs hR 0).c] ∧ Below W.heap.size W w2 := by
  have hsp := tup_cells (g := g) (ls := gs) (h := hR) (k := 0) hg1 (by omega)
  rw [Nat.zero_mul, List.drop_zero, show gs.take g = gs by rw [← hgl, List.take_length]] at hsp
  have hn6 := hU.1
  rcases hU.2 with h0 | ⟨b, o, rfl, _, hc⟩
  · rw [List.map_eq_nil_iff] at h0
    subst h0
    simp at hgl
    omega
  · have oT := Own.new W 70 #[.int .u32 0, .int .u32 0, .int .u32 0]
    have hl : (gs.map (Value.int .u32)).length = n6 := by rw [List.length_map, hn6]
    have hrun := run_copy_row (P := Tryd.prog) (W.alloc (.cells #[.int .u32 0, .int .u32 0, .int .u32 0] 70)) 26 26 ty 24 W.heap.size 0 3 3 ⟨b, o, none⟩ n6 c6 _ _ (gs.map (Value.int .u32)) Tryd.underlying26 pair_info oT
      (by rw [hl]; exact (Nat.min_eq_left (by omega)).symm) (fun j v hv => by
        have h1 := hc j v hv
        have hlt := World.block_lt_of_cell? W _ h1
        rw [Addr.add_lit]; exact ((bl_alloc (bl_refl W) (.cells #[.int .u32 0, .int .u32 0, .int .u32 0] 70)).cell hlt).trans h1) (by rw [hl]; simp; omega) (ints_oneCell .u32 _)
    rw [show goInt (gs.map (Value.int .u32)).length = .int .i64 n6 by rw [hl]; rfl] at hrun
    have e : ∀ X : Array Value, Own ((W.alloc (.cells #[.int .u32 0, .int .u32 0, .int .u32 0] 70)).setRow W.heap.size X) W.heap.size 70 X := fun X => setRow_heap _ _ _ X _ _ oT
    refine ⟨_, hrun, ?_, below_setRow (bl_alloc (bl_refl W) _) (Nat.le_refl _) _⟩
    have h2 := e (splice [.int .u32 0, .int .u32 0, .int .u32 0] 0 (gs.map (Value.int .u32))).toArray
    rw [← hsp]
    simpa [splice] using h2
set_option maxRecDepth 100000 in
theorem results_box {fn : Func} {p : Tmp} (h : fn.results = #[.cell p 4]) (tmps : Array Value) (w : World) (g : Nat) (b : Bool) (hp : tmps.getD p undef = .pointer (some ⟨g, 0, none⟩)) (hg : Boxed w g 4 (.bool b)) :
    (results fn tmps).run Tryd.prog w = .ok (.bool b) w := by
  have hp' : tmps[p]?.getD undef = .pointer (some ⟨g, 0, none⟩) := by simpa using hp
  have hc := hg.cell
  simp [results, h, hp', asAddr, go_sem, hc]
set_option maxRecDepth 100000 in
theorem cmhas_no (a : At) (A6 : Option Addr) (n6 c6 : Nat) (w : World) (hm : a.n2 ≤ maxLen) (hv : cmOk a = false ∨ n6 ≠ cmG a.k) :
    Calls Tryd.prog 25 #[.agg (atc a), .slice A6 n6 c6] w fun e w' => e = .returned (.bool false) ∧ Below w.heap.size w w' := by
  have hV := Lib.hid (fun W => cmvalid_any a W hm)
  have hG := Lib.hid (fun W => cmgroup_any a.k W)
  generalize cmOk a = V at *
  generalize cmG a.k = g at *
  clear hm
  obtain ⟨k, p, N, M, A1, n1, c1, A2, n2, c2, A3, n3, c3, f, A4, n4, c4⟩ := a
  unfold atc at *
  dsimp only at *
  have hb0 := bl_alloc (bl_alloc (bl_refl w) (.cells #[.int .i64 k, .bool p, .int .u32 N, .int .u32 M, .slice A1 n1 c1, .slice A2 n2 c2, .slice A3 n3 c3, .int .i64 f, .slice A4 n4 c4] 29)) (.cells #[.bool false] 4)
  have o0 := (Own.new w 29 #[.int .i64 k, .bool p, .int .u32 N, .int .u32 M, .slice A1 n1 c1, .slice A2 n2 c2, .slice A3 n3 c3, .int .i64 f, .slice A4 n4 c4]).alloc (.cells #[.bool false] 4)
  have r0 := Boxed.new (w.alloc (.cells #[.int .i64 k, .bool p, .int .u32 N, .int .u32 M, .slice A1 n1 c1, .slice A2 n2 c2, .slice A3 n3 c3, .int .i64 f, .slice A4 n4 c4] 29)) 4 (.bool false)
  rw [World.size_alloc] at r0
  go_enter Tryd.func25, Tryd.ntmps25
  go_wp2_with fail
  refine (hV.out _).mono ?_
  rintro e w1 ⟨rfl, hb1⟩
  have o1 := o0.step hb1
  have r1 := bx_step r0 hb1
  have hb2 := bl_trans hb0 hb1
  have e0 := (at_cells o1).1
  have q0 := r1.cell; have q1 := r1.frozen
  cases V
  · go_wp2
    exact ⟨rfl, _, results_box rfl _ _ _ false rfl (r1.set _), rfl, hb2.setCell (p := ⟨w.heap.size + 1, 0, none⟩) (Nat.le_succ _) _⟩
  · have hne : ((n6 : Int) != (g : Int)) = true := by rw [bne_iff_ne]; have := hv.resolve_left (by simp); omega
    go_wp2_with fail
    refine (hG.out _).mono ?_
    rintro e w' ⟨rfl, rfl⟩
    go_wp2
    exact ⟨rfl, _, results_box rfl _ _ _ false rfl (r1.set _), rfl, hb2.setCell (p := ⟨w.heap.size + 1, 0, none⟩) (Nat.le_succ _) _⟩
/-- Between two rounds. -/
def HsI (w : World) (t : Tup) (RB WB gB : Nat) (cs : Array Value) (pre : List Tup) (W : World) : Prop :=
  Boxed W RB 4 (.bool false) ∧ Own W WB 70 #[.int .u32 t.a, .int .u32 t.b, .int .u32 t.c] ∧ Own W gB 29 cs ∧ Below w.heap.size w W ∧ pre.any (tEq · t) = false
def HsX (w : World) (t : Tup) (RB : Nat) (c : Code) (pre : List Tup) (W : World) : Prop :=
  c = .ret ∧ Boxed W RB 4 (.bool true) ∧ Below w.heap.size w W ∧ pre.any (tEq · t) = true
theorem box_own (B g : Nat) (t : TypeId) (v : Value) : OwnFrom B (fun (_ : Unit) W => Boxed W g t v) := (own_cells (β := Unit) g t #[v]).from B
theorem hsI_own {w : World} {t : Tup} {RB WB gB B : Nat} {cs : Array Value} (hB : w.heap.size ≤ B) : OwnFrom B (HsI w t RB WB gB cs) := by
  rintro s X Y row ⟨h1, h2, h3, h4, h5⟩ hg hr
  exact ⟨box_own B _ _ _ () X Y row h1 hg hr, (own_cells (β := Unit) _ _ _).from B () X Y row h2 hg hr, (own_cells (β := Unit) _ _ _).from B () X Y row h3 hg hr, ownFrom_below (β := Unit) (Nat.le_refl _) hB () X Y row h4 hg hr, h5⟩
theorem hsX_own {w : World} {t : Tup} {RB B : Nat} (hB : w.heap.size ≤ B) (c : Code) : OwnFrom B (HsX w t RB c) := by
  rintro s X Y row ⟨h1, h2, h4, h5⟩ hg hr
  exact ⟨h1, box_own B _ _ _ () X Y row h2 hg hr, ownFrom_below (β := Unit) (Nat.le_refl _) hB () X Y row h4 hg hr, h5⟩
set_option maxRecDepth 100000 in
set_option maxHeartbeats 6400000 in
theorem cmhas_yes (a : At) (g m : Nat) (ls gs : List Int) (h : CmIn a g m ls) (hG : U32L gs) (hgl : gs.length = g) (hv : cmOk a = true) (w : World) (A6 : Option Addr) (n6 c6 : Nat) (hU : U32s w w.heap.size a.A2 a.n2 ls) (hU6 : U32s w w.heap.size A6 n6 gs) :
    Calls Tryd.prog 25 #[.agg (atc a), .slice A6 n6 c6] w fun e w' => e = .returned (.bool (hasC g ls m gs)) ∧ Below w.heap.size w w' := by
  have hV := Lib.hid (fun W => cmvalid_any a W (Nat.le_trans h.hnc h.hcm))
  rw [hv] at hV
  have hGp := Lib.hid (fun W => cmgroup_any a.k W)
  rw [h.hg] at hGp
  have hGr := Lib.hid (fun W => cmgroups_any a W)
  have hSt := Lib.hid (fun (Bn : Nat) (W : World) (hBn : Own W Bn 29 (atc a)) (hU : U32s W w.heap.size a.A2 a.n2 ls) (hn0 : w.heap.size ≤ W.heap.size) => groups_stops 8 (by omega) Bn w.heap.size a g m ls h W hBn hU hn0)
  have HU := Lib.hid hU
  have hCp := Lib.hid (fun (W : World) (hb : Below w.heap.size w W) => copy_tup W A6 n6 c6 w.heap.size gs (hU6.below hb) g h.hg1 hgl hG 3)
  have hO : Hid (∀ k, k ≤ m → (tups g ls h.hR k).any (tEq · (tupAt g gs hG 0)) = hasC g ls k gs) := Lib.hid (fun k hk => tups_has h.hg1 (by rw [← h.hl]; exact h.hm) hgl hk)
  have hLe : Hid (∀ k, k ≤ m → hasC g ls k gs = true → hasC g ls m gs = true) := Lib.hid (fun k hk => hasC_le hk)
  obtain ⟨t, ht⟩ : ∃ t, tupAt g gs hG 0 = t := ⟨_, rfl⟩
  rw [ht] at hCp hO
  have hEq := Lib.hid (fun (s : Tup) W => eql_tup s t W)
  generalize hasC g ls = V at *
  generalize tups g ls h.hR = tsf at *
  have hb0 := bl_alloc (bl_alloc (bl_refl w) (.cells (atc a) 29)) (.cells #[.bool false] 4)
  have o0 := (Own.new w 29 (atc a)).alloc (.cells #[.bool false] 4)
  have r0 := Boxed.new (w.alloc (.cells (atc a) 29)) 4 (.bool false)
  rw [World.size_alloc] at r0
  have hg6 : n6 = g := by rw [hU6.1, hgl]
  have hnq : ((n6 : Int) != (g : Int)) = false := by rw [hg6]; simp
  clear h hU hU6 hv ht hgl hg6
  obtain ⟨k, p, N, M, A1, n1, c1, A2, n2, c2, A3, n3, c3, f, A4, n4, c4⟩ := a
  unfold atc at *
  dsimp only at *
  refine (callsIn_wide (n := 9)).1 ?_
  refine callsIn_of_wp_marks Tryd.func25 rfl trivial ?_ rfl
  simp only [Tryd.ntmps25, List.size_toArray, List.length_cons, List.length_nil, Nat.reduceAdd, Nat.reduceSub, Array.replicate_succ, Array.replicate_zero, List.push_toArray, List.append_toArray, List.nil_append, List.cons_append]
  gi_wp2_with (first
    | (refine ⟨trivial, ?_⟩; gi_at_call 20; refine (callsIn_wide.2 (hV.out _)).mono ?_; rintro e w1 ⟨rfl, hb1⟩; have o1 := o0.step hb1; have r1 := bx_step r0 hb1; have hb2 := bl_trans hb0 hb1; have hs1 := hb2.size; obtain ⟨e0, e1, e2, e3, e4, e5, e6, e7, e8⟩ := at_cells o1; have q0 := r1.cell; have q1 := r1.frozen)
    | (refine ⟨trivial, ?_⟩; gi_at_call 48; refine (callsIn_wide.2 (hGr.out _)).mono ?_; rintro e w' ⟨rfl, rfl⟩; clear e0 e1 e2 e3 e4 e5 e6 e7 e8)
    | (refine ⟨trivial, ?_⟩; gi_at_call 23; refine (callsIn_wide.2 (hGp.out _)).mono ?_; rintro e w' ⟨rfl, rfl⟩; obtain ⟨w2, hcp, oT, hb3⟩ := hCp.out w1 hb2; have o2 := o1.step hb3; have r2 := bx_step r1 hb3; have hb4 := bl_trans hb2 hb3; have hs3 := hb3.size; obtain ⟨f0, f1, f2, f3, f4, f5, f6, f7, f8⟩ := at_cells o2))
  clear f0 f1 f2 f3 f4 f5 f6 f7 f8 q0 q1 hcp
  have oN := oT.alloc (.cells #[.int .i64 k, .bool p, .int .u32 N, .int .u32 M, .slice A1 n1 c1, .slice A2 n2 c2, .slice A3 n3 c3, .int .i64 f, .slice A4 n4 c4] 29)
  have bR := r2.alloc (.cells #[.int .i64 k, .bool p, .int .u32 N, .int .u32 M, .slice A1 n1 c1, .slice A2 n2 c2, .slice A3 n3 c3, .int .i64 f, .slice A4 n4 c4] 29)
  have oB := Own.new w2 29 #[.int .i64 k, .bool p, .int .u32 N, .int .u32 M, .slice A1 n1 c1, .slice A2 n2 c2, .slice A3 n3 c3, .int .i64 f, .slice A4 n4 c4]
  have hB0 := bl_alloc hb4 (.cells #[.int .i64 k, .bool p, .int .u32 N, .int .u32 M, .slice A1 n1 c1, .slice A2 n2 c2, .slice A3 n3 c3, .int .i64 f, .slice A4 n4 c4] 29)
  obtain ⟨W0, hW0⟩ : ∃ W0, w2.alloc (.cells #[.int .i64 k, .bool p, .int .u32 N, .int .u32 M, .slice A1 n1 c1, .slice A2 n2 c2, .slice A3 n3 c3, .int .i64 f, .slice A4 n4 c4] 29) = W0 := ⟨_, rfl⟩
  rw [hW0] at oN bR oB hB0 ⊢
  clear hW0 o2 o1 o0 hb0 hb1 hb2 hb3 hb4 r0 r1 r2 oT
  refine wpIn_rangeFunc_ownH rfl (by omega) (gf := 66) (lb := #[.pointer (some ⟨w2.heap.size, 0, none⟩)]) rfl trivial (enters_of Tryd.func66 (by kernel_rfl) rfl)
    (hSt.out w2.heap.size W0 oB (HU.out.below hB0) hB0.size) (fun h k => kpB_t h k) (kpB_b hB0.size oB.lt) (Below.refl _ _) (fun _ => rfl)
    (HsI w t (w.heap.size + 1) w1.heap.size w2.heap.size #[.int .i64 k, .bool p, .int .u32 N, .int .u32 M, .slice A1 n1 c1, .slice A2 n2 c2, .slice A3 n3 c3, .int .i64 f, .slice A4 n4 c4])
    (HsX w t (w.heap.size + 1))
    (hsI_own hB0.size)
    (hsX_own hB0.size)
    ⟨bR, oN, oB, hB0, rfl⟩
    (fun x a' W => ∃ Bx, Own W Bx 70 #[.int .u32 x.a, .int .u32 x.b, .int .u32 x.c] ∧ a' = { tmps := #[.agg #[.int .i64 k, .bool p, .int .u32 N, .int .u32 M, .slice A1 n1 c1, .slice A2 n2 c2, .slice A3 n3 c3, .int .i64 f, .slice A4 n4 c4], .slice A6 n6 c6, .pointer (some ⟨w.heap.size, 0, none⟩), undef, .pointer (some ⟨w.heap.size + 1, 0, none⟩), .pointer (some ⟨w1.heap.size, 0, none⟩), .pointer (some ⟨Bx, 0, none⟩), .agg #[.int .i64 k, .bool p, .int .u32 N, .int .u32 M, .slice A1 n1 c1, .slice A2 n2 c2, .slice A3 n3 c3, .int .i64 f, .slice A4 n4 c4], .bool true, .bool false, .bool false, .slice A6 n6 c6, .int .i64 n6, .pointer (some ⟨w.heap.size, 0, none⟩), .int .i64 k, .int .i64 g, .bool false, .bool false, .slice (some ⟨w1.heap.size, 0, none⟩) 3 3, .slice A6 n6 c6, .int .i64 n6, .agg #[.int .i64 k, .bool p, .int .u32 N, .int .u32 M, .slice A1 n1 c1, .slice A2 n2 c2, .slice A3 n3 c3, .int .i64 f, .slice A4 n4 c4], .func (.func 66) #[] #[.pointer (some ⟨w2.heap.size, 0, none⟩)], .agg #[.int .u32 x.a, .int .u32 x.b, .int .u32 x.c], undef, undef, undef], defers := [] })
    (fun x a' _ X Y row hs hg hr => by obtain ⟨Bx, h1, h2⟩ := hs; exact ⟨Bx, (own_cells (β := Unit) _ _ _).from _ () X Y row h1 hg hr, h2⟩)
    ?assign ?body ?done ?stop
  case assign =>
    rintro l pre x W K ⟨h1, h2, h3, h4, h5⟩ hK
    unfold tupEnc
    gi_wp2
    exact hK _ _ ((KeepsOthers.alloc _ _).from _) ⟨(Below.refl _ W).alloc h4.size _, Below.heap_alloc W _ _ h3.lt⟩ ⟨h1.alloc _, h2.alloc _, h3.alloc _, bl_alloc h4 _, h5⟩ ⟨W.heap.size, Own.new W _ _, rfl⟩
  case body =>
    rintro l pre x a' W hl _ ⟨h1, h2, h3, h4, h5⟩ ⟨Bx, oX, rfl⟩ hlt
    have hE := hEq.out x
    have q0 := oX.cell (i := 0) (v := .int .u32 x.a) rfl
    have q1 := oX.cell (i := 1) (v := .int .u32 x.b) rfl
    have q2 := oX.cell (i := 2) (v := .int .u32 x.c) rfl
    have p0 := h2.cell (i := 0) (v := .int .u32 t.a) rfl
    have p1 := h2.cell (i := 1) (v := .int .u32 t.b) rfl
    have p2 := h2.cell (i := 2) (v := .int .u32 t.c) rfl
    have c0 := h1.cell
    have c1 := h1.frozen
    have hA : Hid (∀ b, tEq x t = b → (pre ++ [x]).any (tEq · t) = b) := Lib.hid (fun b hb => by rw [List.any_append, h5]; simp [hb])
    cases hh : tEq x t
    · rw [hh] at hE
      have HH := Lib.hid hh
      clear hh
      gi_wp2
      exact ⟨KeepsFrom.refl _ _, ⟨Below.refl _ _, rfl⟩, h1, h2, h3, h4, hA.out _ HH.out⟩
    · rw [hh] at hE
      have HH := Lib.hid hh
      clear hh
      gi_wp2
      exact ⟨(KeepsOthers.setCell _ _ _).from _, rfl, h1.set _, h4.setCell (p := ⟨w.heap.size + 1, 0, none⟩) (Nat.le_succ _) _, hA.out _ HH.out⟩
  case done =>
    rintro D zs W hD rfl ⟨h1, h2, h3, h4, h5⟩ hK
    have c0 := h1.cell
    have c1 := h1.frozen
    have hV0 : V m gs = false := (hO.out m (Nat.le_refl _)).symm.trans h5
    gi_wp2
    have hK5 := (KeepsOthers.setCell W ⟨w.heap.size + 1, 0, none⟩ (.bool false)).same D _ hK rfl
    refine ⟨by simp, .inl ⟨_, _, rfl, run_takeDeferred hK5, ?_⟩⟩
    exact ⟨_, results_box rfl _ _ (w.heap.size + 1) false rfl ((box_own _ _ _ _).putObj _ (s := ()) (h1.set _) hD hK5 rfl), by rw [hV0], (h4.setCell (p := ⟨w.heap.size + 1, 0, none⟩) (Nat.le_succ _) _).trans (belowK_b hB0.size _ D _ _ hD hK5 rfl rfl)⟩
  case stop =>
    rintro D c pre W hD ⟨j, hj, rfl⟩ ⟨rfl, h1, h4, h5⟩ hK
    have hV0 : V m gs = true := hLe.out j hj ((hO.out j hj).symm.trans h5)
    gi_wp2
    refine ⟨by simp, .inl ⟨_, _, rfl, run_takeDeferred hK, ?_⟩⟩
    exact ⟨_, results_box rfl _ _ (w.heap.size + 1) true rfl ((box_own _ _ _ _).putObj _ (s := ()) h1 hD hK rfl), by rw [hV0], h4.trans (belowK_b hB0.size _ D _ _ hD hK rfl rfl)⟩
end Go.Proofs.YtngeldgohijheaaDoor

/- peerageref09.Has -/
namespace Go.Proofs.YtngeldgohijheaaDoor
open Go.RowKit

theorem hasC_succ {g q : Nat} {ls gs : List Int} : hasC g ls (q + 1) gs = (hasC g ls q gs || decide (chunk g ls q = gs)) := by
  unfold hasC
  rw [chunks_succ, Bool.eq_iff_iff]
  simp only [decide_eq_true_iff, List.mem_append, List.mem_singleton, Bool.or_eq_true]
  exact ⟨fun h => h.imp id Eq.symm, fun h => h.imp id Eq.symm⟩
set_option maxRecDepth 100000 in
theorem rcmhas_no (a : At) (A6 : Option Addr) (n6 c6 : Nat) (w : World) (hm : a.n2 ≤ maxLen) (hv : cmOk a = false) :
    Calls Tryd.prog 24 #[.agg (atc a), .slice A6 n6 c6] w fun e w' => e = .returned (.bool false) ∧ Below w.heap.size w w' := by
  have hV := Lib.hid (fun W => rcmvalid_any a W hm)
  rw [hv] at hV
  clear hm hv
  obtain ⟨k, p, N, M, A1, n1, c1, A2, n2, c2, A3, n3, c3, f, A4, n4, c4⟩ := a
  unfold atc at *
  dsimp only at *
  have hb0 := bl_alloc (bl_refl w) (.cells #[.int .i64 k, .bool p, .int .u32 N, .int .u32 M, .slice A1 n1 c1, .slice A2 n2 c2, .slice A3 n3 c3, .int .i64 f, .slice A4 n4 c4] 29)
  go_enter Tryd.func24, Tryd.ntmps24
  go_wp2_with fail
  refine (hV.out _).mono ?_
  rintro e w1 ⟨rfl, hb1⟩
  go_wp2
  go_ret
  exact ⟨rfl, bl_trans hb0 hb1⟩
set_option maxRecDepth 100000 in
set_option maxHeartbeats 3200000 in
theorem rcmhas_yes (a : At) (g m : Nat) (ls gs : List Int) (h : CmIn a g m ls) (hv : cmOk a = true) (w : World) (A6 : Option Addr) (n6 c6 : Nat) (hU : U32s w w.heap.size a.A2 a.n2 ls) (hU6 : U32s w w.heap.size A6 n6 gs) (hn6 : n6 ≤ 1000000000) (hn2 : a.n2 ≤ 1000000000) :
    Calls Tryd.prog 24 #[.agg (atc a), .slice A6 n6 c6] w fun e w' => e = .returned (.bool (hasC g ls m gs)) ∧ Below w.heap.size w w' := by
  have hV := Lib.hid (fun W => rcmvalid_any a W (Nat.le_trans h.hnc h.hcm))
  rw [hv] at hV
  have hG := Lib.hid (fun W => rcmgroup_any a.k W)
  rw [h.hg] at hG
  have HU := Lib.hid hU
  have HU6 := Lib.hid hU6
  have HL := Lib.hid hU.1
  have HM := Lib.hid h.hm
  have hg1 := h.hg1
  have hg0 : 0 < g := by omega
  have hg3 : g ≤ 3 := by omega
  have hnc := h.hnc
  have hcm := h.hcm
  unfold maxLen at hcm
  have h00 : hasC g ls 0 gs = false := rfl
  have hSc := Lib.hid (fun q => hasC_succ (g := g) (q := q) (ls := ls) (gs := gs))
  have hLe := Lib.hid (fun q (hq : q ≤ m) => hasC_le (g := g) (ls := ls) (gs := gs) hq)
  generalize hasC g ls = V at *
  obtain ⟨k, p0, N, M, A1, n1, c1, A2, n2, c2, A3, n3, c3, f, A4, n4, c4⟩ := a
  unfold atc at *
  dsimp only at *
  have hb0 := bl_alloc (bl_refl w) (.cells #[.int .i64 k, .bool p0, .int .u32 N, .int .u32 M, .slice A1 n1 c1, .slice A2 n2 c2, .slice A3 n3 c3, .int .i64 f, .slice A4 n4 c4] 29)
  have o0 := Own.new w 29 #[.int .i64 k, .bool p0, .int .u32 N, .int .u32 M, .slice A1 n1 c1, .slice A2 n2 c2, .slice A3 n3 c3, .int .i64 f, .slice A4 n4 c4]
  clear hU hU6 h hv hg1
  go_enter Tryd.func24, Tryd.ntmps24
  go_wp2_with fail
  refine (hV.out _).mono ?_
  rintro e w1 ⟨rfl, hb1⟩
  have o1 := o0.step hb1
  have hb2 := bl_trans hb0 hb1
  have e0 := o1.cell (i := 0) rfl
  have e5 := o1.cell (i := 5) rfl
  go_wp2_with (go_at_call 17; refine (hG.out _).mono ?_; rintro e w' ⟨rfl, rfl⟩)
  go_loopw [6] (fun i wr => ∃ q p : Nat, Hid (p = q * g) ∧ q ≤ m ∧ p ≤ n2 ∧ i = .int .i64 p ∧ V q gs = false ∧ Own wr w.heap.size 29 #[.int .i64 k, .bool p0, .int .u32 N, .int .u32 M, .slice A1 n1 c1, .slice A2 n2 c2, .slice A3 n3 c3, .int .i64 f, .slice A4 n4 c4] ∧ Below w.heap.size w wr) (fun i _ => n2 - (intOf i).toNat)
  case atStart => exact ⟨0, 0, Lib.hid (by simp), Nat.zero_le _, Nat.zero_le _, rfl, h00, o1, hb2⟩
  case round =>
    obtain ⟨q, p, HP, hq, hp, rfl, hVq, oq, hbq⟩ := hrel
    have HVq := Lib.hid hVq
    clear o1 o0 hb0 hb1 hb2 e0 e5 h00 hVq
    have e5 := oq.cell (i := 5) rfl
    have k1 : IntKind.i64.wrap ((p : Int) + (g : Int)) = (p : Int) + (g : Int) := IntWalk.i64_in _ (by omega)
    by_cases hlt : q < m
    · have hpg : p + g ≤ n2 := by
        have h1 := HP.out
        have h2 := HM.out
        have h3 := Nat.mul_le_mul_right g (show q + 1 ≤ m from hlt)
        rw [Nat.succ_mul] at h3
        omega
      have hplt : (p : Int) < (n2 : Int) := by omega
      have hplt2 : p < n2 := by omega
      obtain ⟨b, o, rfl, hbB, _⟩ := (HU.out.below hbq).at_ (k := p) hplt2
      have hsrc := u32s_part (p := p) (g := g) (HU.out.below hbq)
      have hSt := hSc.out q
      rw [show chunk g ls q = (ls.drop p).take g by unfold chunk; rw [HP.out], HVq.out, Bool.false_or] at hSt
      have HSt := Lib.hid hSt
      have hLl : g = ((ls.drop p).take g).length := by rw [List.length_take, List.length_drop, ← HL.out]; omega
      generalize (ls.drop p).take g = L at *
      have hUL : U32s wr wr.heap.size (some ⟨b, o + p, none⟩) g L := ⟨hLl, .inr ⟨b, o + p, rfl, by have := hbq.size; omega, fun i v hv => by have := hsrc i v hv; rwa [Addr.add_lit] at this⟩⟩
      have hSm := Lib.hid (fun (W : World) (hW : Below wr.heap.size wr W) => rsame_u32 (some ⟨b, o + p, none⟩) A6 g n6 (c2 - p) c6 L gs W wr.heap.size w.heap.size (hUL.below hW) ((HU6.out.below hbq).below (hW.mono hbq.size)) (by omega) hn6)
      have i1 : (0 : Int) ≤ (p : Int) := by omega
      have i2 : (p : Int) ≤ (p : Int) + (g : Int) := by omega
      have i3 : (p : Int) + (g : Int) ≤ (c2 : Int) := by omega
      have i4 : p + g ≤ c2 := by omega
      have i5 : ¬ c2 = p := by omega
      have i6 : ((p : Int) + (g : Int)).toNat - p = g := by omega
      clear hsrc hUL hLl hSt
      go_wp2_with fail
      refine (hSm.out _ (bl_refl _)).mono ?_
      rintro e w5 ⟨rfl, mm, rfl⟩
      have hb5 := bl_drewN (bl_refl wr) mm
      have o5 := oq.step hb5
      have hbq5 := bl_trans hbq hb5
      generalize wr.drewN mm = w5 at *
      cases hd : decide (L = gs)
      · have hV1 : V (q + 1) gs = false := HSt.out.trans hd
        clear hd
        go_wp2
        go_roundw
        case rel => exact ⟨q + 1, p + g, Lib.hid (by rw [Nat.succ_mul, HP.out]), hlt, hpg, by go_num, hV1, o5, hbq5⟩
        case measure => simp [intOf]; omega
      · have hV1 : V m gs = true := hLe.out (q + 1) hlt (HSt.out.trans hd)
        clear hd
        go_wp2
        go_ret
        exact ⟨ret_boolA hV1.symm, hbq5⟩
    · obtain rfl : q = m := by omega
      have hpn : ¬ ((p : Int) < (n2 : Int)) := by have := HP.out; have := HM.out; omega
      have hpn2 : ¬ (p < n2) := by omega
      go_wp2
      go_ret
      exact ⟨ret_boolA HVq.out.symm, hbq⟩
end Go.Proofs.YtngeldgohijheaaDoor

/- community.Unique: between two rounds -/
namespace Go.Proofs.YtngeldgohijheaaDoor
open Go.RowKit Go.Maps

def uL (g : Nat) (pre : List Tup) : List Int := ((uqT pre).map (tupL g)).flatten
theorem tupL_len {g : Nat} (hg : g ≤ 3) (t : Tup) : (tupL g t).length = g := by unfold tupL; rw [List.length_take]; simp; omega
theorem uL_len {g : Nat} (hg : g ≤ 3) (pre : List Tup) : (uL g pre).length = (uqT pre).length * g := by
  unfold uL
  rw [flat_len (g := g) (fun x hx => by obtain ⟨t, _, rfl⟩ := List.mem_map.1 hx; exact tupL_len hg t), List.length_map]
theorem uL_le {g : Nat} (hg : g ≤ 3) (pre : List Tup) : (uL g pre).length ≤ pre.length * 3 := by
  rw [uL_len hg]
  exact Nat.mul_le_mul (uqT_len pre) hg
theorem uL_old {g : Nat} {pre : List Tup} {x : Tup} (h : pre.any (tEq · x) = true) : uL g (pre ++ [x]) = uL g pre := by
  unfold uL
  rw [uqT_snoc]
  unfold insT
  rw [uqT_any, if_pos h]
theorem uL_new {g : Nat} {pre : List Tup} {x : Tup} (h : pre.any (tEq · x) = false) : uL g (pre ++ [x]) = uL g pre ++ tupL g x := by
  unfold uL
  rw [uqT_snoc]
  unfold insT
  rw [uqT_any, if_neg (by rw [h]; simp)]
  simp
theorem uq_types : 74 ≠ 24 ∧ 29 ≠ 24 ∧ 70 ≠ 24 ∧ 29 ≠ 74 := by decide
def uqC0 (k : Int) (p : Bool) (v : Value) : Array Value := #[.int .i64 k, .bool p, .int .u32 0, .int .u32 0, .slice none 0 0, v, .slice none 0 0, .int .i64 0, .slice none 0 0]
def uqZ : Array Value := #[.int .i64 0, .bool false, .int .u32 0, .int .u32 0, .slice none 0 0, .slice none 0 0, .slice none 0 0, .int .i64 0, .slice none 0 0]
/-- Between two rounds. -/
structure UqI (w : World) (k : Int) (p : Bool) (g : Nat) (cs : Array Value) (s1 : Nat) (v : Value) (D : DataW Unit) (pre : List Tup) (W : World) : Prop where
  row : W.ownsRow w.heap.size 24 1 v (uL g pre).length ((uL g pre).map (Value.int .u32))
  out : Own W s1 29 (uqC0 k p v)
  map : W.ownsMap Tryd.prog 70 (plainElem Tryd.prog 4) (s1 + 1) pre.length D
  met : MetD D pre
  box : Boxed W (s1 + 2) 74 (.map (some (s1 + 1)))
  o1 : Own W w.heap.size 29 cs
  o2 : Own W (s1 + 3) 29 cs
  ores : Own W (w.heap.size + 1) 29 uqZ
  bel : Below w.heap.size w W
  lo : w.heap.size + 2 ≤ s1
set_option maxRecDepth 100000 in
theorem map_rest {w w' : World} {P : Nat → Prop} {b n : Nat} {D : DataW Unit} (h : w.ownsMap Tryd.prog 70 (plainElem Tryd.prog 4) b n D) (R : Rest w w' P) (hp : ¬ P b) : w'.ownsMap Tryd.prog 70 (plainElem Tryd.prog 4) b n D := by
  have hlt := h.lt
  obtain ⟨es, clock, hb, F, hs, hD⟩ := h
  exact ⟨es, clock, (R.block b hlt hp).trans hb, F, hs, hD⟩
section
variable {w W W2 X w5 : World} {k : Int} {p : Bool} {g s1 : Nat} {cs : Array Value} {v v5 : Value} {D : DataW Unit} {pre : List Tup} {x : Tup}
/-- What is written beside the list leaves it. -/
theorem uqI_rest {P : Nat → Prop} (hI : UqI w k p g cs s1 v D pre W) (R : Rest W X P) (hP : ∀ j, j < s1 + 4 → ¬ P j) (hr : ∀ j, v.ownBlock = some j → ¬ P j) : UqI w k p g cs s1 v D pre X :=
  ⟨row_rest hI.row R hr, R.own hI.out (hP _ (by omega)), map_rest hI.map R (hP _ (by omega)), hI.met, (R.block (s1 + 2) (show Own W (s1 + 2) _ #[_] from hI.box).lt (hP _ (by omega))).trans hI.box, R.own hI.o1 (hP _ (by have := hI.lo; omega)), R.own hI.o2 (hP _ (by omega)), R.own hI.ores (hP _ (by have := hI.lo; omega)),
    hI.bel.trans (R.to_below hI.bel.size (fun i hi => hP i (by have := hI.lo; omega))), hI.lo⟩
theorem uqI_own {B : Nat} (hB : s1 + 4 ≤ B) : OwnFrom B (fun pre W => ∃ v D, UqI w k p g cs s1 v D pre W) := by
  rintro s X Y row ⟨v, D, hI⟩ hg hr
  refine ⟨v, D, uqI_rest hI (Rest.of_grown hg (P := fun i => row = some i) (fun j e => e)) (fun j hj e => by have := (hr j e).1; omega) (fun j hj e => ?_)⟩
  obtain ⟨⟨cs', hc⟩, _⟩ := row_typed hI.row hj
  obtain ⟨o, ho, hoc⟩ := (hr j e).2
  rw [show X.heap[j]? = _ from hc] at ho
  cases ho
  cases hoc
theorem uqI_below (hI : UqI w k p g cs s1 v D pre W) (hb : Below W.heap.size W X) : UqI w k p g cs s1 v D pre X :=
  uqI_rest hI (Rest.of_below hb (fun _ => False)) (fun _ _ h => h) (fun _ _ h => h)
theorem uqI_old (hI : UqI w k p g cs s1 v D pre W) (h : pre.any (tEq · x) = true) : UqI w k p g cs s1 v D (pre ++ [x]) W :=
  ⟨by rw [uL_old h]; exact hI.row, hI.out, hI.map.mono (by rw [List.length_append]; exact Nat.le_add_right _ _), hI.met.same h, hI.box, hI.o1, hI.o2, hI.ores, hI.bel, hI.lo⟩
theorem uq_rowNe (hI : UqI w k p g cs s1 v D pre W) : v.ownBlock ≠ some (s1 + 1) := fun e => by
  obtain ⟨⟨cs', hc⟩, _⟩ := row_typed hI.row e
  obtain ⟨es, clock, hb, _⟩ := hI.map
  rw [hb] at hc
  cases hc
theorem uq_r2 (hg2 : W.grownBy W2 (some (s1 + 1))) : Rest W W2 (fun i => i = s1 + 1) := Rest.of_grown hg2 (fun j e => by cases e; rfl)
/-- After the store into the map. -/
structure UqM (w : World) (k : Int) (p : Bool) (g : Nat) (cs : Array Value) (s1 : Nat) (v : Value) (pre : List Tup) (W : World) : Prop where
  row : W.ownsRow w.heap.size 24 1 v (uL g pre).length ((uL g pre).map (Value.int .u32))
  out : Own W s1 29 (uqC0 k p v)
  o1 : Own W w.heap.size 29 cs
theorem uq_mid (hI : UqI w k p g cs s1 v D pre W) (hg2 : W.grownBy W2 (some (s1 + 1))) (hb : Below W2.heap.size W2 X) : UqM w k p g cs s1 v pre X :=
  have hl := hI.lo
  have R := (uq_r2 hg2).below hb
  ⟨row_rest hI.row R (fun j hj e => uq_rowNe hI (by rw [hj, e])), R.own hI.out (by omega), R.own hI.o1 (by omega)⟩
set_option maxRecDepth 100000 in
/-- What the body leaves. -/
theorem uq_end {B : Nat} (hB : s1 + 4 ≤ B) (hI : UqI w k p g cs s1 v D pre W) (hx : pre.any (tEq · x) = false) (hg2 : W.grownBy W2 (some (s1 + 1))) (hm2 : W2.ownsMap Tryd.prog 70 (plainElem Tryd.prog 4) (s1 + 1) (pre.length + 1) (D.put (kt x) (.lit (.bool true)))) (hb : Below W2.heap.size W2 X)
    (ho5 : w5.ownsRow w.heap.size 24 1 v5 ((uL g pre).length + (tupL g x).length) ((uL g pre).map (Value.int .u32) ++ (tupL g x).map (Value.int .u32))) (hg5 : X.grownBy w5 v.ownBlock) :
    KeepsFrom B W (w5.setCell ⟨s1, 5, none⟩ v5) ∧ KpB w.heap.size (s1 + 3) W (w5.setCell ⟨s1, 5, none⟩ v5) ∧ ∃ u E, UqI w k p g cs s1 u E (pre ++ [x]) (w5.setCell ⟨s1, 5, none⟩ v5) := by
  have hl := hI.lo
  have RX := (uq_r2 hg2).below hb
  have R25 : Rest W2 w5 (fun i => v.ownBlock = some i) := (Rest.of_below hb (fun i => v.ownBlock = some i)).trans (Rest.of_grown hg5 (P := fun i => v.ownBlock = some i) (fun j hj => hj)) (fun i _ h => h)
  have R26 : Rest W2 (w5.setCell ⟨s1, 5, none⟩ v5) (fun i => i = s1 ∨ v.ownBlock = some i) := (R25.mono (fun i h => .inr h)).trans (Rest.setCell w5 ⟨s1, 5, none⟩ v5) (fun i _ h => .inl h)
  have R : Rest W (w5.setCell ⟨s1, 5, none⟩ v5) (fun i => i = s1 + 1 ∨ i = s1 ∨ v.ownBlock = some i) := ((uq_r2 hg2).mono (fun i h => .inl h)).trans R26 (fun i _ h => .inr h)
  have hT : ∀ i, v.ownBlock = some i → Typed W i 24 ∧ w.heap.size ≤ i := fun i hi => row_typed hI.row hi
  have far : ∀ j t, Typed W j t → t ≠ 24 → j ≠ s1 + 1 → j ≠ s1 → ¬ (j = s1 + 1 ∨ j = s1 ∨ v.ownBlock = some j) := by
    rintro j t ht hne h1 h2 (e | e | e)
    · exact h1 e
    · exact h2 e
    · exact (hT j e).1.ne ht (Ne.symm hne) rfl
  have hB6 : Below w.heap.size W (w5.setCell ⟨s1, 5, none⟩ v5) := R.to_below hI.bel.size (by
    rintro i hi (e | e | e)
    · omega
    · omega
    · have := (hT i e).2; omega)
  have hout5 : Own w5 s1 29 (uqC0 k p v) := by
    have M := uq_mid hI hg2 hb
    exact M.out.grown hg5 (fun e => (row_typed M.row e.symm).1.ne M.out.typed (Ne.symm uq_types.2.1) rfl)
  refine ⟨⟨R.size, fun j o hj hj2 ho => ?_⟩, ⟨hB6, R.block (s1 + 3) hI.o2.lt (far _ _ hI.o2.typed uq_types.2.1 (by omega) (by omega))⟩, v5, _, ?_, ?_, map_rest hm2 R26 ?_ |>.mono (by rw [List.length_append]; exact Nat.le_refl _), hI.met.put x, ?_, R.own hI.o1 (far _ _ hI.o1.typed uq_types.2.1 (by omega) (by omega)), R.own hI.o2 (far _ _ hI.o2.typed uq_types.2.1 (by omega) (by omega)), R.own hI.ores (far _ _ hI.ores.typed uq_types.2.1 (by omega) (by omega)), hI.bel.trans hB6, hl⟩
  · refine (R.block j (Array.getElem?_eq_some_iff.1 hj2).1 ?_).trans hj2
    rintro (e | e | e)
    · omega
    · omega
    · obtain ⟨⟨cs', hc⟩, _⟩ := hT j e
      rw [show W.heap[j]? = _ from hc] at hj2
      cases hj2
      cases ho
  · have h6 := row_rest ho5 (Rest.setCell w5 ⟨s1, 5, none⟩ v5) (fun j hj e => (row_typed ho5 hj).1.ne hout5.typed (Ne.symm uq_types.2.1) e)
    rw [uL_new hx, List.length_append, List.map_append]
    exact h6
  · exact hout5.set_ 5 v5
  · rintro (e | e)
    · omega
    · exact uq_rowNe hI e
  · exact (R.block (s1 + 2) (show Own W (s1 + 2) _ #[_] from hI.box).lt (far _ _ (bx_typed hI.box) uq_types.1 (by omega) (by omega))).trans hI.box
end
theorem tup_shows {W : World} {Bx g : Nat} {x : Tup} (o : Own W Bx 70 #[.int .u32 x.a, .int .u32 x.b, .int .u32 x.c]) : Shows W W.heap.size (some ⟨Bx, 0, none⟩) ((tupL g x).map (Value.int .u32)) := by
  refine .inr ⟨Bx, 0, rfl, o.lt, fun j v hv => ?_⟩
  unfold tupL at hv
  rw [List.getElem?_map, List.getElem?_take] at hv
  split at hv
  · rw [Nat.zero_add]
    refine o.cell ?_
    rw [← hv]
    match j with
    | 0 => rfl
    | 1 => rfl
    | 2 => rfl
    | _ + 3 => simp
  · simp at hv
end Go.Proofs.YtngeldgohijheaaDoor

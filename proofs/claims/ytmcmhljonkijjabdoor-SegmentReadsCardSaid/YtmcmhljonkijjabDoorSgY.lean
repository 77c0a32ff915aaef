/- segment.Read$1 -/
import Derived.Test.YtmcmhljonkijjabDoorSgX
import Derived.Test.YtmcmhljonkijjabDoorRdrB
import Derived.StillTailTactics
namespace Go.Proofs.YtmcmhljonkijjabDoor
open Go.RowKit Go.Sort

theorem RdrB.rest {B : Nat} {w w' : World} {g p : Nat} {xs : List Int} {P : Nat → Prop} (h : RdrB B w g xs p) (k : Rest w w' P) (hp : ∀ i, i < B ∨ i = g → ¬ P i) : RdrB B w' g xs p :=
  h.keep k.size (fun b hb => k.block b (by rcases hb with hx | rfl; exact Nat.lt_of_lt_of_le hx h.size; exact h.lt) (hp b hb))
set_option maxRecDepth 100000 in
theorem seg_desc : Tryd.prog.underlying 36 = some (.struct (Tryd.prog.fieldsOf 36)) := by kernel_rfl
set_option maxRecDepth 100000 in
theorem seg_info (k : Int) (A : Option Addr) (n c : Nat) : (Tryd.prog.info? 36).map (·.size) = some (#[Value.int .i64 k, .slice A n c]).size := by kernel_rfl
theorem seg_one (k : Int) (A : Option Addr) (n c : Nat) : (#[Value.int .i64 k, .slice A n c]).all (·.oneCell') = true := by simp [Value.oneCell']
theorem results_cell_tmpS {P : Program} {fn : Func} {p t : Tmp} {ty : TypeId} (h : fn.results = #[.cell p ty, .tmp t]) (tmps : Array Value) (w : World) (g : Nat) (T : TypeId) (cs : Array Value) (d : TypeDesc)
    (hp : tmps.getD p undef = .pointer (some ⟨g, 0, none⟩)) (hg : Own w g T cs) (hu : P.underlying ty = some d) (hd : (match d with | .struct _ | .array _ _ => true | _ => false) = true) (hi : (P.info? ty).map (·.size) = some cs.size) :
    (results fn tmps).run P w = .ok (.tuple #[.agg cs, tmps.getD t undef]) w := by
  have hp' : tmps[p]?.getD undef = .pointer (some ⟨g, 0, none⟩) := by simpa using hp
  simp [results, h, hp', asAddr, run_loadVar_row w g T ty cs (0, 0) d hg hu hd hi]
theorem Rest.setRow (w : World) (g : Nat) (cs : Array Value) : Rest w (w.setRow g cs) (fun i => i = g) := ⟨rfl, rfl, rfl, by simp, fun i _ hn => setRow_other w g i _ hn⟩
theorem rd_types : 72 ≠ 106 ∧ 3 ≠ 106 ∧ 36 ≠ 106 ∧ 38 ≠ 106 := by decide
theorem RdrB.typed {B : Nat} {w : World} {g p : Nat} {xs : List Int} (h : RdrB B w g xs p) : Typed w g 106 := by
  obtain ⟨A, n, c, ho, _⟩ := h
  exact ho.typed
theorem wf_byteS {a : Int} (h : 0 ≤ a ∧ a ≤ 255) : (Lit.int .i64 a).wf = true := by
  simp only [Lit.wf, Bool.and_eq_true, decide_eq_true_eq]
  have h1 : IntKind.i64.min = -9223372036854775808 := rfl
  have h2 : IntKind.i64.max = 9223372036854775807 := rfl
  omega
theorem and_threeS {W : World} {a b c : Addr} {x y z : Value} (h1 : W.cell? a = some x) (h2 : W.cell? b = some y) (h3 : W.cell? c = some z) : W.cell? a = some x ∧ W.cell? b = some y ∧ W.cell? c = some z := ⟨h1, h2, h3⟩
theorem step_store_row {P : Program} {ops : Array Oper} {o : Oper} {a : Act} {w : World} {K : Act → World → Prop} {Q : Exit → Act → World → Prop} {E : Prop}
    (hg : o.guard = none) (ty : TypeId) (x y : Operand) (ho : o.op = .store ty x y) (g : Nat) (cells : Array Value) (hx : a.eval x = .pointer (some ⟨g, 0, none⟩)) (hy : a.eval y = .agg cells)
    (t : TypeId) (old : Array Value) (hgd : w.heap[g]? = some (.cells old t (0, 0))) (hi : (P.info? ty).map (·.size) = some cells.size) (hold : old.size = cells.size) (h1 : cells.all (·.oneCell') = true)
    (hK : K (a.put o.dst undef) (w.setRow g cells)) :
    if Region.wanted o (yielded ops a.tmps) = true then Oper.wp P o a w K Q else E := by
  have hw : Region.wanted o (yielded ops a.tmps) = true := by simp [Region.wanted, hg]
  rw [if_pos hw]
  unfold Oper.wp
  simp [execOp, ho, hx, hy, Instr.storeAt, Instr.sureAddr, run_storeVar_row w g t ty old cells hgd hi hold h1, Result.andThen]
  exact hK
theorem okN {K bn : Nat} (hK : K = 2 ∨ K = 4) (hb : bn ≤ 255) {zs : List Int} (hz : byteL zs) (hl : bn * K ≤ zs.length) (a : Int) (A : Option Addr) (c : Nat) :
    [(⟨a, A, bn, c, nums K bn zs⟩ : Sg)].all (sgOk (K : Int)) = decide ((a = 1 ∨ a = 2) ∧ 1 ≤ bn ∧ bn * K ≤ zs.length) := by
  rw [List.all_cons, List.all_nil, Bool.and_true, Bool.eq_iff_iff, sgOk_iff, decide_eq_true_iff]
  constructor
  · rintro ⟨⟨h1, h2, _⟩, _⟩
    exact ⟨h1, h2, hl⟩
  · rintro ⟨h1, h2, _⟩
    refine ⟨⟨h1, h2, hb⟩, fun e => ?_⟩
    have e2 : K = 2 := by omega
    subst e2
    exact nums_le2 hz
set_option maxRecDepth 100000 in
set_option maxHeartbeats 6400000 in
theorem next_main (Q : Bool) (K : Nat) (hK : K = 2 ∨ K = 4) (B gr gw g : Nat) (a : Int) (bn : Nat) (q2 : Bool) (ys ys1 zs : List Int) (p p2 : Nat) (w : World) (ha : 0 ≤ a ∧ a ≤ 255) (hbn : bn ≤ 255) (hz : byteL zs) (hQ : Hid (Q = decide ((a = 1 ∨ a = 2) ∧ 1 ≤ bn ∧ bn * K ≤ zs.length)))
    (hc : Own w gr 72 #[.pointer (some ⟨g, 0, none⟩)]) (hwc : Own w gw 3 #[.int .i64 (K : Int)]) (hr : RdrB B w g ys p)
    (hN1 : Hid (∀ W, RdrB B W g ys p → Calls Tryd.prog 54 #[.pointer (some ⟨g, 0, none⟩), .int .i64 1] W fun e w' => e = .returned (.tuple #[.int .u32 a, .bool true]) ∧ RdrB B w' g ys1 (p + 1) ∧ W.grownBy w' (some g)))
    (hN2 : Hid (∀ W, RdrB B W g ys1 (p + 1) → Calls Tryd.prog 54 #[.pointer (some ⟨g, 0, none⟩), .int .i64 1] W fun e w' => e = .returned (.tuple #[.int .u32 (bn : Int), .bool q2]) ∧ RdrB B w' g zs p2 ∧ W.grownBy w' (some g)))
    (hNK : Hid (∀ W q, q * K + K ≤ zs.length → RdrB B W g (zs.drop (q * K)) (p2 + q * K) → Calls Tryd.prog 54 #[.pointer (some ⟨g, 0, none⟩), .int .i64 (K : Int)] W fun e w' => e = .returned (.tuple #[.int .u32 (big ((zs.drop (q * K)).take K)), .bool true]) ∧ RdrB B w' g (zs.drop ((q + 1) * K)) (p2 + (q + 1) * K) ∧ W.grownBy w' (some g)))
    (hNF : Hid (∀ W q, zs.length < q * K + K → RdrB B W g (zs.drop (q * K)) (p2 + q * K) → Calls Tryd.prog 54 #[.pointer (some ⟨g, 0, none⟩), .int .i64 (K : Int)] W fun e w' => e = .returned (.tuple #[.int .u32 0, .bool false]) ∧ W = w')) :
    Calls Tryd.prog 53 #[.pointer (some ⟨gr, 0, none⟩), .pointer (some ⟨gw, 0, none⟩)] w fun e w' => ∃ k A n c q, e = .returned (.tuple #[.agg #[.int .i64 k, .slice A n c], .bool q]) ∧ Rest w w' (fun i => i = g) ∧ q = Q ∧ (q = true → RdrB B w' g (zs.drop (bn * K)) (p2 + bn * K) ∧ SD w' w.heap.size ⟨k, A, n, c, nums K bn zs⟩ ∧ k = a) := by
  have hng1 := hc.typed.ne hr.typed rd_types.1
  have hng2 := hwc.typed.ne hr.typed rd_types.2.1
  have hlr := hc.lt
  have hlw := hwc.lt
  have hBs := hr.size
  have hglt := hr.lt
  have oR := Own.new w 36 #[.int .i64 0, .slice none 0 0]
  have b0 := bl_alloc (bl_refl w) (.cells #[.int .i64 0, .slice none 0 0] 36)
  have c1 := hc.step b0
  have wc1 := hwc.step b0
  have r1 := hr.below b0
  have e1 := c1.cell (i := 0) rfl
  have R1 : Rest w _ (fun i => i = g) := Rest.of_below b0 _
  have hi64 : IntKind.i64.wrap a = a := by rw [IntKind.wrap_i64]; omega
  have hs0 : (w.alloc (.cells #[.int .i64 0, .slice none 0 0] 36)).heap.size = w.heap.size + 1 := by simp
  clear hc hwc hr b0
  go_enter Tryd.func53, Tryd.ntmps53
  go_wp2_with fail
  refine (hN1.out _ r1).mono ?_
  rintro e w1 ⟨rfl, r2, hg1⟩
  have oR1 := oR.grown hg1 (by intro e; injection e with e; omega)
  have c2 := c1.grown hg1 (by intro e; injection e with e; exact hng1 e)
  have wc2 := wc1.grown hg1 (by intro e; injection e with e; exact hng2 e)
  have R2 := R1.trans (Rest.of_grown hg1 (P := fun i => i = g) (fun j hj => (Option.some.inj hj).symm)) (fun i _ h => h)
  have e2 := c2.cell (i := 0) rfl
  have hs1 := hg1.size
  rw [hs0] at hs1
  clear oR c1 wc1 r1 e1 R1 hg1 hs0
  go_wp2_with fail
  refine (hN2.out _ r2).mono ?_
  rintro e w3 ⟨rfl, r3, hg2⟩
  have oR3 := oR1.grown hg2 (by intro e; injection e with e; omega)
  have c3 := c2.grown hg2 (by intro e; injection e with e; exact hng1 e)
  have wc3 := wc2.grown hg2 (by intro e; injection e with e; exact hng2 e)
  have R3 := R2.trans (Rest.of_grown hg2 (P := fun i => i = g) (fun j hj => (Option.some.inj hj).symm)) (fun i _ h => h)
  have hs3 : w.heap.size + 1 ≤ w3.heap.size := by have := hg2.size; omega
  clear oR1 c2 wc2 r2 e2 R2 hg2 hs1
  have b4 := bl_alloc (bl_refl w3) (.cells #[.int .i64 a, .slice none 0 0] 36)
  have oS4 := Own.new w3 36 #[.int .i64 a, .slice none 0 0]
  have oR4 := oR3.step b4
  have c4 := c3.step b4
  have wc4 := wc3.step b4
  have r4 := r3.below b4
  have R4 := R3.below b4
  clear oR3 c3 wc3 r3 R3 b4
  go_wp2_with fail
  go_loopw [25] (fun i wr => ∃ (q : Nat) (A1 : Option Addr) (c1 : Nat), q ≤ bn ∧ i = .int .u32 (q : Int) ∧ Hid (q * K ≤ zs.length) ∧ wr.ownsRow w.heap.size 38 1 (.slice A1 q c1) q ((nums K q zs).map (Value.int .u32)) ∧ Own wr w3.heap.size 36 #[.int .i64 a, .slice A1 q c1] ∧ RdrB B wr g (zs.drop (q * K)) (p2 + q * K) ∧ Own wr gr 72 #[.pointer (some ⟨g, 0, none⟩)] ∧ Own wr gw 3 #[.int .i64 (K : Int)] ∧ Own wr w.heap.size 36 #[.int .i64 0, .slice none 0 0] ∧ Rest w wr (fun i => i = g)) (fun i _ => bn - (intOf i).toNat)
  case atStart => exact ⟨0, none, 0, Nat.zero_le _, rfl, Lib.hid (by omega), World.ownsRow_nil _ _ _ _, oS4, by simpa using r4, c4, wc4, oR4, R4⟩
  case round =>
    obtain ⟨q, A1, c1, hq, rfl, hql, hrow, oS, rr, oc, owc, oR, hR⟩ := hrel
    clear oS4 r4 c4 wc4 oR4 R4
    have d0 := oc.cell (i := 0) rfl
    have d1 := owc.cell (i := 0) rfl
    by_cases hlt : q < bn
    · by_cases hk : q * K + K ≤ zs.length
      · have hC := Lib.hid (hNK.out wr q hk rr)
        have hnu := Lib.hid (show (nums K (q + 1) zs).map (Value.int .u32) = (nums K q zs).map (Value.int .u32) ++ [.int .u32 (big ((zs.drop (q * K)).take K))] by rw [nums_succ, List.map_append]; rfl)
        have hk2 := Lib.hid (show (q + 1) * K ≤ zs.length by rw [Nat.succ_mul]; exact hk)
        generalize big ((zs.drop (q * K)).take K) = x at *
        have hu : IntKind.u32.wrap ((q : Int) + 1) = (q : Int) + 1 := by rw [IntKind.wrap_u32]; omega
        have hng3 := oS.typed.ne rr.typed rd_types.2.2.1
        have hng4 := oR.typed.ne rr.typed rd_types.2.2.1
        clear hk
        go_wp2_with fail
        refine hC.out.mono ?_
        rintro e w5 ⟨rfl, r5, hg5⟩
        have oS5 := oS.grown hg5 (by intro e; injection e with e; exact hng3 e)
        have oR5 := oR.grown hg5 (by intro e; injection e with e; exact hng4 e)
        have oc5 := oc.grown hg5 (by intro e; injection e with e; exact hng1 e)
        have ow5 := owc.grown hg5 (by intro e; injection e with e; exact hng2 e)
        have hrow5 := row_rest hrow (Rest.of_grown hg5 (P := fun i => i = g) (fun j hj => (Option.some.inj hj).symm)) (fun j hj e => (row_typed hrow hj).1.ne rr.typed rd_types.2.2.2 e)
        have R5 := hR.trans (Rest.of_grown hg5 (P := fun i => i = g) (fun j hj => (Option.some.inj hj).symm)) (fun i _ h => h)
        have ds := oS5.cell (i := 1) rfl
        have hsl := oS5.lt
        have hrs := R5.size
        have HRow := Lib.hid hrow5
        have HOS := Lib.hid oS5
        clear hrow oS oR oc owc rr hR d0 d1 hg5 hrow5 oS5
        go_wp2_with (at_builtin; refine wpList_append_grow _ rfl _ _ rfl sl_u32 w.heap.size _ q _ rfl (HRow.out.alloc _) (w5.heap.size + 1) (some ⟨w5.heap.size, 0, none⟩) 1 1 [.int .u32 x] rfl rfl (Shows.of_owned (Own.new _ _ _) (by simp)) (one1 rfl) (by unfold maxLen; omega) (by omega) (by simp; omega) ?_; intro v6 w6 hrow6 hg6; obtain ⟨A3, c3, rfl⟩ := own_form hrow6; have oS6 := (HOS.out.alloc (.cells #[.int .u32 x] 38)).grown hg6 (fun e => own_blk HRow.out HOS.out (Ne.symm seg_types) e.symm); have cq6 := oS6.cell (i := 1) rfl; have fq6 := oS6.frozen 1; have hq6 := oS6.lt)
        have R56 : Rest w5 w6 (fun i => (Value.slice A1 q c1).ownBlock = some i) := (Rest.of_below (bl_alloc (bl_refl w5) (.cells #[.int .u32 x] 38)) (fun i => (Value.slice A1 q c1).ownBlock = some i)).trans (Rest.of_grown hg6 (P := fun i => (Value.slice A1 q c1).ownBlock = some i) (fun j hj => hj)) (fun i _ h => h)
        have R57 : Rest w5 (w6.setCell ⟨w3.heap.size, 1, none⟩ (.slice A3 (q + 1) c3)) (fun i => (Value.slice A1 q c1).ownBlock = some i ∨ i = w3.heap.size) := (R56.mono (fun i h => Or.inl h)).trans (Rest.setCell w6 ⟨w3.heap.size, 1, none⟩ (.slice A3 (q + 1) c3)) (fun i _ h => Or.inr h)
        have far : ∀ i t, t ≠ 38 → Typed w5 i t → i ≠ w3.heap.size → ¬ ((Value.slice A1 q c1).ownBlock = some i ∨ i = w3.heap.size) := fun i t ht hty hne h => by
          rcases h with h | h
          · exact (row_typed HRow.out h).1.ne hty (Ne.symm ht) rfl
          · exact hne h
        have r7 := r5.rest R57 (fun i hi h => by
          rcases hi with hi | rfl
          · rcases h with h | h
            · have := (row_typed HRow.out h).2; omega
            · omega
          · exact far _ _ (Ne.symm rd_types.2.2.2) r5.typed (fun e => hng3 e.symm) h)
        have hlow : ∀ i, i < w.heap.size → ¬ ((Value.slice A1 q c1).ownBlock = some i ∨ i = w3.heap.size) := fun i hi h => by
          rcases h with h | h
          · have := (row_typed HRow.out h).2; omega
          · omega
        have oc7 := R57.own oc5 (hlow _ hlr)
        have ow7 := R57.own ow5 (hlow _ hlw)
        have oR7 := R57.own oR5 (far _ _ seg_types oR5.typed (by omega))
        have R7 := R5.trans R57 (fun i hi h => (hlow i hi h).elim)
        have oS7 := oS6.set_ 1 (.slice A3 (q + 1) c3)
        rw [← hnu.out] at hrow6
        have hrow7 := row_rest hrow6 (Rest.setCell w6 ⟨w3.heap.size, 1, none⟩ (.slice A3 (q + 1) c3)) (fun j hj e => (row_typed hrow6 hj).1.ne oS6.typed (Ne.symm seg_types) e)
        go_roundw
        case rel => exact ⟨q + 1, A3, c3, by omega, by rw [show ((q + 1 : Nat) : Int) = (q : Int) + 1 by omega], hk2, hrow7, by simpa using oS7, r7, oc7, ow7, oR7, R7⟩
        case measure => simp [intOf]; omega
      · have hC := Lib.hid (hNF.out wr q (by omega) rr)
        have hD : Hid (false = Q) := Lib.hid (by
          rw [hQ.out]
          symm
          apply decide_eq_false
          rintro ⟨_, _, h⟩
          have := Nat.mul_le_mul_right K (show q + 1 ≤ bn by omega)
          rw [Nat.succ_mul] at this
          omega)
        have HRr := Lib.hid (hR.trans (Rest.setRow wr w.heap.size #[.int .i64 0, .slice none 0 0]) (fun i hi e => by have e2 : i = w.heap.size := e; omega))
        clear hk rr hrow oS hR
        go_wp2_with fail
        refine hC.out.mono ?_
        rintro e w' ⟨rfl, rfl⟩
        go_wp2_with (refine wpList_store_row rfl 36 _ _ rfl w.heap.size #[.int .i64 0, .slice none 0 0] rfl rfl 36 #[.int .i64 0, .slice none 0 0] oR (seg_info _ _ _ _) rfl (seg_one _ _ _ _) ?_)
        exact bodyPost_ret (results_cell_tmpS (p := 2) (t := 3) (fn := Tryd.f53) rfl _ _ w.heap.size 36 #[.int .i64 0, .slice none 0 0] _ rfl oR.setRow seg_desc rfl (seg_info _ _ _ _)) rfl ⟨0, none, 0, 0, false, rfl, HRr.out, hD.out, fun h => by cases h⟩
    · obtain rfl : bn = q := by omega
      have hV := okN hK hbn hz hql.out a A1 c1
      have hSDd : SD wr w.heap.size ⟨a, A1, bn, c1, nums K bn zs⟩ := ⟨hrow, (nums_len _ _ _).symm, nums_range (by omega) hz, wf_byteS ha⟩
      have bA : Below wr.heap.size wr (wr.alloc (.cells #[.int .i64 a, .slice A1 bn c1] 36)).drew := bl_drewN (bl_alloc (bl_refl wr) (.cells #[.int .i64 a, .slice A1 bn c1] 36)) 1
      have hSg : Segs (wr.alloc (.cells #[.int .i64 a, .slice A1 bn c1] 36)).drew (wr.alloc (.cells #[.int .i64 a, .slice A1 bn c1] 36)).drew.heap.size (some ⟨wr.heap.size, 0, none⟩) 1 [⟨a, A1, bn, c1, nums K bn zs⟩] := by
        have hd := hSDd.below bA
        have ho := (Own.new wr 36 #[.int .i64 a, .slice A1 bn c1]).drew
        refine ⟨rfl, fun s hs => ?_, .inr ⟨wr.heap.size, 0, rfl, ho.lt, fun i s hi => ?_⟩⟩
        · rw [List.mem_singleton] at hs
          subst hs
          exact ⟨(row_caps hd.1).1, (row_caps hd.1).2, hd.2.2.2, hd.2.2.1, hd.u32s⟩
        · match i, hi with
          | 0, hi => cases hi; exact ⟨ho.cell rfl, ho.cell rfl⟩
          | i + 1, hi => simp at hi
      have hVal := Lib.hid (svalid_yes (K : Int) (by rcases hK with rfl | rfl; exact .inl rfl; exact .inr rfl) _ 1 1 _ _ hSg (by omega))
      rw [hV] at hVal
      have HSD := Lib.hid hSDd
      have HRr := Lib.hid hR
      have HRd := Lib.hid rr
      have HOR := Lib.hid oR
      have owc0 := owc
      have hng4 := oR.typed.ne rr.typed rd_types.2.2.1
      rw [← hQ.out] at hVal
      clear hV hSDd hSg hR rr hrow oR oc owc
      have HOS := Lib.hid oS
      have HOW := Lib.hid owc0
      have hnR : ¬ w3.heap.size = w.heap.size := by omega
      have hnW : ¬ gw = w.heap.size := by omega
      go_wp2_with fail
      have HS0 := and_threeS (HOS.out.drew.cell (i := 0) rfl) (HOS.out.drew.cell (i := 1) rfl) (HOW.out.drew.cell (i := 0) rfl)
      have HS1 := and_threeS ((HOS.out.step bA).cell (i := 0) rfl) ((HOS.out.step bA).cell (i := 1) rfl) ((HOW.out.step bA).cell (i := 0) rfl)
      refine wp_region_noPanic ?_
      refine wp_region_held_drew (S := (fun W => W.cell? ⟨w3.heap.size, 0, none⟩ = some (.int .i64 a) ∧ W.cell? ⟨w3.heap.size, 1, none⟩ = some (.slice A1 bn c1) ∧ W.cell? ⟨gw, 0, none⟩ = some (.int .i64 (K : Int)))) (by kernel_rfl) HS0 (fun hHeld => ?_)
      refine wpAnyH_take (i := 0) (v := ?_) rfl (by kernel_rfl) (by kernel_rfl) (by kernel_rfl) (fun _ _ _ h => h) (Or.inl ⟨by rfl, ?_⟩) (by assumption) ?_
      rotate_left
      · (intro W hSw; obtain ⟨s0, s1, s2⟩ := hSw; go_simp; try with_reducible rfl)
      simp only [Act.put, List.getElem_toArray, List.getElem_cons_zero, List.setIfInBounds_toArray, List.set_cons_zero, List.set_cons_succ]
      refine wpAnyH_take (i := 1) (v := ?_) rfl (by kernel_rfl) (by kernel_rfl) (by kernel_rfl) (fun _ _ _ h => h) (Or.inl ⟨by rfl, ?_⟩) (by assumption) ?_
      rotate_left
      · (intro W hSw; obtain ⟨s0, s1, s2⟩ := hSw; go_simp; try with_reducible rfl)
      simp only [Act.put, List.getElem_toArray, List.getElem_cons_zero, List.getElem_cons_succ, List.setIfInBounds_toArray, List.set_cons_zero, List.set_cons_succ]
      refine wpAnyH_take (i := 2) (v := ?_) rfl (by kernel_rfl) (by kernel_rfl) (by kernel_rfl) (fun _ _ _ h => h) (Or.inl ⟨by rfl, ?_⟩) (by assumption) ?_
      rotate_left
      · (intro W hSw; obtain ⟨s0, s1, s2⟩ := hSw; go_simp; try with_reducible rfl)
      simp only [Act.put, List.getElem_toArray, List.getElem_cons_zero, List.getElem_cons_succ, List.setIfInBounds_toArray, List.set_cons_zero, List.set_cons_succ]
      refine wpAnyH_ready (rs := [3]) (by kernel_rfl) (by simp) ?_
      refine AllReadyH.cons rfl (fun K hK => ?_) AllReadyH.nil
      go_simp
      skip
      refine hK.out _ _ HS1 (fun hHeld2 => ?_)
      clear hK K hHeld
      have hHeld := hHeld2
      clear hHeld2
      try simp only [Act.put, List.getElem_toArray, List.getElem_cons_zero, List.getElem_cons_succ, List.setIfInBounds_toArray, List.set_cons_zero, List.set_cons_succ]
      refine wpAnyH_ready (rs := [4]) (by kernel_rfl) (by simp) ?_
      refine AllReadyH.cons rfl (fun K hK => ?_) AllReadyH.nil
      go_simp
      (go_at_call 25; (with_reducible refine hVal.out.mono ?_); rintro e w6 ⟨rfl, hb6⟩)
      have b6 := bl_trans bA hb6
      have oR6 := HOR.out.step b6
      have HS2 := and_threeS ((HOS.out.step b6).cell (i := 0) rfl) ((HOS.out.step b6).cell (i := 1) rfl) ((HOW.out.step b6).cell (i := 0) rfl)
      have HS3 := and_threeS ((Rest.setRow w6 w.heap.size #[.int .i64 a, .slice A1 bn c1]).own (HOS.out.step b6) hnR |>.cell (i := 0) rfl) ((Rest.setRow w6 w.heap.size #[.int .i64 a, .slice A1 bn c1]).own (HOS.out.step b6) hnR |>.cell (i := 1) rfl) ((Rest.setRow w6 w.heap.size #[.int .i64 a, .slice A1 bn c1]).own (HOW.out.step b6) hnW |>.cell (i := 0) rfl)
      refine hK.out _ _ HS2 (fun hHeld2 => ?_)
      clear hK K hHeld
      have hHeld := hHeld2
      clear hHeld2
      try simp only [Act.put, List.getElem_toArray, List.getElem_cons_zero, List.getElem_cons_succ, List.setIfInBounds_toArray, List.set_cons_zero, List.set_cons_succ]
      refine wpAnyH_ready (rs := [5]) (by kernel_rfl) (by simp) ?_
      refine AllReadyH.cons rfl (fun K hK => ?_) AllReadyH.nil
      refine step_store_row rfl _ _ _ rfl w.heap.size #[.int .i64 a, .slice A1 bn c1] rfl rfl 36 #[.int .i64 0, .slice none 0 0] oR6 (seg_info _ _ _ _) rfl (seg_one _ _ _ _) ?_
      refine hK.out _ _ HS3 (fun hHeld2 => ?_)
      clear hK K hHeld
      have hHeld := hHeld2
      clear hHeld2
      try simp only [Act.put, List.getElem_toArray, List.getElem_cons_zero, List.getElem_cons_succ]
      refine wpAnyH_take (i := 6) (v := ?_) rfl (by kernel_rfl) (by kernel_rfl) (by kernel_rfl) (fun _ _ _ h => h) (Or.inl ⟨by rfl, ?_⟩) (by assumption) ?_
      rotate_left
      · (intro W hSw; obtain ⟨s0, s1, s2⟩ := hSw; go_simp; try with_reducible rfl)
      simp only [Act.put, List.getElem_toArray, List.getElem_cons_zero, List.getElem_cons_succ, List.setIfInBounds_toArray, List.set_cons_zero, List.set_cons_succ]
      refine wpAnyH_done (by kernel_rfl) ?_ _
      refine NoPanic.normal ?_
      go_wp2
      have hl6 : w.heap.size < w6.heap.size := oR6.lt
      have R8 : Rest wr (w6.setRow w.heap.size #[.int .i64 a, .slice A1 bn c1]) (fun i => i = w.heap.size) := ((Rest.of_below b6 (fun i => i = w.heap.size))).trans (Rest.setRow w6 w.heap.size _) (fun i _ h => h)
      have R9 := HRr.out.trans R8 (fun i hi e => by have e2 : i = w.heap.size := e; omega)
      have r9 := HRd.out.rest R8 (fun i hi e => by
        have e2 : i = w.heap.size := e
        rcases hi with hi | hi
        · omega
        · exact hng4 (e2.symm.trans hi))
      have SD9 : SD (w6.setRow w.heap.size #[.int .i64 a, .slice A1 bn c1]) w.heap.size ⟨a, A1, bn, c1, nums K bn zs⟩ := ⟨row_rest HSD.out.1 R8 (fun j hj e => by
        have e2 : j = w.heap.size := e
        exact (row_typed HSD.out.1 hj).1.ne HOR.out.typed (Ne.symm seg_types) e2), HSD.out.2⟩
      exact bodyPost_ret (results_cell_tmpS (p := 2) (t := 3) (fn := Tryd.f53) rfl _ _ w.heap.size 36 #[.int .i64 a, .slice A1 bn c1] _ rfl oR6.setRow seg_desc rfl (seg_info _ _ _ _)) rfl ⟨a, A1, bn, c1, Q, rfl, R9, rfl, fun _ => ⟨r9, SD9, rfl⟩⟩
set_option maxRecDepth 100000 in
theorem next_any (K : Nat) (hK : K = 2 ∨ K = 4) (B gr gw g : Nat) (ys : List Int) (p : Nat) (w : World) (hc : Own w gr 72 #[.pointer (some ⟨g, 0, none⟩)]) (hwc : Own w gw 3 #[.int .i64 (K : Int)]) (hr : RdrB B w g ys p) (hl : ys.length ≤ 1000) (hp : p + ys.length ≤ 1000) (hne : ys ≠ []) :
    Calls Tryd.prog 53 #[.pointer (some ⟨gr, 0, none⟩), .pointer (some ⟨gw, 0, none⟩)] w fun e w' => ∃ k A n c, e = .returned (.tuple #[.agg #[.int .i64 k, .slice A n c], .bool (okS K ys)]) ∧ Rest w w' (fun i => i = g) ∧ (okS K ys = true → (∃ p', p' + (restS K ys).length ≤ 1000 ∧ RdrB B w' g (restS K ys) p') ∧ SD w' w.heap.size ⟨k, A, n, c, (segS K ys).2⟩ ∧ k = (segS K ys).1 ∧ n ≤ 255) := by
  have hb : byteL ys := hr.range
  have k4 : 1 ≤ (K : Int) ∧ (K : Int) ≤ 4 := by omega
  match ys, hne with
  | [a], _ =>
    have ha := hb a (by simp)
    have hok : okS K [a] = false := by unfold okS; exact decide_eq_false (by simp)
    have N1 := Lib.hid (fun W (h : RdrB B W g [a] p) => number_yesB B g [a] p 1 W h (by simp) (by simp at hp; omega) (by omega) (by omega) (by simp))
    have e1 : big ([a].take (1 : Int).toNat) = a := by show big [a] = a; simp [big]
    rw [e1] at N1
    have N2 := Lib.hid (fun W (h : RdrB B W g ([] : List Int) (p + 1)) => (number_no g [] (p + 1) 1 W h.rdr (by simp) (by omega) (by omega) (by simp)).mono (R' := fun e w' => e = .returned (.tuple #[.int .u32 ((0 : Nat) : Int), .bool false]) ∧ RdrB B w' g [] (p + 1) ∧ W.grownBy w' (some g)) (fun e w' ⟨he, hw⟩ => ⟨he, by subst hw; exact h, by subst hw; exact World.grownBy.refl _ _⟩))
    refine (next_main _ K hK B gr gw g a 0 false [a] [] [] p (p + 1) w ha (by omega) (fun _ h => by cases h) (Lib.hid rfl) hc hwc hr N1 N2 (Lib.hid fun W q h _ => by exfalso; rcases hK with rfl | rfl <;> simp at h) (Lib.hid fun W q h hr2 => number_no g _ _ (K : Int) W hr2.rdr (by simp) k4.1 k4.2 (by simp; omega))).mono ?_
    rintro e w' ⟨k, A, n, c, q, rfl, hR, hq, _⟩
    have hq2 : q = false := by rw [hq]; exact decide_eq_false (by omega)
    subst hq2
    exact ⟨k, A, n, c, by rw [hok], hR, fun h => by rw [hok] at h; cases h⟩
  | a :: b :: zs, _ =>
    have ha := hb a (by simp)
    have hbb := hb b (by simp)
    have hz : byteL zs := fun y hy => hb y (by simp [hy])
    have hl2 : zs.length + 2 ≤ 1000 := by simpa using hl
    have hp2 : p + (zs.length + 2) ≤ 1000 := by simpa using hp
    obtain ⟨bn, rfl⟩ : ∃ bn : Nat, b = (bn : Int) := ⟨b.toNat, by omega⟩
    have hok : okS K (a :: (bn : Int) :: zs) = decide ((a = 1 ∨ a = 2) ∧ 1 ≤ bn ∧ bn * K ≤ zs.length) := by
      unfold okS
      rw [show nth (a :: (bn : Int) :: zs) 0 = a from rfl, show nth (a :: (bn : Int) :: zs) 1 = (bn : Int) from rfl, Bool.eq_iff_iff, decide_eq_true_iff, decide_eq_true_iff, Int.toNat_natCast]
      simp only [List.length_cons]
      constructor
      · rintro ⟨_, h1, h2, h3⟩
        exact ⟨h1, by omega, by omega⟩
      · rintro ⟨h1, h2, h3⟩
        exact ⟨by omega, h1, by omega, by omega⟩
    have hrest : restS K (a :: (bn : Int) :: zs) = zs.drop (bn * K) := by
      unfold restS
      rw [show nth (a :: (bn : Int) :: zs) 1 = (bn : Int) from rfl, Int.toNat_natCast, ← List.drop_drop]
      rfl
    have hseg : segS K (a :: (bn : Int) :: zs) = (a, nums K bn zs) := by
      unfold segS
      rw [show nth (a :: (bn : Int) :: zs) 1 = (bn : Int) from rfl, Int.toNat_natCast]
      rfl
    have N1 := Lib.hid (fun W (h : RdrB B W g (a :: (bn : Int) :: zs) p) => number_yesB B g _ p 1 W h (by simp; omega) (by omega) (by omega) (by omega) (by simp; omega))
    have e1 : big ((a :: (bn : Int) :: zs).take (1 : Int).toNat) = a := by show big [a] = a; simp [big]
    rw [e1] at N1
    have N2 := Lib.hid (fun W (h : RdrB B W g ((bn : Int) :: zs) (p + 1)) => number_yesB B g _ (p + 1) 1 W h (by simp; omega) (by omega) (by omega) (by omega) (by simp; omega))
    have e2 : big (((bn : Int) :: zs).take (1 : Int).toNat) = (bn : Int) := by show big [(bn : Int)] = _; simp [big]
    rw [e2] at N2
    refine (next_main _ K hK B gr gw g a bn true _ ((bn : Int) :: zs) zs p (p + 1 + 1) w ha (by omega) hz (Lib.hid rfl) hc hwc hr N1 N2
      (Lib.hid fun W q h hr2 => by
        have := number_yesB B g _ _ (K : Int) W hr2 (by rw [List.length_drop]; omega) (by omega) k4.1 k4.2 (by rw [List.length_drop]; omega)
        rw [Int.toNat_natCast, List.drop_drop, show p + 1 + 1 + q * K + K = p + 1 + 1 + (q + 1) * K by rw [Nat.succ_mul]; omega, show q * K + K = (q + 1) * K from (Nat.succ_mul q K).symm] at this
        exact this)
      (Lib.hid fun W q h hr2 => number_no g _ _ (K : Int) W hr2.rdr (by rw [List.length_drop]; omega) k4.1 k4.2 (by rw [List.length_drop]; omega))).mono ?_
    rintro e w' ⟨k, A, n, c, q, rfl, hR, hq, hy⟩
    rw [← hok] at hq
    subst hq
    refine ⟨k, A, n, c, rfl, hR, fun h => ?_⟩
    obtain ⟨h1, h2, h3⟩ := hy h
    rw [hrest, hseg]
    rw [hok] at h
    have h4 := of_decide_eq_true h
    refine ⟨⟨_, ?_, h1⟩, h2, h3, ?_⟩
    · rw [List.length_drop]; omega
    · have := h2.2.1
      dsimp only at this
      rw [nums_len] at this
      omega
end Go.Proofs.YtmcmhljonkijjabDoor

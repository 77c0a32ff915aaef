/- capability.groups: the groups of four that it hands out one after another -/
import Derived.Test.YtniheakafkakhaaDoorCqA
import Derived.Test.YtniheakafkakhaaDoorRnd
import Derived.StillTailTactics
import Derived.Laws.CopyOwn
import Derived.RangeFuncBound
import Derived.RangeFuncCalls
import Derived.RangeFuncLeaves
import Derived.Shelf.Abstract
import Derived.Shelf.RegionOpen
import Derived.WalkKit
import Derived.OwnWalkIn
import Derived.TacticsInMore
import Derived.LoopNIn
import Derived.LoopIn
namespace Go.Proofs.YtniheakafkakhaaDoor
open Go.RowKit Go.Shelf

attribute [local go_sem] Oper.semAt_some

/-- What a round keeps: what lay below n₀, and all blocks of cells. -/
def KpC (n₀ : Nat) (W W' : World) : Prop := Below n₀ W W' ∧ ∀ (i : Nat) (o : Obj), W.heap[i]? = some o → o.isCells = true → W'.heap[i]? = some o
theorem kpC_t {n₀ : Nat} {A B C : World} (h : KpC n₀ A B) (k : KpC n₀ B C) : KpC n₀ A C := ⟨h.1.trans k.1, fun i o h1 h2 => k.2 i o (h.2 i o h1 h2) h2⟩
theorem kpC_refl (n₀ : Nat) (W : World) : KpC n₀ W W := ⟨Below.refl _ _, fun _ _ h _ => h⟩
theorem kpC_below {n₀ : Nat} {W W' : World} (h : Below W.heap.size W W') (hn : n₀ ≤ W.heap.size) : KpC n₀ W W' := ⟨h.mono hn, fun i _ h1 _ => (h.block i (Array.getElem?_eq_some_iff.1 h1).1).trans h1⟩
theorem kpC_b {n₀ : Nat} {w : World} (hn : n₀ ≤ w.heap.size) (W : World) (l : Nat) (o o' : Obj) (hl : w.heap.size ≤ l) (h : W.heap[l]? = some o) (h1 : o.isCells = false) (_h2 : o.isWalk = false) : KpC n₀ W (W.putObj l o') := by
  have hg := grownBy_putObj' W l o'
  refine ⟨⟨hg.os, hg.tape, hg.output, hg.size, fun i hi => World.putObj_heap_other (by omega)⟩, fun i ob hk hc => ?_⟩
  refine (hg.block i (Array.getElem?_eq_some_iff.1 hk).1 (fun e => ?_)).trans hk
  cases e
  rw [h] at hk
  cases hk
  rw [h1] at hc
  cases hc
theorem KpC.own {n₀ : Nat} {W W' : World} (h : KpC n₀ W W') {g : Nat} {t : TypeId} {cs : Array Value} (o : Own W g t cs) : Own W' g t cs := h.2 g _ o rfl
theorem q4_cells {xs : List Int} {k : Nat} (hk : k * 4 + 4 ≤ xs.length) (hr : ∀ x ∈ xs, 0 ≤ x ∧ x ≤ 255) :
    splice [.int .u8 0, .int .u8 0, .int .u8 0, .int .u8 0] 0 (((xs.drop (k * 4)).take 4).map (Value.int .u8)) = [.int .u8 (q4 xs k).a, .int .u8 (q4 xs k).b, .int .u8 (q4 xs k).c, .int .u8 (q4 xs k).d] := by
  rw [drop_nth (by omega), drop_nth (by omega), drop_nth (by omega), drop_nth (by omega)]
  have h0 := by8_eq (hr _ (nth_mem (k := k * 4) (by omega)))
  have h1 := by8_eq (hr _ (nth_mem (k := k * 4 + 1) (by omega)))
  have h2 := by8_eq (hr _ (nth_mem (k := k * 4 + 2) (by omega)))
  have h3 := by8_eq (hr _ (nth_mem (k := k * 4 + 3) (by omega)))
  simp [splice, q4, h0, h1, h2, h3]
theorem bytes_part {w : World} {B n b o : Nat} {xs : List Int} (h : Bytes w B (some ⟨b, o, none⟩) n xs) {p g : Nat} : ∀ j v, (((xs.drop p).take g).map (Value.int .u8))[j]? = some v → w.cell? ((⟨b, o + p, none⟩ : Addr).add j) = some v := by
  intro j v hv
  rw [List.getElem?_map, List.getElem?_take] at hv
  split at hv
  · rw [List.getElem?_drop] at hv
    rcases h.2.2 with h0 | ⟨b', o', e, _, hc⟩
    · rw [List.map_eq_nil_iff] at h0
      subst h0
      simp at hv
    · cases e
      have := hc (p + j) v (by rw [List.getElem?_map]; exact hv)
      rw [Addr.add_lit, Nat.add_assoc]
      exact this
  · simp at hv
def q4Enc (x : Q4) : Array Value := #[.agg #[.int .u8 x.a, .int .u8 x.b, .int .u8 x.c, .int .u8 x.d]]
set_option maxRecDepth 100000 in
theorem u8pair_info : (Tryd.prog.info? 5).map (·.size) = some 1 := by kernel_rfl
set_option maxRecDepth 100000 in
/-- The iterator captures the boxes of the list and of the code. -/
theorem cgroups_any (code : Int) (A : Option Addr) (n c : Nat) (w : World) : Calls Tryd.prog 67 #[.int .i64 code, .slice A n c] w fun e w' => e = .returned (.func (.func 104) #[] #[.pointer (some ⟨w.heap.size + 1, 0, none⟩), .pointer (some ⟨w.heap.size, 0, none⟩)]) ∧ w' = (w.alloc (.cells #[.int .i64 code] 3)).alloc (.cells #[.slice A n c] 25) := by
  go_enter Tryd.func67, Tryd.ntmps67
  go_wp2
  go_ret
  exact ⟨rfl, rfl⟩
theorem quadsK_no {code : Int} {p : Int × List Int} (h : ¬ (p.1 = code ∧ p.2.length % 4 = 0 ∧ (code = 1 → p.2.length = 4))) : quadsK code p = [] := if_neg h
theorem quadsK_yes {code : Int} {p : Int × List Int} (h : p.1 = code ∧ p.2.length % 4 = 0 ∧ (code = 1 → p.2.length = 4)) : quadsK code p = q4s p.2 (p.2.length / 4) := if_pos h
set_option maxRecDepth 100000 in
set_option maxHeartbeats 6400000 in
theorem cgroups1_in (n : Nat) (hn : 1 ≤ n) (l Bn Cn n₀ : Nat) (code : Int) (A : Option Addr) (N c : Nat) (ss : List Cp) (hN : N ≤ 100000) (hs : ∀ s ∈ ss, s.n ≤ 100000) (J Jx : List Q4 → World → Prop) (W : World) (hJ : AbidesFrom W.heap.size J)
    (hY : ∀ pre x W1, J pre W1 → pre.length < (quads code (ss.map cpK)).length → YieldAt Fence.wide (n - 1) Tryd.prog l (q4Enc x) W1 fun e W' =>
      (e = .returned (.bool true) ∧ J (pre ++ [x]) W' ∧ KpC n₀ W1 W') ∨ (e = .returned (.bool false) ∧ Jx (pre ++ [x]) W'))
    (hBn : Boxed W Bn 25 (.slice A N c)) (hCn : Boxed W Cn 3 (.int .i64 code)) (hU : Caps W n₀ A N ss) (hn0 : n₀ ≤ W.heap.size) (h0 : J [] W) :
    CallsIn Fence.wide n Tryd.prog 104 #[.func (.yield l) #[] #[], .pointer (some ⟨Bn, 0, none⟩), .pointer (some ⟨Cn, 0, none⟩)] W fun e W' => (∃ v, e = .returned v) ∧
      ((∃ ys, ys = quads code (ss.map cpK) ∧ J ys W') ∨ (∃ pre, True ∧ Jx pre W')) := by
  have HL := Lib.hid hU.1
  have HU := Lib.hid hU
  have HY := Lib.hid hY
  have HS := Lib.hid hs
  have HC := Lib.hid hCn
  have HJ := Lib.hid hJ
  have c0 := hBn.cell
  clear hU hY hs hBn hCn hJ
  refine callsIn_of_wp Tryd.func104 rfl trivial ?_ rfl
  simp only [Tryd.ntmps104, List.size_toArray, List.length_cons, List.length_nil, Nat.reduceAdd, Nat.reduceSub, Array.replicate_succ, Array.replicate_zero, List.push_toArray, List.append_toArray, List.nil_append, List.cons_append]
  gi_wp2
  clear c0
  gi_loopw [5, 6, 7, 10] (fun _ _ _ i wr => ∃ j : Nat, j ≤ N ∧ i = .int .i64 j ∧ J (quads code ((ss.take j).map cpK)) wr ∧ KpC n₀ W wr ∧ W.heap.size ≤ wr.heap.size)
    (fun _ _ _ i _ => N - (intOf i).toNat)
  case atStart => exact ⟨0, Nat.zero_le _, rfl, h0, kpC_refl _ _, Nat.le_refl _⟩
  case round =>
    obtain ⟨j, hj, rfl, hJs, hKp, hsz⟩ := hrel
    obtain ⟨w0, rfl⟩ : ∃ x, x = wr := ⟨_, rfl⟩
    by_cases hlt : j < N
    · have hUb := HU.out.below hKp.1
      obtain ⟨b, o, rfl, hbB, d0, d1⟩ := hUb.at_ hlt
      have hjl := Lib.hid (show j < ss.length by rw [← HL.out]; exact hlt)
      have hST := Lib.hid (quads_take (code := code) hjl.out)
      have hLE := Lib.hid (quads_len (code := code) hjl.out)
      have hok := hUb.ok hlt
      have hokW := HU.out.ok hlt
      have hsn := HS.out _ (cpth_mem hjl.out)
      have oC : Own w0 Cn 3 #[.int .i64 code] := hKp.own HC.out
      generalize cpth ss j = s at *
      obtain ⟨sk, sA, sn, sc, sx⟩ := s
      rw [show cpK (⟨sk, sA, sn, sc, sx⟩ : Cp) = (sk, sx) from rfl] at hST hLE
      dsimp only at *
      have hB : Hid (Bytes W n₀ sA sn sx) := Lib.hid hokW.1
      have hxn : sn = sx.length := hok.1.1
      have hcm : sc ≤ maxLen := hok.2.2
      have hnc : sn ≤ sc := hok.2.1
      unfold maxLen at hcm
      have bX := bl_alloc (bl_refl w0) (.cells #[.int .i64 sk, .slice sA sn sc] 83)
      have oX := Own.new w0 83 #[.int .i64 sk, .slice sA sn sc]
      have x0 := oX.cell (i := 0) (v := .int .i64 sk) rfl
      have x1 := oX.cell (i := 1) (v := .slice sA sn sc) rfl
      have oC1 := (oC.alloc (.cells #[.int .i64 sk, .slice sA sn sc] 83)).cell (i := 0) (v := .int .i64 code) rfl
      have hJa : J (quads code ((ss.take j).map cpK)) (w0.alloc (.cells #[.int .i64 sk, .slice sA sn sc] 83)) := HJ.out _ w0 _ none hJs (World.grownBy_alloc _ _ none) (fun r e => by cases e)
      have hKa : KpC n₀ W (w0.alloc (.cells #[.int .i64 sk, .slice sA sn sc] 83)) := kpC_t hKp (kpC_below bX (Nat.le_trans hn0 hsz))
      have hsa : W.heap.size ≤ (w0.alloc (.cells #[.int .i64 sk, .slice sA sn sc] 83)).heap.size := by have := bX.size; omega
      have hr4 : ((sn : Int).tmod 4) = ((sn % 4 : Nat) : Int) := by have := Int.ofNat_tmod sn 4; exact this.symm
      have hm4 : sn % 4 < 4 := Nat.mod_lt _ (by omega)
      have hG := Lib.hid hxn
      clear hxn hok hokW
      by_cases hk : sk = code
      · have q1 : (sk != code) = false := by simpa using hk
        by_cases hz : sn % 4 = 0
        · by_cases h1 : code = 1 ∧ sn ≠ 4
          · have hno := Lib.hid (quadsK_no (code := code) (p := (sk, sx)) (fun h => h1.2 (by rw [hG.out]; exact h.2.2 h1.1)))
            have q3 : (code == 1) = true := by simpa using h1.1
            have q5 : ((sn : Int) != 4) = true := by have := h1.2; simp; omega
            have q2 : (((sn % 4 : Nat) : Int) != 0) = false := by simp; omega
            rw [hno.out, List.append_nil] at hST
            clear hk hz h1
            generalize sn % 4 = m4 at *
            gi_wp2
            go_roundw
            case rel => exact ⟨j + 1, hlt, by go_num, by rw [hST.out]; exact hJa, hKa, hsa⟩
            case measure => simp [intOf]; omega
          · have hgo : code = 1 → sn = 4 := fun e => by
              by_cases h4 : sn = 4
              · exact h4
              · exact absurd ⟨e, h4⟩ h1
            have hye := Lib.hid (quadsK_yes (code := code) (p := (sk, sx)) ⟨hk, by rw [← hG.out]; exact hz, fun e => by rw [← hG.out]; exact hgo e⟩)
            have q2 : (((sn % 4 : Nat) : Int) != 0) = false := by simp; omega
            obtain ⟨m, hm⟩ : ∃ m, sn / 4 = m := ⟨_, rfl⟩
            have hsm : sn = m * 4 := by omega
            have hM := Lib.hid hsm
            have hml : Hid (sx.length / 4 = m) := Lib.hid (by rw [← hG.out]; exact hm)
            have hye2 := Lib.hid (show quadsK code (sk, sx) = q4s sx m by rw [hye.out]; show q4s sx (sx.length / 4) = _; rw [hml.out])
            rw [hye2.out, q4s_length] at hLE
            rw [hye2.out] at hST
            have hsxr : Hid (∀ x ∈ sx, 0 ≤ x ∧ x ≤ 255) := Lib.hid hB.out.2.1
            have hcd : (code == 1) = false ∨ ((code == 1) = true ∧ ((sn : Int) != 4) = false) := by
              by_cases e : code = 1
              · exact .inr ⟨by simpa using e, by have := hgo e; simp; omega⟩
              · exact .inl (by simpa using e)
            clear hye h1 hgo hk hz hm hml
            generalize sn % 4 = m4 at *
            have hJa' := Lib.hid hJa
            have hKa' := Lib.hid hKa
            clear hsm
            rcases hcd with q3 | ⟨q3, q5⟩
            · gi_wp2
              clear x0 x1 oC1
              gi_loopw [6, 7] (fun i _ wq => ∃ k p : Nat, Hid (p = k * 4) ∧ k ≤ m ∧ p ≤ sn ∧ i = .int .i64 p ∧ J (quads code ((ss.take j).map cpK) ++ q4s sx k) wq ∧ KpC n₀ W wq ∧ Own wq w0.heap.size 83 #[.int .i64 sk, .slice sA sn sc] ∧ W.heap.size ≤ wq.heap.size)
                (fun i _ _ => sn - (intOf i).toNat)
              case atStart => exact ⟨0, 0, Lib.hid (by simp), Nat.zero_le _, Nat.zero_le _, rfl, by simpa [q4s] using hJa'.out, hKa'.out, oX, hsa⟩
              case round =>
                obtain ⟨k, p, HP, hk, hp, rfl, hJq, hKq, oQ, hszq⟩ := hrel
                have y0 := oQ.cell (i := 0) (v := .int .i64 sk) rfl
                have y1 := oQ.cell (i := 1) (v := .slice sA sn sc) rfl
                by_cases hkm : k < m
                · have hpg : p + 4 ≤ sn := by have := HP.out; have := hM.out; omega
                  have hplt : (p : Int) < (sn : Int) := by omega
                  have hplt2 : p < sn := by omega
                  obtain ⟨b2, o2, rfl, hbB2, _⟩ := (hB.out.below hKq.1).at_ (k := p) hplt2
                  have hsrc := Lib.hid (bytes_part (p := p) (g := 4) (hB.out.below hKq.1))
                  have hcl := Lib.hid (show (((sx.drop p).take 4).map (Value.int .u8)).length = 4 by
                    have := hG.out
                    rw [List.length_map, List.length_take, List.length_drop]
                    omega)
                  have hsp := q4_cells (xs := sx) (k := k) (by have := HP.out; have := hG.out; omega) hsxr.out
                  rw [← HP.out] at hsp
                  have hQS := Lib.hid (q4s_succ sx k)
                  obtain ⟨t, ht⟩ : ∃ t, q4 sx k = t := ⟨_, rfl⟩
                  rw [ht] at hsp hQS
                  have HSp := Lib.hid hsp
                  have i1 : (0 : Int) ≤ (p : Int) := by omega
                  have i2 : (p : Int) ≤ (p : Int) + 4 := by omega
                  have i3 : (p : Int) + 4 ≤ (sc : Int) := by omega
                  have i4 : p + 4 ≤ sc := by omega
                  have i5 : ¬ sc = p := by omega
                  have i6 : IntKind.i64.wrap ((p : Int) + 4) = (p : Int) + 4 := IntWalk.i64_in _ (by omega)
                  have oT := Own.new wr 102 #[.int .u8 0, .int .u8 0, .int .u8 0, .int .u8 0]
                  have hba : Below wr.heap.size wr (wr.alloc (.cells #[.int .u8 0, .int .u8 0, .int .u8 0, .int .u8 0] 102)) := bl_alloc (bl_refl wr) _
                  have f1 := (oQ.alloc (.cells #[.int .u8 0, .int .u8 0, .int .u8 0, .int .u8 0] 102)).cell (i := 1) (v := .slice (some ⟨b2, o2, none⟩) sn sc) rfl
                  clear hsp ht
                  gi_wp2
                  refine wpIn_wide.2 ?_
                  generalize hX : wr.alloc (.cells #[.int .u8 0, .int .u8 0, .int .u8 0, .int .u8 0] 102) = X at *
                  have HX := Lib.hid hX
                  clear hX
                  have f6 : X.drew.cell? ⟨w0.heap.size, 1, none⟩ = some (.slice (some ⟨b2, o2, none⟩) sn sc) := f1
                  clear f1
                  refine wp_region_still_tail 7 (by kernel_rfl) (by kernel_rfl) ?_
                  simp only [List.take_succ_cons, List.take_zero, List.drop_succ_cons, List.drop_zero]
                  change wpStill _ _ X.drew (fun a' => wpList _ _ _ _ a' X.drew) _ _
                  repeat still_step
                  refine wpStill_nil ?_
                  have hlen : ((p : Int) + 4).toNat - p = 4 := by omega
                  have hcn := Lib.hid (show (((sx.drop p).take 4).map (Value.int .u8)).length = Nat.min (((p : Int) + 4).toNat - p) 4 by
                    rw [hcl.out, hlen]
                    rfl)
                  have hpos := Lib.hid (show 0 < (((sx.drop p).take 4).map (Value.int .u8)).length → (some (⟨wr.heap.size, 0, none⟩ : Addr)) = some ⟨wr.heap.size, 0, none⟩ ∧ ∃ ad, (some (⟨b2, o2 + p, none⟩ : Addr)) = some ad ∧ ∀ j v, (((sx.drop p).take 4).map (Value.int .u8))[j]? = some v → X.drew.cell? (ad.add j) = some v from
                    fun _ => ⟨rfl, _, rfl, fun j v hv => by
                      have hc := hsrc.out j v hv
                      have hlt3 := World.block_lt_of_cell? wr _ hc
                      exact ((show Below wr.heap.size wr X.drew from bl_drewN hba 1).cell hlt3).trans hc⟩)
                  refine wpList_copy_splice rfl _ _ 43 43 rfl 5 Tryd.underlying43 u8pair_info _ _ _ _ _ _ rfl rfl wr.heap.size 0 [.int .u8 0, .int .u8 0, .int .u8 0, .int .u8 0] 102 oT.drew (((sx.drop p).take 4).map (Value.int .u8)) hcn.out hpos.out (by rw [hcl.out]; simp) (ints_oneCell .u8 _) wr.heap.size wr (bl_drewN hba 1) (Nat.le_refl _) ?_
                  intro w2 hg2 hbw
                  rw [HSp.out] at hg2
                  have oP : Own w2 wr.heap.size 102 #[.int .u8 t.a, .int .u8 t.b, .int .u8 t.c, .int .u8 t.d] := hg2.out
                  have oQ2 := oQ.below hbw oQ.lt
                  have hJ2 : J (quads code ((ss.take j).map cpK) ++ q4s sx k) w2 := HJ.out _ wr w2 none hJq ⟨hbw.os, hbw.tape, hbw.output, hbw.size, fun j hj _ => hbw.block j hj⟩ (fun r e => by cases e)
                  obtain ⟨fn, tmps, assign, body, hy, hRd⟩ := HY.out _ t w2 hJ2 (by have := hLE.out; rw [List.length_append, q4s_length]; omega)
                  obtain ⟨ta, tb, tc, td, hta, htb, htc, htd⟩ := t
                  unfold q4Enc at hy
                  dsimp only at hy oP
                  have r0 := oP.cell (i := 0) (v := .int .u8 ta) rfl
                  have r1 := oP.cell (i := 1) (v := .int .u8 tb) rfl
                  have r2 := oP.cell (i := 2) (v := .int .u8 tc) rfl
                  have r3 := oP.cell (i := 3) (v := .int .u8 td) rfl
                  have hsz2 := hbw.size
                  have hK2 : KpC n₀ W w2 := kpC_t hKq (kpC_below hbw (by omega))
                  clear hg2 f6 oT hba hpos hcn hsrc y0 y1
                  refine wpList_nil ?_
                  gi_wp2
                  refine hRd.mono ?_
                  rintro e W3 (⟨rfl, hJ3, hk3⟩ | ⟨rfl, hJx3⟩)
                  · have oQ3 := hk3.own oQ2
                    gi_wp2
                    go_roundw
                    case rel => exact ⟨k + 1, p + 4, Lib.hid (by rw [Nat.succ_mul, HP.out]), hkm, hpg, by go_num, by rw [hQS.out, ← List.append_assoc]; exact hJ3, kpC_t hK2 hk3, oQ3, by have := hk3.1.size; omega⟩
                    case measure => simp [intOf]; omega
                  · gi_wp2
                    refine bodyPost_ret (results_none rfl _ _ _) rfl ?_
                    exact ⟨⟨_, rfl⟩, .inr ⟨_, trivial, hJx3⟩⟩
                · obtain rfl : k = m := by omega
                  have hpn : ¬ ((p : Int) < (sn : Int)) := by have := HP.out; have := hM.out; omega
                  have hpn2 : ¬ (p < sn) := by omega
                  gi_wp2
                  go_roundw
                  case rel => exact ⟨j + 1, hlt, by go_num, by rw [hST.out]; exact hJq, hKq, hszq⟩
                  case measure => simp [intOf]; omega
            · gi_wp2
              clear x0 x1 oC1
              gi_loopw [6, 7] (fun i _ wq => ∃ k p : Nat, Hid (p = k * 4) ∧ k ≤ m ∧ p ≤ sn ∧ i = .int .i64 p ∧ J (quads code ((ss.take j).map cpK) ++ q4s sx k) wq ∧ KpC n₀ W wq ∧ Own wq w0.heap.size 83 #[.int .i64 sk, .slice sA sn sc] ∧ W.heap.size ≤ wq.heap.size)
                (fun i _ _ => sn - (intOf i).toNat)
              case atStart => exact ⟨0, 0, Lib.hid (by simp), Nat.zero_le _, Nat.zero_le _, rfl, by simpa [q4s] using hJa'.out, hKa'.out, oX, hsa⟩
              case round =>
                obtain ⟨k, p, HP, hk, hp, rfl, hJq, hKq, oQ, hszq⟩ := hrel
                have y0 := oQ.cell (i := 0) (v := .int .i64 sk) rfl
                have y1 := oQ.cell (i := 1) (v := .slice sA sn sc) rfl
                by_cases hkm : k < m
                · have hpg : p + 4 ≤ sn := by have := HP.out; have := hM.out; omega
                  have hplt : (p : Int) < (sn : Int) := by omega
                  have hplt2 : p < sn := by omega
                  obtain ⟨b2, o2, rfl, hbB2, _⟩ := (hB.out.below hKq.1).at_ (k := p) hplt2
                  have hsrc := Lib.hid (bytes_part (p := p) (g := 4) (hB.out.below hKq.1))
                  have hcl := Lib.hid (show (((sx.drop p).take 4).map (Value.int .u8)).length = 4 by
                    have := hG.out
                    rw [List.length_map, List.length_take, List.length_drop]
                    omega)
                  have hsp := q4_cells (xs := sx) (k := k) (by have := HP.out; have := hG.out; omega) hsxr.out
                  rw [← HP.out] at hsp
                  have hQS := Lib.hid (q4s_succ sx k)
                  obtain ⟨t, ht⟩ : ∃ t, q4 sx k = t := ⟨_, rfl⟩
                  rw [ht] at hsp hQS
                  have HSp := Lib.hid hsp
                  have i1 : (0 : Int) ≤ (p : Int) := by omega
                  have i2 : (p : Int) ≤ (p : Int) + 4 := by omega
                  have i3 : (p : Int) + 4 ≤ (sc : Int) := by omega
                  have i4 : p + 4 ≤ sc := by omega
                  have i5 : ¬ sc = p := by omega
                  have i6 : IntKind.i64.wrap ((p : Int) + 4) = (p : Int) + 4 := IntWalk.i64_in _ (by omega)
                  have oT := Own.new wr 102 #[.int .u8 0, .int .u8 0, .int .u8 0, .int .u8 0]
                  have hba : Below wr.heap.size wr (wr.alloc (.cells #[.int .u8 0, .int .u8 0, .int .u8 0, .int .u8 0] 102)) := bl_alloc (bl_refl wr) _
                  have f1 := (oQ.alloc (.cells #[.int .u8 0, .int .u8 0, .int .u8 0, .int .u8 0] 102)).cell (i := 1) (v := .slice (some ⟨b2, o2, none⟩) sn sc) rfl
                  clear hsp ht
                  gi_wp2
                  refine wpIn_wide.2 ?_
                  generalize hX : wr.alloc (.cells #[.int .u8 0, .int .u8 0, .int .u8 0, .int .u8 0] 102) = X at *
                  have HX := Lib.hid hX
                  clear hX
                  have f6 : X.drew.cell? ⟨w0.heap.size, 1, none⟩ = some (.slice (some ⟨b2, o2, none⟩) sn sc) := f1
                  clear f1
                  refine wp_region_still_tail 7 (by kernel_rfl) (by kernel_rfl) ?_
                  simp only [List.take_succ_cons, List.take_zero, List.drop_succ_cons, List.drop_zero]
                  change wpStill _ _ X.drew (fun a' => wpList _ _ _ _ a' X.drew) _ _
                  repeat still_step
                  refine wpStill_nil ?_
                  have hlen : ((p : Int) + 4).toNat - p = 4 := by omega
                  have hcn := Lib.hid (show (((sx.drop p).take 4).map (Value.int .u8)).length = Nat.min (((p : Int) + 4).toNat - p) 4 by
                    rw [hcl.out, hlen]
                    rfl)
                  have hpos := Lib.hid (show 0 < (((sx.drop p).take 4).map (Value.int .u8)).length → (some (⟨wr.heap.size, 0, none⟩ : Addr)) = some ⟨wr.heap.size, 0, none⟩ ∧ ∃ ad, (some (⟨b2, o2 + p, none⟩ : Addr)) = some ad ∧ ∀ j v, (((sx.drop p).take 4).map (Value.int .u8))[j]? = some v → X.drew.cell? (ad.add j) = some v from
                    fun _ => ⟨rfl, _, rfl, fun j v hv => by
                      have hc := hsrc.out j v hv
                      have hlt3 := World.block_lt_of_cell? wr _ hc
                      exact ((show Below wr.heap.size wr X.drew from bl_drewN hba 1).cell hlt3).trans hc⟩)
                  refine wpList_copy_splice rfl _ _ 43 43 rfl 5 Tryd.underlying43 u8pair_info _ _ _ _ _ _ rfl rfl wr.heap.size 0 [.int .u8 0, .int .u8 0, .int .u8 0, .int .u8 0] 102 oT.drew (((sx.drop p).take 4).map (Value.int .u8)) hcn.out hpos.out (by rw [hcl.out]; simp) (ints_oneCell .u8 _) wr.heap.size wr (bl_drewN hba 1) (Nat.le_refl _) ?_
                  intro w2 hg2 hbw
                  rw [HSp.out] at hg2
                  have oP : Own w2 wr.heap.size 102 #[.int .u8 t.a, .int .u8 t.b, .int .u8 t.c, .int .u8 t.d] := hg2.out
                  have oQ2 := oQ.below hbw oQ.lt
                  have hJ2 : J (quads code ((ss.take j).map cpK) ++ q4s sx k) w2 := HJ.out _ wr w2 none hJq ⟨hbw.os, hbw.tape, hbw.output, hbw.size, fun j hj _ => hbw.block j hj⟩ (fun r e => by cases e)
                  obtain ⟨fn, tmps, assign, body, hy, hRd⟩ := HY.out _ t w2 hJ2 (by have := hLE.out; rw [List.length_append, q4s_length]; omega)
                  obtain ⟨ta, tb, tc, td, hta, htb, htc, htd⟩ := t
                  unfold q4Enc at hy
                  dsimp only at hy oP
                  have r0 := oP.cell (i := 0) (v := .int .u8 ta) rfl
                  have r1 := oP.cell (i := 1) (v := .int .u8 tb) rfl
                  have r2 := oP.cell (i := 2) (v := .int .u8 tc) rfl
                  have r3 := oP.cell (i := 3) (v := .int .u8 td) rfl
                  have hsz2 := hbw.size
                  have hK2 : KpC n₀ W w2 := kpC_t hKq (kpC_below hbw (by omega))
                  clear hg2 f6 oT hba hpos hcn hsrc y0 y1
                  refine wpList_nil ?_
                  gi_wp2
                  refine hRd.mono ?_
                  rintro e W3 (⟨rfl, hJ3, hk3⟩ | ⟨rfl, hJx3⟩)
                  · have oQ3 := hk3.own oQ2
                    gi_wp2
                    go_roundw
                    case rel => exact ⟨k + 1, p + 4, Lib.hid (by rw [Nat.succ_mul, HP.out]), hkm, hpg, by go_num, by rw [hQS.out, ← List.append_assoc]; exact hJ3, kpC_t hK2 hk3, oQ3, by have := hk3.1.size; omega⟩
                    case measure => simp [intOf]; omega
                  · gi_wp2
                    refine bodyPost_ret (results_none rfl _ _ _) rfl ?_
                    exact ⟨⟨_, rfl⟩, .inr ⟨_, trivial, hJx3⟩⟩
                · obtain rfl : k = m := by omega
                  have hpn : ¬ ((p : Int) < (sn : Int)) := by have := HP.out; have := hM.out; omega
                  have hpn2 : ¬ (p < sn) := by omega
                  gi_wp2
                  go_roundw
                  case rel => exact ⟨j + 1, hlt, by go_num, by rw [hST.out]; exact hJq, hKq, hszq⟩
                  case measure => simp [intOf]; omega
        · have hno := Lib.hid (quadsK_no (code := code) (p := (sk, sx)) (fun h => hz (by rw [hG.out]; exact h.2.1)))
          have q2 : (((sn % 4 : Nat) : Int) != 0) = true := by simp; omega
          rw [hno.out, List.append_nil] at hST
          clear hk hz
          generalize sn % 4 = m4 at *
          gi_wp2
          all_goals first
            | (rename_i hu1 _; exact absurd hu1 (by simp [undef]))
            | (go_roundw
               (case rel => exact ⟨j + 1, hlt, by go_num, by rw [hST.out]; exact hJa, hKa, hsa⟩)
               (case measure => simp [intOf]; omega))
      · have hno := Lib.hid (quadsK_no (code := code) (p := (sk, sx)) (fun h => hk h.1))
        have q1 : (sk != code) = true := by simpa using hk
        rw [hno.out, List.append_nil] at hST
        clear hk
        gi_wp2
        all_goals first
          | (rename_i hu1 _; exact absurd hu1 (by simp [undef]))
          | (go_roundw
             (case rel => exact ⟨j + 1, hlt, by go_num, by rw [hST.out]; exact hJa, hKa, hsa⟩)
             (case measure => simp [intOf]; omega))
    · obtain rfl : N = j := by omega
      have hF := Lib.hid (show (ss.take N).map cpK = ss.map cpK by rw [HL.out, List.take_length])
      rw [hF.out] at hJs
      gi_wp2
      go_end0
      exact ⟨⟨_, rfl⟩, .inl ⟨_, rfl, hJs⟩⟩
set_option maxRecDepth 100000 in
/-- The groups come in their order. -/
theorem cgroups_stops (n : Nat) (hn : 1 ≤ n) (Bn Cn n₀ : Nat) (code : Int) (A : Option Addr) (N c : Nat) (ss : List Cp) (hN : N ≤ 100000) (hs : ∀ s ∈ ss, s.n ≤ 100000) (w : World) (hBn : Boxed w Bn 25 (.slice A N c)) (hCn : Boxed w Cn 3 (.int .i64 code)) (hU : Caps w n₀ A N ss) (hn0 : n₀ ≤ w.heap.size) :
    SeqStopsK Fence.wide n Tryd.prog 104 #[.pointer (some ⟨Bn, 0, none⟩), .pointer (some ⟨Cn, 0, none⟩)] q4Enc (KpC n₀) (fun ys => ys = quads code (ss.map cpK)) (fun _ => True) (quads code (ss.map cpK)).length w :=
  fun l J Jx W hW hJ _ hY h0 =>
    cgroups1_in n hn l Bn Cn n₀ code A N c ss hN hs J Jx W hJ hY ((hW.block Bn hBn.lt).trans hBn) ((hW.block Cn hCn.lt).trans hCn) (hU.below (hW.mono hn0)) (Nat.le_trans hn0 hW.size) h0
end Go.Proofs.YtniheakafkakhaaDoor

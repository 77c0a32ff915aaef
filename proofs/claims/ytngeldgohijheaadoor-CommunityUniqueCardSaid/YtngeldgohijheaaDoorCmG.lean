/- community.groups: the groups of numbers that it hands out one after another -/
import Derived.Test.YtngeldgohijheaaDoorCmA
import Derived.Test.YtngeldgohijheaaDoorRnd
import Derived.Test.YtngeldgohijheaaDoorSgA
import Derived.StillTailTactics
import Derived.RangeFuncBound
import Derived.RangeFuncCalls
import Derived.RangeFuncLeaves
import Derived.Shelf.Abstract
import Derived.Shelf.RegionOpen
import Derived.WalkKit
import Derived.OwnWalkIn
import Derived.TacticsInMore
import Derived.LoopNIn
import Derived.LoopIn
namespace Go.Proofs.YtngeldgohijheaaDoor
open Go.RowKit Go.Shelf

attribute [local go_sem] Oper.semAt_some

/-- Three numbers of four bytes. -/
structure Tup where
  a : Int
  b : Int
  c : Int
  ha : 0 ≤ a ∧ a < 4294967296
  hb : 0 ≤ b ∧ b < 4294967296
  hc : 0 ≤ c ∧ c < 4294967296
def U32L (ls : List Int) : Prop := ∀ x ∈ ls, 0 ≤ x ∧ x < 4294967296
theorem nth_u32 {ls : List Int} (h : U32L ls) (k : Nat) : 0 ≤ nth ls k ∧ nth ls k < 4294967296 := by
  by_cases hk : k < ls.length
  · exact h _ (nth_mem hk)
  · have : nth ls k = 0 := by unfold nth; simp [List.getD, List.getElem?_eq_none (Nat.le_of_not_lt hk)]
    rw [this]
    omega
/-- The k-th group. -/
def tupAt (g : Nat) (ls : List Int) (h : U32L ls) (k : Nat) : Tup :=
  ⟨nth ls (k * g), if 1 < g then nth ls (k * g + 1) else 0, if 2 < g then nth ls (k * g + 2) else 0, nth_u32 h _, by split; exact nth_u32 h _; omega, by split; exact nth_u32 h _; omega⟩
/-- The first k groups. -/
def tups (g : Nat) (ls : List Int) (h : U32L ls) (k : Nat) : List Tup := (List.range k).map (tupAt g ls h)
theorem tups_succ (g : Nat) (ls : List Int) (h : U32L ls) (k : Nat) : tups g ls h (k + 1) = tups g ls h k ++ [tupAt g ls h k] := by simp [tups, List.range_succ]
theorem tups_length (g : Nat) (ls : List Int) (h : U32L ls) (k : Nat) : (tups g ls h k).length = k := by simp [tups]
theorem tup_cells {g : Nat} {ls : List Int} {h : U32L ls} {k : Nat} (hg : g = 1 ∨ g = 2 ∨ g = 3) (hk : k * g + g ≤ ls.length) :
    splice [.int .u32 0, .int .u32 0, .int .u32 0] 0 (((ls.drop (k * g)).take g).map (Value.int .u32)) = [.int .u32 (tupAt g ls h k).a, .int .u32 (tupAt g ls h k).b, .int .u32 (tupAt g ls h k).c] := by
  rcases hg with rfl | rfl | rfl
  · rw [drop_nth (by omega)]
    simp [splice, tupAt]
  · rw [drop_nth (by omega), drop_nth (by omega)]
    simp [splice, tupAt]
  · rw [drop_nth (by omega), drop_nth (by omega), drop_nth (by omega)]
    simp [splice, tupAt]
/-- What a round keeps: what lay below n₀, and the box of the attribute. -/
def KpB (n₀ Bn : Nat) (W W' : World) : Prop := Below n₀ W W' ∧ W'.heap[Bn]? = W.heap[Bn]?
theorem kpB_t {n₀ Bn : Nat} {A B C : World} (h : KpB n₀ Bn A B) (k : KpB n₀ Bn B C) : KpB n₀ Bn A C := ⟨h.1.trans k.1, k.2.trans h.2⟩
theorem kpB_b {n₀ Bn : Nat} {w : World} (hn : n₀ ≤ w.heap.size) (hB : Bn < w.heap.size) (W : World) (l : Nat) (o o' : Obj) (hl : w.heap.size ≤ l) (h : W.heap[l]? = some o) (h1 : o.isCells = false) (h2 : o.isWalk = false) : KpB n₀ Bn W (W.putObj l o') :=
  ⟨belowK_b hn W l o o' hl h h1 h2, World.putObj_heap_other (by omega)⟩
set_option maxRecDepth 100000 in
theorem tup_info : (Tryd.prog.info? 70).map (·.size) = some 3 := by kernel_rfl
set_option maxRecDepth 100000 in
/-- The value that community.groups hands out captures the box of the attribute. -/
theorem cmgroups_any (a : At) (w : World) : Calls Tryd.prog 48 #[.agg (atc a)] w fun e w' => e = .returned (.func (.func 66) #[] #[.pointer (some ⟨w.heap.size, 0, none⟩)]) ∧ w' = w.alloc (.cells (atc a) 29) := by
  unfold atc
  go_enter Tryd.func48, Tryd.ntmps48
  go_wp2
  go_ret
  exact ⟨rfl, rfl⟩
theorem u32s_part {w : World} {B n b o : Nat} {ls : List Int} (h : U32s w B (some ⟨b, o, none⟩) n ls) {p g : Nat} : ∀ j v, (((ls.drop p).take g).map (Value.int .u32))[j]? = some v → w.cell? ((⟨b, o + p, none⟩ : Addr).add j) = some v := by
  intro j v hv
  rw [List.getElem?_map, List.getElem?_take] at hv
  split at hv
  · rename_i hj
    rw [List.getElem?_drop] at hv
    rcases h.2 with h0 | ⟨b', o', e, _, hc⟩
    · rw [List.map_eq_nil_iff] at h0
      subst h0
      simp at hv
    · cases e
      have := hc (p + j) v (by rw [List.getElem?_map]; exact hv)
      rw [Addr.add_lit, Nat.add_assoc]
      exact this
  · simp at hv
set_option maxRecDepth 100000 in
set_option maxHeartbeats 3200000 in
theorem groups1_in (n : Nat) (hn : 1 ≤ n) (l Bn n₀ : Nat) (a : At) (g m : Nat) (hg : cmG a.k = g) (hg1 : g = 1 ∨ g = 2 ∨ g = 3) (ls : List Int) (hR : U32L ls) (hm : a.n2 = m * g) (hnc : a.n2 ≤ a.c2) (hcm : a.c2 ≤ maxLen) (J Jx : List Tup → World → Prop) (W : World) (hJ : AbidesFrom W.heap.size J)
    (hY : ∀ pre x W1, J pre W1 → pre.length < m → YieldAt Fence.wide (n - 1) Tryd.prog l #[.agg #[.int .u32 x.a, .int .u32 x.b, .int .u32 x.c]] W1 fun e W' =>
      (e = .returned (.bool true) ∧ J (pre ++ [x]) W' ∧ KpB n₀ Bn W1 W') ∨ (e = .returned (.bool false) ∧ Jx (pre ++ [x]) W'))
    (hBn : Own W Bn 29 (atc a)) (hU : U32s W n₀ a.A2 a.n2 ls) (hn0 : n₀ ≤ W.heap.size) (h0 : J [] W) :
    CallsIn Fence.wide n Tryd.prog 66 #[.func (.yield l) #[] #[], .pointer (some ⟨Bn, 0, none⟩)] W fun e W' => (∃ v, e = .returned v) ∧
      ((∃ ys, ys = tups g ls hR m ∧ J ys W') ∨ (∃ pre, (∃ k, k ≤ m ∧ pre = tups g ls hR k) ∧ Jx pre W')) := by
  unfold maxLen at hcm
  have HL := Lib.hid hU.1
  have HU := Lib.hid hU
  have hG := Lib.hid (fun W => cmgroup_any a.k W)
  rw [hg] at hG
  have HM := Lib.hid hm
  have HG1 := Lib.hid hg1
  have hg0 : 0 < g := by omega
  have hg3 : g ≤ 3 := by omega
  have HY := Lib.hid hY
  obtain ⟨ak, ap, aN, aM, A1, n1, c1, A2, n2, c2, A3, n3, c3, af, A4, n4, c4⟩ := a
  unfold atc at hBn
  dsimp only at *
  have hbl := hBn.lt
  obtain ⟨e0, e1, e2, e3, e4, e5, e6, e7, e8⟩ := at_cells hBn
  have HB := Lib.hid hBn
  clear hg hU hm hg1 hBn hY
  refine callsIn_of_wp Tryd.func66 rfl trivial ?_ rfl
  simp only [Tryd.ntmps66, List.size_toArray, List.length_cons, List.length_nil, Nat.reduceAdd, Nat.reduceSub, Array.replicate_succ, Array.replicate_zero, List.push_toArray, List.append_toArray, List.nil_append, List.cons_append]
  gi_wp2_with (refine ⟨trivial, ?_⟩; gi_at_call 23; refine (callsIn_wide.2 (hG.out _)).mono ?_; rintro e w' ⟨rfl, rfl⟩)
  clear e0 e1 e2 e3 e4 e5 e6 e7 e8
  gi_loopw [4] (fun i wr => ∃ k p : Nat, Hid (p = k * g) ∧ k ≤ m ∧ p ≤ n2 ∧ i = .int .i64 p ∧ J (tups g ls hR k) wr ∧ KpB n₀ Bn W wr ∧ W.heap.size ≤ wr.heap.size)
    (fun i _ => n2 - (intOf i).toNat)
  case atStart => exact ⟨0, 0, Lib.hid (by simp), Nat.zero_le _, Nat.zero_le _, rfl, h0, ⟨Below.refl _ _, rfl⟩, Nat.le_refl _⟩
  case round =>
    obtain ⟨k, p, HP, hk, hp, rfl, hJs, hKp, hsz⟩ := hrel
    have oB : Own wr Bn 29 _ := HB.out.keep hKp.2
    obtain ⟨e0, e1, e2, e3, e4, e5, e6, e7, e8⟩ := at_cells oB
    by_cases hlt : k < m
    · have hpg : p + g ≤ n2 := by
        have h1 := HP.out
        have h2 := HM.out
        have h3 := Nat.mul_le_mul_right g (show k + 1 ≤ m from hlt)
        rw [Nat.succ_mul] at h3
        omega
      have hplt : (p : Int) < (n2 : Int) := by omega
      have hplt2 : p < n2 := by omega
      obtain ⟨b, o, rfl, hbB, _⟩ := (HU.out.below hKp.1).at_ (k := p) hplt2
      have hsrc := Lib.hid (u32s_part (p := p) (g := g) (HU.out.below hKp.1))
      have hcl := Lib.hid (show (((ls.drop p).take g).map (Value.int .u32)).length = g by
        have := HL.out
        rw [List.length_map, List.length_take, List.length_drop]
        omega)
      have hsp := tup_cells (g := g) (ls := ls) (h := hR) (k := k) HG1.out (by have := HP.out; have := HL.out; omega)
      rw [← HP.out] at hsp
      have hS := Lib.hid (tups_succ g ls hR k)
      obtain ⟨t, ht⟩ : ∃ t, tupAt g ls hR k = t := ⟨_, rfl⟩
      rw [ht] at hsp hS
      have HS := Lib.hid hsp
      have i1 : (0 : Int) ≤ (p : Int) := by omega
      have i2 : (p : Int) ≤ (p : Int) + (g : Int) := by omega
      have i3 : (p : Int) + (g : Int) ≤ (c2 : Int) := by omega
      have i4 : p + g ≤ c2 := by omega
      have i5 : ¬ c2 = p := by omega
      have i6 : IntKind.i64.wrap ((p : Int) + (g : Int)) = (p : Int) + (g : Int) := IntWalk.i64_in _ (by omega)
      have oT := Own.new wr 70 #[.int .u32 0, .int .u32 0, .int .u32 0]
      have hba : Below wr.heap.size wr (wr.alloc (.cells #[.int .u32 0, .int .u32 0, .int .u32 0] 70)) := bl_alloc (bl_refl wr) _
      have f5 := (oB.alloc (.cells #[.int .u32 0, .int .u32 0, .int .u32 0] 70)).cell (i := 5) (v := .slice (some ⟨b, o, none⟩) n2 c2) rfl
      clear hsp
      gi_wp2
      refine wpIn_wide.2 ?_
      generalize hX : wr.alloc (.cells #[.int .u32 0, .int .u32 0, .int .u32 0] 70) = X at *
      have HX := Lib.hid hX
      clear hX
      have f6 : X.drew.cell? ⟨Bn, 5, none⟩ = some (.slice (some ⟨b, o, none⟩) n2 c2) := f5
      clear f5
      refine wp_region_still_tail 8 (by kernel_rfl) (by kernel_rfl) ?_
      simp only [List.take_succ_cons, List.take_zero, List.drop_succ_cons, List.drop_zero]
      change wpStill _ _ X.drew (fun a' => wpList _ _ _ _ a' X.drew) _ _
      repeat still_step
      refine wpStill_nil ?_
      have hlen : ((p : Int) + (g : Int)).toNat - p = g := by omega
      have hcn := Lib.hid (show (((ls.drop p).take g).map (Value.int .u32)).length = Nat.min (((p : Int) + (g : Int)).toNat - p) 3 by
        rw [hcl.out, hlen]
        exact (Nat.min_eq_left hg3).symm)
      have hpos := Lib.hid (show 0 < (((ls.drop p).take g).map (Value.int .u32)).length → (some (⟨wr.heap.size, 0, none⟩ : Addr)) = some ⟨wr.heap.size, 0, none⟩ ∧ ∃ ad, (some (⟨b, o + p, none⟩ : Addr)) = some ad ∧ ∀ j v, (((ls.drop p).take g).map (Value.int .u32))[j]? = some v → X.drew.cell? (ad.add j) = some v from
        fun _ => ⟨rfl, _, rfl, fun j v hv => by
          have hc := hsrc.out j v hv
          have hlt3 := World.block_lt_of_cell? wr _ hc
          exact ((show Below wr.heap.size wr X.drew from bl_drewN hba 1).cell hlt3).trans hc⟩)
      refine wpList_copy_splice rfl _ _ 26 26 rfl 24 Tryd.underlying26 pair_info _ _ _ _ _ _ rfl rfl wr.heap.size 0 [.int .u32 0, .int .u32 0, .int .u32 0] 70 oT.drew (((ls.drop p).take g).map (Value.int .u32)) hcn.out hpos.out (by rw [hcl.out]; simp; omega) (ints_oneCell .u32 _) wr.heap.size wr (bl_drewN hba 1) (Nat.le_refl _) ?_
      intro w2 hg2 hbw
      rw [HS.out] at hg2
      have oP : Own w2 wr.heap.size 70 #[.int .u32 t.a, .int .u32 t.b, .int .u32 t.c] := hg2.out
      have oB2 := oB.below hbw oB.lt
      have HN := Lib.hid hnc
      have hJ2 : J (tups g ls hR k) w2 := hJ _ wr w2 none hJs ⟨hbw.os, hbw.tape, hbw.output, hbw.size, fun j hj _ => hbw.block j hj⟩ (fun r e => by cases e)
      obtain ⟨fn, tmps, assign, body, hy, hRd⟩ := HY.out _ t w2 hJ2 (by rw [tups_length]; exact hlt)
      obtain ⟨ta, tb, tc, hta, htb, htc⟩ := t
      dsimp only at hy oP
      have q0 := oP.cell (i := 0) (v := .int .u32 ta) rfl
      have q1 := oP.cell (i := 1) (v := .int .u32 tb) rfl
      have q2 := oP.cell (i := 2) (v := .int .u32 tc) rfl
      have hsz2 := hbw.size
      have hK2 : KpB n₀ Bn W w2 := kpB_t hKp ⟨hbw.mono (by omega), hbw.block _ oB.lt⟩
      clear e0 e1 e2 e3 e4 e5 e6 e7 e8 hg2 f6 oT hba hpos hcn hsrc
      refine wpList_nil ?_
      gi_wp2
      refine hRd.mono ?_
      rintro e W3 (⟨rfl, hJ3, hk3⟩ | ⟨rfl, hJx3⟩)
      · have oB3 := oB2.keep hk3.2
        gi_wp2
        go_roundw
        case rel =>
          have hsz3 := hk3.1.size
          exact ⟨k + 1, p + g, Lib.hid (by rw [Nat.succ_mul, HP.out]), hlt, hpg, by go_num, by rw [hS.out]; exact hJ3, kpB_t hK2 hk3, by omega⟩
        case measure => simp [intOf]; omega
      · gi_wp2
        refine bodyPost_ret (results_none rfl _ _ _) rfl ?_
        exact ⟨⟨_, rfl⟩, .inr ⟨_, ⟨k + 1, by omega, hS.out.symm⟩, hJx3⟩⟩
    · obtain rfl : k = m := by omega
      have hpn : ¬ ((p : Int) < (n2 : Int)) := by have := HP.out; have := HM.out; omega
      have hpn2 : ¬ (p < n2) := by omega
      gi_wp2
      go_end0
      exact ⟨⟨_, rfl⟩, .inl hJs⟩
/-- The values of four bytes of an attribute, with what makes it valid. -/
structure CmIn (a : At) (g m : Nat) (ls : List Int) : Prop where
  hg : cmG a.k = g
  hg1 : g = 1 ∨ g = 2 ∨ g = 3
  hR : U32L ls
  hm : a.n2 = m * g
  hnc : a.n2 ≤ a.c2
  hcm : a.c2 ≤ maxLen
  hl : a.n2 = ls.length
theorem cmOk_in {a : At} {ls : List Int} (h : cmOk a = true) (hR : U32L ls) (hnc : a.n2 ≤ a.c2) (hcm : a.c2 ≤ maxLen) (hl : a.n2 = ls.length) : CmIn a (cmG a.k) (a.n2 / cmG a.k) ls := by
  unfold cmOk at h
  simp only [Bool.and_eq_true, decide_eq_true_eq] at h
  have := cmG_le a.k
  refine ⟨rfl, by omega, hR, ?_, hnc, hcm, hl⟩
  have h1 := Nat.div_add_mod a.n2 (cmG a.k)
  rw [h.1.2.2, Nat.add_zero, Nat.mul_comm] at h1
  exact h1.symm
def tupEnc (x : Tup) : Array Value := #[.agg #[.int .u32 x.a, .int .u32 x.b, .int .u32 x.c]]
set_option maxRecDepth 100000 in
/-- The groups come in their order: all, or the first so many. -/
theorem groups_stops (n : Nat) (hn : 1 ≤ n) (Bn n₀ : Nat) (a : At) (g m : Nat) (ls : List Int) (h : CmIn a g m ls) (w : World) (hBn : Own w Bn 29 (atc a)) (hU : U32s w n₀ a.A2 a.n2 ls) (hn0 : n₀ ≤ w.heap.size) :
    SeqStopsK Fence.wide n Tryd.prog 66 #[.pointer (some ⟨Bn, 0, none⟩)] tupEnc (KpB n₀ Bn) (fun ys => ys = tups g ls h.hR m) (fun pre => ∃ k, k ≤ m ∧ pre = tups g ls h.hR k) m w :=
  fun l J Jx W hW hJ _ hY h0 =>
    groups1_in n hn l Bn n₀ a g m h.hg h.hg1 ls h.hR h.hm h.hnc h.hcm J Jx W hJ hY (hBn.below hW hBn.lt) (hU.below (hW.mono hn0)) (Nat.le_trans hn0 hW.size) h0
end Go.Proofs.YtngeldgohijheaaDoor

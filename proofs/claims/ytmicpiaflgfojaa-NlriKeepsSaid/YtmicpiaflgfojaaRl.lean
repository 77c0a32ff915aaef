/- nlri.fresh: the routes that were not met yet, handed out one after another -/
import Derived.Test.YtmicpiaflgfojaaRk
import Derived.RangeFuncNested
import Derived.RangeFuncBound
import Derived.RangeFuncCalls
import Derived.RangeFuncLeaves
import Derived.WalkKit
import Derived.OwnWalkIn
import Derived.TacticsInMore
import Derived.LoopNIn
import Derived.LoopIn
import Derived.Carry
import Derived.Deep.MidRow
namespace Go.Proofs.Ytmicpiaflgfojaa
open Go.RowKit Go.Maps

attribute [local go_sem] Oper.semAt_some

theorem operW {P : Program} {o : Oper} {a : Act} {w : World} {K : Act → World → Prop} {Q : Exit → Act → World → Prop} {n : Nat} (h : Oper.wp P o a w K Q) : Oper.wpIn Fence.wide n P o a w K Q := by
  unfold Oper.wpIn
  refine ⟨fun _ _ => trivial, ?_⟩
  rw [show Fence.wide.round = none from rfl, Oper.semAt_none]
  unfold Oper.wp at h
  generalize (execOp a.eval o).run P w = r at *
  cases r with
  | ok x w' =>
    cases x <;> simp only [Oper.upon, Oper.uponIn] at h ⊢ <;>
      first
        | exact h
        | exact ⟨fun hh => (by cases hh), callsIn_wide.2 h⟩
        | exact ⟨fun hh => (by cases hh), fun c cs _ => let ⟨v, w', r, s⟩ := h c cs; ⟨v, w', r, stepsIn_wide.2 s⟩⟩
  | halt x w' => cases x <;> simp only [Oper.upon, Oper.uponIn] at h ⊢ <;> exact h
section
variable {P : Program} {n : Nat} {ops : Array Oper} {rest : List Oper} {o : Oper} {a : Act} {w : World} {Q : Exit → Act → World → Prop}
theorem storeW (hgd : o.guard = none) (ty : TypeId) (x y : Operand) (ho : o.op = .store ty x y)
    (g : Nat) (cells : Array Value) (hx : a.eval x = .pointer (some ⟨g, 0, none⟩)) (hy : a.eval y = .agg cells)
    (t : TypeId) (old : Array Value) (hg : w.heap[g]? = some (.cells old t (0, 0))) (hi : (P.info? ty).map (·.size) = some cells.size)
    (hold : old.size = cells.size) (h1 : cells.all (·.oneCell') = true)
    (h : wpListIn Fence.wide n P ops Q rest (a.put o.dst undef) (w.setRow g cells)) : wpListIn Fence.wide n P ops Q (o :: rest) a w :=
  wpListIn_plain hgd fun _ hK => operW (wp_store_row ty x y ho g cells hx hy t old hg hi hold h1 (hK _ _ h))
theorem loadW (hgd : o.guard = none) (ty : TypeId) (x : Operand) (ho : o.op = .load ty x)
    (g : Nat) (hx : a.eval x = .pointer (some ⟨g, 0, none⟩)) (t : TypeId) (cs : Array Value) (d : TypeDesc) (hg : Own w g t cs)
    (hu : P.underlying ty = some d) (hd : (match d with | .struct _ | .array _ _ => true | _ => false) = true) (hi : (P.info? ty).map (·.size) = some cs.size)
    (h : wpListIn Fence.wide n P ops Q rest (a.put o.dst (.agg cs)) w) : wpListIn Fence.wide n P ops Q (o :: rest) a w :=
  wpListIn_plain hgd fun _ hK => operW (wp_load_row ty x ho g hx t cs (0, 0) d hg hu hd hi (hK _ _ h))
theorem loadMidW (hgd : o.guard = none) (ty : TypeId) (x : Operand) (ho : o.op = .load ty x)
    (b of : Nat) (hx : a.eval x = .pointer (some ⟨b, of, none⟩)) (cs : List Value) (d : TypeDesc) (hc : w.rangeAt b of cs)
    (hu : P.underlying ty = some d) (hd : d.isRow = true) (hi : (P.info? ty).map (·.size) = some cs.length)
    (h : wpListIn Fence.wide n P ops Q rest (a.put o.dst (.agg cs.toArray)) w) : wpListIn Fence.wide n P ops Q (o :: rest) a w :=
  wpListIn_plain hgd fun _ hK => operW (wp_load_mid ty x ho b of hx cs d hc hu hd hi (hK _ _ h))
end
/-- A route whose numbers are numbers of their types. -/
abbrev RtK := {r : Rt // r.Ok ∧ KR r}
def vals (ys : List RtK) : List Rt := ys.map fun x => x.1
theorem vals_app (ys : List RtK) (x : RtK) : vals (ys ++ [x]) = vals ys ++ [x.1] := by unfold vals; rw [List.map_append]; rfl
theorem vals_len (ys : List RtK) : (vals ys).length = ys.length := List.length_map ..
def rtEnc (x : RtK) : Array Value := #[.agg (rt x.1)]
/-- What a round keeps. -/
def KpR (n₀ : Nat) (W W' : World) : Prop := Below n₀ W W' ∧ KeepsWalks W W'
set_option maxRecDepth 100000 in
theorem fresh_any (A : Option Addr) (n c : Nat) (w : World) : Calls Try.prog 14 #[.slice A n c] w fun e w' => e = .returned (.func (.func 22) #[] #[.pointer (some ⟨w.heap.size, 0, none⟩)]) ∧ w' = w.alloc (.cells #[.slice A n c] 22) := by
  go_enter Try.func14, Try.ntmps14
  go_wp2
  go_ret
  exact ⟨rfl, rfl⟩
set_option maxRecDepth 100000 in
theorem ownsMap_same {w w' : World} {b n : Nat} {D : DataW Unit} (h : w.ownsMap Try.prog 31 (plainElem Try.prog 4) b n D) (hk : ∀ o, w.heap[b]? = some o → o.isWalk = true → w'.heap[b]? = some o) : w'.ownsMap Try.prog 31 (plainElem Try.prog 4) b n D := by
  obtain ⟨es, clock, hb, F, hs, hD⟩ := h
  exact ⟨es, clock, hk _ hb rfl, F, hs, hD⟩
set_option maxRecDepth 100000 in
set_option maxHeartbeats 3200000 in
theorem fresh1_in (n : Nat) (hn : 1 ≤ n) (l Bn n₀ : Nat) (A : Option Addr) (m c : Nat) (rs : List Rt) (hKR : ∀ r ∈ rs, KR r) (hm : m ≤ 1000000) (J Jx : List RtK → World → Prop) (W : World) (hJ : AbidesFrom W.heap.size J)
    (hY : ∀ pre x W1, J pre W1 → pre.length < m → YieldAt Fence.wide (n - 1) Try.prog l (rtEnc x) W1 fun e W' =>
      (e = .returned (.bool true) ∧ J (pre ++ [x]) W' ∧ KpR n₀ W1 W') ∨ (e = .returned (.bool false) ∧ Jx (pre ++ [x]) W'))
    (hBn : Boxed W Bn 22 (.slice A m c)) (hU : Routes W n₀ A m rs) (hn0 : n₀ ≤ W.heap.size) (h0 : J [] W) :
    CallsIn Fence.wide n Try.prog 22 #[.func (.yield l) #[] #[], .pointer (some ⟨Bn, 0, none⟩)] W fun e W' => (∃ v, e = .returned v) ∧
      ((∃ ys : List RtK, vals ys = uniqR rs ∧ J ys W') ∨ (∃ pre, True ∧ Jx pre W')) := by
  have HU := Lib.hid hU
  have HL := Lib.hid hU.1
  have HOk := Lib.hid hU.2.1
  have HY := Lib.hid hY
  have HB := Lib.hid hBn
  have HJ := Lib.hid hJ
  have HK := Lib.hid hKR
  have hc0 := (hBn.alloc (.map #[] 0)).cell
  have hM0 := World.ownsMap_made (H := Unit) W Try.prog 31 (plainElem Try.prog 4)
  have hMk : ∀ (W : World), (Instr.makeMap 54 none).run Try.prog W = .ok (.map (some W.heap.size)) (W.alloc (.map #[] 0)) := fun W => run_makeMap _ W
  have hb0 : Below W.heap.size W (W.alloc (.map #[] 0)) := bl_alloc (bl_refl W) _
  have hJ0 : J [] (W.alloc (.map #[] 0)) := hJ [] W _ none h0 (World.grownBy_alloc W _ none) (fun r e => by cases e)
  clear hU hY hBn hJ hKR h0
  refine callsIn_of_wp Try.func22 rfl trivial ?_ rfl
  simp only [Try.ntmps22, List.size_toArray, List.length_cons, List.length_nil, Nat.reduceAdd, Nat.reduceSub, Array.replicate_succ, Array.replicate_zero, List.push_toArray, List.append_toArray, List.nil_append, List.cons_append]
  gi_wp2
  clear hMk hc0
  gi_loopw [9] (fun i wr => ∃ (k : Nat) (ys : List RtK) (D : DataW Unit), k ≤ m ∧ i = .int .i64 k ∧ vals ys = uniqR (rs.take k) ∧ J ys wr ∧ Below n₀ W wr ∧ wr.ownsMap Try.prog 31 (plainElem Try.prog 4) W.heap.size k D ∧ MetR D (uniqR (rs.take k)) ∧ W.heap.size ≤ wr.heap.size)
    (fun i _ => m - (intOf i).toNat)
  case atStart => exact ⟨0, [], .map [], Nat.zero_le _, rfl, rfl, hJ0, hb0.mono hn0, hM0, MetR.nil, by simp⟩
  case round =>
    obtain ⟨k, ys, D, hk, rfl, hys, hJs, hbl, hmap, hmet, hsz⟩ := hrel
    clear hJ0 hb0 hM0
    have HYS := Lib.hid hys
    by_cases hlt : k < m
    · obtain ⟨b, o, rfl, hbB, hok, hrg⟩ := (HU.out.below hbl).at_ hlt
      have hkr := Lib.hid (show k < rs.length by have := HL.out; omega)
      have hi19 := Lib.hid (rt_infol hok.1.1)
      have hi20 := Lib.hid (rt_info hok.1.1)
      have hST := Lib.hid (uniqR_step hkr.out)
      have hkq : KR (nthR rs k) := HK.out _ (nthR_mem hkr.out)
      have hln : ys.length ≤ k := by
        have h1 := congrArg List.length hys
        rw [vals_len] at h1
        have h2 := uniqR_len (rs.take k)
        have h3 := List.length_take_le k rs
        omega
      have HTk : Hid (nthR rs k = nthR rs k) := Lib.hid rfl
      obtain ⟨x, hx⟩ : ∃ x, nthR rs k = x := ⟨_, rfl⟩
      rw [hx] at hok hrg hi19 hi20 hST hkq
      clear hx HTk
      have HOx := Lib.hid hok
      have hs19 := Lib.hid (rt_size hok.1.1)
      have ho' := (Own.new wr 31 #[.int .u32 0, .int .i64 0, .int .i64 0, .int .u8 0, .int .u8 0, .int .u8 0, .int .u8 0, .int .u8 0, .int .u8 0, .int .u8 0, .int .u8 0, .int .u8 0, .int .u8 0, .int .u8 0, .int .u8 0, .int .u8 0, .int .u8 0, .int .u8 0, .int .u8 0])
      have ho := ho'.setRow (cs' := rt x)
      have hb1 : Below wr.heap.size wr ((wr.alloc (.cells #[.int .u32 0, .int .i64 0, .int .i64 0, .int .u8 0, .int .u8 0, .int .u8 0, .int .u8 0, .int .u8 0, .int .u8 0, .int .u8 0, .int .u8 0, .int .u8 0, .int .u8 0, .int .u8 0, .int .u8 0, .int .u8 0, .int .u8 0, .int .u8 0, .int .u8 0] 31)).setRow wr.heap.size (rt x)) := bl_setRow (cs := rt x) (bl_alloc (bl_refl wr) (.cells #[.int .u32 0, .int .i64 0, .int .i64 0, .int .u8 0, .int .u8 0, .int .u8 0, .int .u8 0, .int .u8 0, .int .u8 0, .int .u8 0, .int .u8 0, .int .u8 0, .int .u8 0, .int .u8 0, .int .u8 0, .int .u8 0, .int .u8 0, .int .u8 0, .int .u8 0] 31)) (Nat.le_refl _)
      have hmap1 := ownsMap_same hmap (fun ob ho _ => (hb1.block _ (Array.getElem?_eq_some_iff.1 ho).1).trans ho)
      have hlk := look_metR hmap1 hmet hok hkq
      cases hany : (uniqR (rs.take k)).any (fun q => rtEq q x)
      · rw [hany] at hlk hST
        have HST := Lib.hid hST
        have Hany := Lib.hid hany
        clear hany hST
        have hJ2 := HJ.out ys wr _ none hJs ⟨hb1.os, hb1.tape, hb1.output, hb1.size, fun j hj _ => hb1.block j hj⟩ (fun r e => by cases e)
        gi_wp2_with (first
          | (gi_at_mapUpdate; refine wpListIn_mapUpdate_own _ rfl _ _ _ 54 rfl 31 4 rt_keyed Try.underlying54 _ W.heap.size k D rfl hmap1 (by unfold maxLen; omega) _ _ (kr x) rfl rfl (kr_some HOx.out hkq) _ [] (plainElem_bool Try.underlying4 true) ?_; intro W3 hm3 hg3; have o3 := ho.grown hg3 (fun e => by have h1 := hmap.lt; have h2 := Option.some.inj e; omega); have hJ3 := HJ.out ys _ W3 (some W.heap.size) hJ2 hg3 (fun r e => by cases e; obtain ⟨es, clock, hb, _⟩ := hmap1; exact ⟨Nat.le_refl _, _, hb, rfl⟩); have hbl3 : Below n₀ W W3 := (hbl.trans (hb1.mono (Nat.le_trans hn0 hsz))).grown hg3 (by have := hb1.size; omega) (fun j e => by cases e; exact hn0); obtain ⟨fn, tmps, assign, body, hy, hRd⟩ := HY.out _ ⟨x, HOx.out, hkq⟩ W3 hJ3 (by omega); unfold rtEnc at hy; dsimp only at hy)
          | (refine loadW rfl 31 _ rfl wr.heap.size rfl 31 (rt x) (.struct (Try.prog.fieldsOf 31)) o3 rt_desc rfl hi20.out ?_)
          | (refine loadMidW rfl 31 _ rfl b (o + k * 19) rfl (rt x).toList (.struct (Try.prog.fieldsOf 31)) hrg rt_desc rfl hi19.out ?_)
          | (refine storeW rfl 31 _ _ rfl wr.heap.size (rt x) rfl rfl 31 #[.int .u32 0, .int .i64 0, .int .i64 0, .int .u8 0, .int .u8 0, .int .u8 0, .int .u8 0, .int .u8 0, .int .u8 0, .int .u8 0, .int .u8 0, .int .u8 0, .int .u8 0, .int .u8 0, .int .u8 0, .int .u8 0, .int .u8 0, .int .u8 0, .int .u8 0] ho' hi20.out (by rw [hs19.out]; rfl) (rt_one _) ?_)
          | (refine loadW rfl 31 _ rfl wr.heap.size rfl 31 (rt x) (.struct (Try.prog.fieldsOf 31)) ho rt_desc rfl hi20.out ?_))
        refine hRd.mono ?_
        have hys2 : vals (ys ++ [(⟨x, HOx.out, hkq⟩ : RtK)]) = uniqR (rs.take (k + 1)) := by
          rw [vals_app, HYS.out, HST.out]
          rfl
        rintro e W4 (⟨rfl, hJ4, hk4⟩ | ⟨rfl, hJx4⟩)
        · gi_wp2
          go_roundw
          case rel =>
            refine ⟨k + 1, _, _, hlt, by go_num, hys2, hJ4, hbl3.trans hk4.1, ownsMap_same hm3 (fun ob h1 h2 => hk4.2.same _ ob h1 h2), ?_, ?_⟩
            · have := hmet.put HOx.out hkq
              rw [HST.out]
              exact this
            · have h1 := hk4.2.size
              have h2 := hbl3.size
              omega
          case measure => simp [intOf]; omega
        · gi_wp2
          refine bodyPost_ret (results_none rfl _ _ _) rfl ?_
          exact ⟨⟨_, rfl⟩, .inr ⟨_, trivial, hJx4⟩⟩
      · rw [hany] at hlk hST
        have HST := Lib.hid hST
        have Hany := Lib.hid hany
        clear hany hST
        gi_wp2_with (first
          | (refine loadMidW rfl 31 _ rfl b (o + k * 19) rfl (rt x).toList (.struct (Try.prog.fieldsOf 31)) hrg rt_desc rfl hi19.out ?_)
          | (refine storeW rfl 31 _ _ rfl wr.heap.size (rt x) rfl rfl 31 #[.int .u32 0, .int .i64 0, .int .i64 0, .int .u8 0, .int .u8 0, .int .u8 0, .int .u8 0, .int .u8 0, .int .u8 0, .int .u8 0, .int .u8 0, .int .u8 0, .int .u8 0, .int .u8 0, .int .u8 0, .int .u8 0, .int .u8 0, .int .u8 0, .int .u8 0] ho' hi20.out (by rw [hs19.out]; rfl) (rt_one _) ?_)
          | (refine loadW rfl 31 _ rfl wr.heap.size rfl 31 (rt x) (.struct (Try.prog.fieldsOf 31)) ho rt_desc rfl hi20.out ?_))
        go_roundw
        case rel =>
          have hJ2 := HJ.out ys wr _ none hJs ⟨hb1.os, hb1.tape, hb1.output, hb1.size, fun j hj _ => hb1.block j hj⟩ (fun r e => by cases e)
          exact ⟨k + 1, ys, D, hlt, by go_num, by rw [HST.out]; exact HYS.out, hJ2, hbl.trans (hb1.mono (Nat.le_trans hn0 hsz)), hmap1.mono (Nat.le_succ k), by rw [HST.out]; exact hmet, by have := hb1.size; omega⟩
        case measure => simp [intOf]; omega
    · obtain rfl : k = m := by omega
      have hpn : ¬ ((k : Int) < (k : Int)) := by omega
      gi_wp2
      go_end0
      exact ⟨⟨_, rfl⟩, .inl ⟨ys, by rw [HYS.out, HL.out, List.take_length], hJs⟩⟩
set_option maxRecDepth 100000 in
/-- The routes come in their order, each once. -/
theorem fresh_stops (n : Nat) (hn : 1 ≤ n) (Bn n₀ : Nat) (A : Option Addr) (m c : Nat) (rs : List Rt) (hK : ∀ r ∈ rs, KR r) (hm : m ≤ 1000000) (w : World) (hBn : Boxed w Bn 22 (.slice A m c)) (hU : Routes w n₀ A m rs) (hn0 : n₀ ≤ w.heap.size) :
    SeqStopsK Fence.wide n Try.prog 22 #[.pointer (some ⟨Bn, 0, none⟩)] rtEnc (KpR n₀) (fun ys => vals ys = uniqR rs) (fun _ => True) m w :=
  fun l J Jx W hW hJ _ hY h0 =>
    fresh1_in n hn l Bn n₀ A m c rs hK hm J Jx W hJ hY ((hW.block Bn (show Own w Bn _ #[_] from hBn).lt).trans hBn) (hU.below (hW.mono hn0)) (Nat.le_trans hn0 hW.size) h0
end Go.Proofs.Ytmicpiaflgfojaa

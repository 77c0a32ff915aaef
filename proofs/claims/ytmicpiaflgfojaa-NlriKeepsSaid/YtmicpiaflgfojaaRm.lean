/- nlri.Unique -/
import Derived.Test.YtmicpiaflgfojaaRl
import Derived.Test.YtmicpiaflgfojaaRnd
import Derived.Shelf.Abstract
namespace Go.Proofs.Ytmicpiaflgfojaa
open Go.RowKit Go.Maps

attribute [local go_sem] Oper.semAt_some

theorem list_round {P : Program} {ops : Array Oper} {Q : Exit → Act → World → Prop} {n l : Nat} (hQ : ¬ LetsOut Q) : ∀ (os : List Oper), (os.all fun o => match o.op with | .defer _ => false | _ => true) = true → ∀ (a : Act) (w : World), wpList P ops Q os a w → wpListIn (Fence.wide.inRound l) n P ops Q os a w
  | [], _, _, _, h => h
  | o :: os, hd, a, w, h => by
    simp only [List.all_cons, Bool.and_eq_true] at hd
    have h0 : ∀ c, o.op ≠ .defer c := by
      intro c e
      have := hd.1
      rw [e] at this
      cases this
    unfold wpList at h
    unfold wpListIn
    split at h
    · rename_i hw
      rw [if_pos hw]
      exact oper_round h0 (Oper.wp_mono (fun a' w' h' => list_round hQ os hd.2 a' w' h') (h.resolve_right (fun x => hQ x.2)))
    · rename_i hw
      rw [if_neg hw]
      exact ⟨fun _ _ => trivial, list_round hQ os hd.2 _ _ h⟩
theorem own_cellsR (g : Nat) (t : TypeId) (cs : Array Value) : Go.Own (fun (_ : Unit) W => Own W g t cs) := fun _ _ _ _ hs hg hrow =>
  Own.grown hs hg (fun e => by
    obtain ⟨o, ho, hc⟩ := hrow g e.symm
    rw [show _ = _ from hs] at ho
    cases ho
    cases hc)
theorem kpR_t {n₀ : Nat} {A B C : World} (h : KpR n₀ A B) (k : KpR n₀ B C) : KpR n₀ A C := ⟨h.1.trans k.1, h.2.trans k.2⟩
theorem kpR_b {n₀ : Nat} {w : World} (hn : n₀ ≤ w.heap.size) (W : World) (l : Nat) (o o' : Obj) (hl : w.heap.size ≤ l) (h : W.heap[l]? = some o) (h1 : o.isCells = false) (h2 : o.isWalk = false) : KpR n₀ W (W.putObj l o') := by
  refine ⟨belowK_b hn W l o o' hl h h1 h2, (grownBy_putObj' W l o').size, fun k ob hk hw => ?_⟩
  refine ((grownBy_putObj' W l o').block k (Array.getElem?_eq_some_iff.1 hk).1 (fun e => ?_)).trans hk
  cases e
  rw [h] at hk
  cases hk
  rw [h2] at hw
  cases hw
/-- Between two rounds. -/
structure UnI (w : World) (v : Value) (pre : List RtK) (W : World) : Prop where
  box : Boxed W w.heap.size 22 v
  row : W.ownsRow w.heap.size 31 19 v pre.length (flatR (vals pre))
  bel : Below w.heap.size w W
theorem un_types : 22 ≠ 31 := by decide
theorem unI_own {w : World} {B : Nat} (hB : w.heap.size ≤ B) : OwnFrom B (fun pre W => ∃ v, UnI w v pre W) := by
  rintro s X Y row ⟨v, hI⟩ hg hr
  refine ⟨v, (own_cellsR w.heap.size 22 #[v]).from B () X Y row hI.box hg hr, row_rest hI.row (Rest.of_grown hg (P := fun i => row = some i) (fun j e => e)) (fun j hj e => ?_), ownFrom_below (β := Unit) (Nat.le_refl _) hB () X Y row hI.bel hg hr⟩
  obtain ⟨⟨cs', hc⟩, _⟩ := row_typed hI.row hj
  obtain ⟨o, ho, hoc⟩ := (hr j e).2
  rw [show X.heap[j]? = _ from hc] at ho
  cases ho
  cases hoc
theorem unI_below {w W X : World} {v : Value} {pre : List RtK} (hI : UnI w v pre W) (hb : Below W.heap.size W X) : UnI w v pre X :=
  ⟨(hb.block _ (show Own W w.heap.size _ #[_] from hI.box).lt).trans hI.box, row_rest hI.row (Rest.of_below hb (fun _ => False)) (fun _ _ h => h), bl_trans hI.bel hb⟩
theorem un_end {w W W2 w5 : World} {v v5 : Value} {pre : List RtK} {x : RtK} {B : Nat} (hI : UnI w v pre W) (hb : Below W.heap.size W W2) (hko : KeepsOthers W W2)
    (ho5 : w5.ownsRow w.heap.size 31 19 v5 (pre.length + 1) (flatR (vals pre) ++ (rt x.1).toList)) (hg5 : W2.grownBy w5 v.ownBlock) :
    KeepsFrom B W (w5.setCell ⟨w.heap.size, 0, none⟩ v5) ∧ KpR w.heap.size W (w5.setCell ⟨w.heap.size, 0, none⟩ v5) ∧ ∃ u, UnI w u (pre ++ [x]) (w5.setCell ⟨w.heap.size, 0, none⟩ v5) := by
  have h2 := unI_below hI hb
  have hT : ∀ i, v.ownBlock = some i → Typed W2 i 31 ∧ w.heap.size ≤ i := fun i hi => row_typed h2.row hi
  have k5 : KeepsOthers W2 w5 := KeepsOthers.of_grownBy hg5 (fun j o hj ho => by
    obtain ⟨⟨cs', hc⟩, _⟩ := hT j hj
    rw [hc] at ho
    cases ho
    rfl)
  have kall := (hko.trans k5).trans (KeepsOthers.setCell w5 ⟨w.heap.size, 0, none⟩ v5)
  have hbx : Boxed w5 w.heap.size 22 v := h2.box.kept hg5 (fun e => (hT _ e.symm).1.ne ⟨_, h2.box⟩ (Ne.symm un_types) rfl)
  have hb5 : Below w.heap.size W w5 := (hb.mono hI.bel.size).grown hg5 (Nat.le_trans hI.bel.size hb.size) (fun j e => (hT j e).2)
  have hb6 := hb5.setCell (p := ⟨w.heap.size, 0, none⟩) (Nat.le_refl _) v5
  refine ⟨kall.from B, ⟨hb6, kall.walks⟩, v5, hbx.set v5, ?_, hI.bel.trans hb6⟩
  have h6 := row_rest ho5 (Rest.setCell w5 ⟨w.heap.size, 0, none⟩ v5) (fun j hj e => (row_typed ho5 hj).1.ne ⟨_, hbx⟩ (Ne.symm un_types) e)
  have e : flatR (vals (pre ++ [x])) = flatR (vals pre) ++ (rt x.1).toList := by
    rw [vals_app]
    simp [flatR]
  rw [List.length_append, e]
  exact h6
set_option maxRecDepth 100000 in
set_option maxHeartbeats 3200000 in
theorem nunique_any (A : Option Addr) (m c : Nat) (rs : List Rt) (w : World) (hU : Routes w w.heap.size A m rs) (hK : ∀ r ∈ rs, KR r) (hm : m ≤ 100000) :
    Calls Try.prog 6 #[.slice A m c] w fun e w' => ∃ v, e = .returned v ∧ w'.ownsRow w.heap.size 31 19 v (uniqR rs).length (flatR (uniqR rs)) ∧ Below w.heap.size w w' := by
  have hFr := Lib.hid (fun W => fresh_any A m c W)
  have hSt := Lib.hid (fun (Bn : Nat) (W : World) (hBn : Boxed W Bn 22 (.slice A m c)) (hU : Routes W w.heap.size A m rs) (hn0 : w.heap.size ≤ W.heap.size) => fresh_stops 8 (by omega) Bn w.heap.size A m c rs hK (by omega) W hBn hU hn0)
  have HU := Lib.hid hU
  clear hU hK
  refine (callsIn_wide (n := 9)).1 ?_
  refine callsIn_of_wp_marks Try.func6 rfl trivial ?_ rfl
  simp only [Try.ntmps6, List.size_toArray, List.length_cons, List.length_nil, Nat.reduceAdd, Nat.reduceSub, Array.replicate_succ, Array.replicate_zero, List.push_toArray, List.append_toArray, List.nil_append, List.cons_append]
  gi_wp2_with (refine ⟨trivial, ?_⟩; gi_at_call 14; refine (callsIn_wide.2 (hFr.out _)).mono ?_; rintro e w' ⟨rfl, rfl⟩)
  have bO := (Boxed.new w 22 (.slice none 0 0)).alloc (.cells #[.slice A m c] 22)
  have bB := Boxed.new (w.alloc (.cells #[.slice none 0 0] 22)) 22 (.slice A m c)
  have hB0 := bl_alloc (bl_alloc (bl_refl w) (.cells #[.slice none 0 0] 22)) (.cells #[.slice A m c] 22)
  have hsz : ((w.alloc (.cells #[.slice none 0 0] 22)).alloc (.cells #[.slice A m c] 22)).heap.size = w.heap.size + 2 := by simp
  rw [World.size_alloc] at bB
  generalize (w.alloc (.cells #[.slice none 0 0] 22)).alloc (.cells #[.slice A m c] 22) = W0 at *
  refine wpIn_rangeFunc_ownH rfl (by omega) (gf := 22) (lb := #[.pointer (some ⟨w.heap.size + 1, 0, none⟩)]) rfl trivial (enters_of Try.func22 (by kernel_rfl) rfl)
    (hSt.out (w.heap.size + 1) W0 bB (HU.out.below hB0) hB0.size) (fun h k => kpR_t h k) (kpR_b hB0.size) (Below.refl _ _) (fun _ => rfl)
    (fun pre W => ∃ v, UnI w v pre W)
    (fun _ _ _ => False)
    (unI_own hB0.size)
    (fun _ _ _ _ _ hs _ _ => hs)
    ⟨.slice none 0 0, bO, World.ownsRow_nil _ _ _ _, hB0⟩
    (fun x a' W => ∃ Bx, Own W Bx 31 (rt x.1) ∧ a' = { tmps := #[.slice A m c, undef, .slice none 0 0, .pointer (some ⟨w.heap.size, 0, none⟩), .pointer (some ⟨Bx, 0, none⟩), .slice A m c, .func (.func 22) #[] #[.pointer (some ⟨w.heap.size + 1, 0, none⟩)], .agg (rt x.1), undef, undef, undef, undef, undef], defers := [] })
    (fun x a' _ X Y row hs hg hr => by obtain ⟨Bx, h1, h2⟩ := hs; exact ⟨Bx, (own_cellsR _ _ _).from _ () X Y row h1 hg hr, h2⟩)
    ?assign ?body ?done ?stop
  case assign =>
    rintro l pre x W K ⟨v, hI⟩ hK
    unfold rtEnc
    have ho' := (Own.new W 31 #[.int .u32 0, .int .i64 0, .int .i64 0, .int .u8 0, .int .u8 0, .int .u8 0, .int .u8 0, .int .u8 0, .int .u8 0, .int .u8 0, .int .u8 0, .int .u8 0, .int .u8 0, .int .u8 0, .int .u8 0, .int .u8 0, .int .u8 0, .int .u8 0, .int .u8 0])
    have hi20 := rt_info x.2.1.1.1
    have hs19 := rt_size x.2.1.1.1
    have hb1 : Below W.heap.size W ((W.alloc (.cells #[.int .u32 0, .int .i64 0, .int .i64 0, .int .u8 0, .int .u8 0, .int .u8 0, .int .u8 0, .int .u8 0, .int .u8 0, .int .u8 0, .int .u8 0, .int .u8 0, .int .u8 0, .int .u8 0, .int .u8 0, .int .u8 0, .int .u8 0, .int .u8 0, .int .u8 0] 31)).setRow W.heap.size (rt x.1)) := bl_setRow (cs := rt x.1) (bl_alloc (bl_refl W) (.cells #[.int .u32 0, .int .i64 0, .int .i64 0, .int .u8 0, .int .u8 0, .int .u8 0, .int .u8 0, .int .u8 0, .int .u8 0, .int .u8 0, .int .u8 0, .int .u8 0, .int .u8 0, .int .u8 0, .int .u8 0, .int .u8 0, .int .u8 0, .int .u8 0, .int .u8 0] 31)) (Nat.le_refl _)
    have ho := ho'.setRow (cs' := rt x.1)
    have hko : KeepsOthers W ((W.alloc (.cells #[.int .u32 0, .int .i64 0, .int .i64 0, .int .u8 0, .int .u8 0, .int .u8 0, .int .u8 0, .int .u8 0, .int .u8 0, .int .u8 0, .int .u8 0, .int .u8 0, .int .u8 0, .int .u8 0, .int .u8 0, .int .u8 0, .int .u8 0, .int .u8 0, .int .u8 0] 31)).setRow W.heap.size (rt x.1)) := ⟨hb1.size, fun k o hk _ => (hb1.block k (Array.getElem?_eq_some_iff.1 hk).1).trans hk⟩
    gi_wp2_with (refine list_round (fun ⟨_, _, hq⟩ => hq) _ rfl _ _ ?_)
    go_wp2_with (refine wpList_store_row rfl 31 _ _ rfl W.heap.size (rt x.1) rfl rfl 31 #[.int .u32 0, .int .i64 0, .int .i64 0, .int .u8 0, .int .u8 0, .int .u8 0, .int .u8 0, .int .u8 0, .int .u8 0, .int .u8 0, .int .u8 0, .int .u8 0, .int .u8 0, .int .u8 0, .int .u8 0, .int .u8 0, .int .u8 0, .int .u8 0, .int .u8 0] ho' hi20 (by rw [hs19]; rfl) (rt_one _) ?_)
    exact hK _ _ (hko.from _) ⟨hb1.mono hI.bel.size, hko.walks⟩ ⟨v, unI_below hI hb1⟩ ⟨W.heap.size, ho, rfl⟩
  case body =>
    rintro l pre x a' W hl _ ⟨v, hI⟩ ⟨Bx, oX, rfl⟩ hlt
    have hi20 := rt_info x.2.1.1.1
    have hl19 := Lib.hid (show (rt x.1).toList.length = 1 * 19 by rw [Array.length_toList, rt_size x.2.1.1.1])
    have c0 := hI.box.cell
    have hb6 := bl_alloc (bl_refl W) (.cells (rt x.1) 31)
    have h6 := unI_below hI hb6
    have hko : KeepsOthers W (W.alloc (.cells (rt x.1) 31)) := KeepsOthers.alloc _ _
    have o6 := Own.new W 31 (rt x.1)
    have hsh := Shows.of_owned (xs := (rt x.1).toList) o6 (Nat.lt_succ_self _)
    have hbs := Nat.le_trans hI.bel.size hb6.size
    gi_wp2_with (refine list_round (fun ⟨_, _, hq⟩ => hq) _ rfl _ _ ?_)
    go_wp2_with (first
      | (refine wpList_load_row rfl 31 _ rfl Bx rfl 31 (rt x.1) (0, 0) (.struct (Try.prog.fieldsOf 31)) oX rt_desc rfl hi20 ?_)
      | (refine wpList_build_route rfl _ rfl x.1 x.2.1.1.1 (by simp only [List.map_toArray, List.map_cons, List.map_nil]; rfl) ?_)
      | (at_builtin; refine wpList_append_grow _ rfl _ _ rfl sl_routes w.heap.size _ _ _ rfl h6.row _ _ 1 1 (rt x.1).toList rfl hl19.out hsh rt_one_mem (by unfold maxLen; omega) (by omega) hbs ?_; intro v5 w5 ho5 hg5; obtain ⟨A5, c5, rfl⟩ := own_form ho5; have hfin := un_end (B := w.heap.size + 2) hI hb6 hko ho5 hg5; have hbx := h6.box.kept hg5 (fun e => (row_typed h6.row e.symm).1.ne ⟨_, h6.box⟩ (Ne.symm un_types) rfl); have c5' := hbx.cell; have f5 := hbx.frozen))
    exact hfin
  case done =>
    rintro D zs W hD hzs ⟨v, hI⟩ hK
    have c0 := hI.box.cell
    have hO := Lib.hid hzs
    have HI := Lib.hid hI
    clear hzs hI
    gi_wp2
    refine ⟨by simp, .inl ⟨_, _, rfl, run_takeDeferred hK, ?_⟩⟩
    have hrow := HI.out.row
    have hl : zs.length = (uniqR rs).length := by rw [← hO.out, vals_len]
    rw [hO.out, hl] at hrow
    have hg := grownBy_putObj' W D (.deferred none)
    refine ⟨_, results_tmp rfl _ _ _, _, rfl, row_rest hrow (Rest.of_grown hg (P := fun i => i = D) (fun j e => by cases e; rfl)) (fun j hj e => ?_), HI.out.bel.trans (belowK_b hB0.size W D _ _ hD hK rfl rfl)⟩
    obtain ⟨⟨cs', hc⟩, _⟩ := row_typed hrow hj
    subst e
    rw [hK] at hc
    cases hc
  case stop =>
    rintro D c pre W _ _ h _
    exact h.elim
end Go.Proofs.Ytmicpiaflgfojaa

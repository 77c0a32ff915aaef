/- flag.Types -/
import Derived.Test.YtngeldgohijheaaDoorFnA
import Derived.Test.YtngeldgohijheaaDoorFnI
import Derived.Test.YtngeldgohijheaaDoorShelf
import Derived.Test.YtngeldgohijheaaDoorStepG
import Derived.RangeFuncCalls
import Derived.WalkKit
import Derived.OwnWalkIn
import Derived.TacticsInMore
namespace Go.Proofs.YtngeldgohijheaaDoor
open Go.RowKit Go.Maps Go.Sort Go.Shelf

def I64s (w : World) (B : Nat) (A : Option Addr) (n : Nat) (ls : List Int) : Prop := n = ls.length ∧ Shows w B A (ls.map (Value.int .i64))
theorem I64s.below {w w' : World} {B n : Nat} {A : Option Addr} {ls : List Int} (h : I64s w B A n ls) (hb : Below B w w') : I64s w' B A n ls := ⟨h.1, h.2.below hb⟩
theorem I64s.more {w : World} {B B' n : Nat} {A : Option Addr} {ls : List Int} (h : I64s w B A n ls) (hB : B ≤ B') : I64s w B' A n ls := ⟨h.1, h.2.more hB⟩
set_option maxRecDepth 100000 in
/-- slices.Contains at whatever slice. -/
theorem contains_any (A : Option Addr) (n c : Nat) (zs : List Int) (x : Int) (w : World) (B : Nat) (h : I64s w B A n zs) (hn : n ≤ 1000000) :
    Calls Tryd.prog 31 #[.slice A n c, .int .i64 x] w fun e w' => e = .returned (.bool (zs.contains x)) ∧ w' = w := by
  rcases h.2 with h0 | ⟨b, o, rfl, _, hc⟩
  · rw [List.map_eq_nil_iff] at h0
    subst h0
    have := h.1
    simp at this
    subst this
    exact Tryd.slices_Contains_int_empty A c x w
  · refine (Tryd.slices_Contains_int b o n c zs x w (by rw [h.1]; exact Nat.le_refl _) (by omega) (fun j hj => ?_)).mono ?_
    · exact hc j _ (by rw [List.getElem?_map, List.getElem?_eq_getElem hj]; simp [List.getD, List.getElem?_eq_getElem hj])
    · rintro e w' ⟨rfl, rfl⟩
      exact ⟨by rw [h.1, List.take_length], rfl⟩
abbrev Z64 := {x : Int // (Lit.int .i64 x).wf = true}
instance : Inhabited Z64 := ⟨⟨0, rfl⟩⟩
def encW (x : Z64) : Value := .int .i64 x.1
set_option maxRecDepth 100000 in
theorem types1_any (A6 : Option Addr) (n6 c6 : Nat) (zs : List Int) (x : Z64) (B1 B2 mb B : Nat) (W : World) (h1 : W.cell? ⟨B1, 0, none⟩ = some (.slice A6 n6 c6)) (h2 : W.cell? ⟨B2, 0, none⟩ = some (.map (some mb))) (h3 : W.ownsMap Tryd.prog 3 (plainElem Tryd.prog 3) mb 16 clsMap) (h4 : I64s W B A6 n6 zs) (hn : n6 ≤ 1000) :
    FnGives Tryd.prog 59 #[.pointer (some ⟨B1, 0, none⟩), .pointer (some ⟨B2, 0, none⟩)] #[encW x] (.bool (!zs.contains (flagCls x.1))) W := by
  obtain ⟨cc, hlk, hat, _⟩ := h3.lookup_int int_key Tryd.underlying82 Tryd.underlying3 (by kernel_rfl) (keyOf_int_mk Tryd.underlying3 x.2)
  rw [(clsMap_at x.1).1] at hat
  have hcc : cc = flagCls x.1 := by injection hat with e; injection e with _ e2; exact e2.symm
  subst hcc
  have hC := Lib.hid (contains_any A6 n6 c6 zs (flagCls x.1) W B h4 (by omega))
  unfold encW
  show Calls Tryd.prog 59 #[.int .i64 x.1, .pointer (some ⟨B1, 0, none⟩), .pointer (some ⟨B2, 0, none⟩)] W _
  generalize flagCls x.1 = cl at *
  generalize x.1 = xv at *
  clear h3 h4 hat
  go_enter Tryd.func59, Tryd.ntmps59
  go_wp2_with fail
  refine hC.out.mono ?_
  rintro e w' ⟨rfl, rfl⟩
  go_wp2
  go_ret
  exact ⟨by show Ending.returned (Value.bool _) = _; simp, 0, rfl⟩
def KS : List Int := [1, 2, 3, 4, 5, 6, 7, 8, 9, 10, 14, 15, 16, 17, 18, 32]
theorem keys_cls : intKeys clsMap = KS := rfl
theorem ks_sort : KS.mergeSort (fun x y => decide (x ≤ y)) = KS := List.mergeSort_of_pairwise (by unfold KS; decide)
set_option maxRecDepth 100000 in
theorem sorts_in (m : Nat) : AnyZI.SortsIn Tryd.prog Tryd.sortedA_ren Fence.wide m :=
  ⟨fun blk off cap ss W hH hblk hsz => callsIn_wide.2 (Tryd.slices_Sort_int blk off cap ss W hH hblk hsz),
   fun p cap W => callsIn_wide.2 (AnyM.slices_Sort_int_none Tryd.sortA p cap W)⟩
set_option maxRecDepth 100000 in
set_option maxHeartbeats 1000000 in
theorem sorted_any (W : World) (mb : Nat) (hown : W.ownsMap Tryd.prog 3 (plainElem (H := Unit) Tryd.prog 3) mb 16 clsMap) :
    CallsIn Fence.wide 5 Tryd.prog 61 #[.func (.func 81) #[] #[.pointer (some ⟨W.heap.size, 0, none⟩)]] (W.alloc (.cells #[.map (some mb)] 82)) fun e w' => ∃ v, e = .returned v ∧ w'.ownsRow W.heap.size 3 1 v 16 (KS.map (Value.int .i64)) ∧ Below W.heap.size W w' := by
  have hbl := hown.lt
  have hseq : SeqGives Fence.wide 2 Tryd.prog 81 #[.pointer (some ⟨W.heap.size, 0, none⟩)] encZ (fun ss => ss.Perm (intKeys clsMap)) (Maps.size clsMap) (W.alloc (.cells #[.map (some mb)] 82)) :=
    AnyZI.keys_gives (ρ := Tryd.keysA_ren) { Tryd.keysA with } Fence.wide _ trivial rfl (by omega) W.heap.size mb 16 clsMap _ (by simp) (by simp) (by
      obtain ⟨es, clock, hb, Ft, hs, hD⟩ := hown
      exact ⟨es, clock, (Below.heap_alloc _ _ mb hbl).trans hb, Ft, hs, hD⟩)
  have hsz : Maps.size clsMap = 16 := rfl
  have cS := AnyZI.sorted_in Tryd.sortedA Fence.wide 5 trivial trivial trivial trivial rfl (by omega) (sorts_in _) (enters_of Tryd.func80 (by kernel_rfl) rfl) 81 #[.pointer (some ⟨W.heap.size, 0, none⟩)] trivial (enters_of Tryd.func81 (by kernel_rfl) rfl) _ _ (by rw [hsz]; unfold maxLen; omega) (by rw [hsz]; omega) _ hseq
  change CallsIn _ _ Tryd.prog 61 _ _ _ at cS
  refine cS.mono ?_
  rintro e w' ⟨v, ss, rfl, hS, hrow, hnil, hb⟩
  have h1 : ss.mergeSort (fun x y => decide (x ≤ y)) = KS := by
    rw [keys_cls] at hS
    exact (mergeSort_of_perm_i hS).trans ks_sort
  have h2 : ss.length = 16 := by rw [hS.length_eq]; rfl
  rw [h1, h2] at hrow
  exact ⟨v, rfl, own_leG hrow (by simp), ((Below.refl _ W).alloc (Nat.le_refl _) _).trans (hb.mono (by simp))⟩
/-- The types of some classes. -/
def tyL (zs : List Int) : List Int := KS.filter fun k => zs.contains (flagCls k)
def KZ : List Z64 := [⟨1, rfl⟩, ⟨2, rfl⟩, ⟨3, rfl⟩, ⟨4, rfl⟩, ⟨5, rfl⟩, ⟨6, rfl⟩, ⟨7, rfl⟩, ⟨8, rfl⟩, ⟨9, rfl⟩, ⟨10, rfl⟩, ⟨14, rfl⟩, ⟨15, rfl⟩, ⟨16, rfl⟩, ⟨17, rfl⟩, ⟨18, rfl⟩, ⟨32, rfl⟩]
theorem kz_vals : KZ.map (fun x => x.1) = KS := rfl
theorem kz_filter (zs : List Int) : (KZ.filter fun x => !(!zs.contains (flagCls x.1))).map encW = (tyL zs).map (Value.int .i64) := by
  unfold tyL
  rw [← kz_vals, List.filter_map, List.map_map]
  congr 1
  apply List.filter_congr
  intro x _
  simp
theorem kz_len (zs : List Int) : (KZ.filter fun x => !(!zs.contains (flagCls x.1))).length = (tyL zs).length := by
  have h := congrArg List.length (kz_filter zs)
  rwa [List.length_map, List.length_map] at h
theorem below_put {B blk : Nat} (w : World) (hB : B ≤ blk) (n : Nat) (d : Array Z64) : Below B w (putRow encW (Sort.ahead w n) blk 0 d) :=
  ⟨rfl, rfl, rfl, Nat.le_of_eq (by rw [size_putRow]; rfl), fun k hk => by
    unfold putRow mapBlock
    show (Array.modify _ _ _)[k]? = _
    rw [Array.getElem?_modify, if_neg (by omega)]
    rfl⟩
theorem below_sw {B blk : Nat} (w : World) (hB : B ≤ blk) (hBw : B ≤ w.heap.size) (n : Nat) (d : Array Z64) (os : Array Obj) : Below B w (sortWorld encW w blk 0 n d os) := by
  have h := below_put w hB n d
  exact ⟨h.os, h.tape, h.output, Nat.le_trans h.size (by show _ ≤ (_ ++ os).size; rw [Array.size_append]; exact Nat.le_add_right _ _), fun k hk => (heap_grow_old _ os (Nat.lt_of_lt_of_le hk (Nat.le_trans hBw h.size))).trans (h.block k hk)⟩
set_option maxRecDepth 100000 in
/-- slices.DeleteFunc over the sorted keys. -/
theorem del_any (A6 : Option Addr) (n6 c6 : Nat) (zs : List Int) (B1 B2 mb B blk cap : Nat) (w : World) (h1 : w.cell? ⟨B1, 0, none⟩ = some (.slice A6 n6 c6)) (h2 : w.cell? ⟨B2, 0, none⟩ = some (.map (some mb))) (h3 : w.ownsMap Tryd.prog 3 (plainElem Tryd.prog 3) mb 16 clsMap) (h4 : I64s w B A6 n6 zs) (hn : n6 ≤ 1000)
    (hrow : w.ownsRow B 3 1 (.slice (some ⟨blk, 0, none⟩) 16 cap) 16 (KS.map (Value.int .i64))) (hB1 : B1 < B) (hB2 : B2 < B) (hmb : mb < B) (hBw : B ≤ w.heap.size) :
    Calls Tryd.prog 60 #[.slice (some ⟨blk, 0, none⟩) 16 cap, .func (.func 59) #[] #[.pointer (some ⟨B1, 0, none⟩), .pointer (some ⟨B2, 0, none⟩)]] w fun e w' =>
      e = .returned (.slice (some ⟨blk, 0, none⟩) (tyL zs).length cap) ∧ I64s w' w'.heap.size (some ⟨blk, 0, none⟩) (tyL zs).length (tyL zs) ∧ Below B w w' := by
  have eg : ∀ args w, (callFunc 59 args).run Tryd.prog w = .ok (.enter 59 args) w := enters_of Tryd.func59 (by kernel_rfl) rfl
  obtain ⟨hblk, hH⟩ : B ≤ blk ∧ blk < w.heap.size ∧ Holds encW w blk 0 KZ.toArray ∧ 16 ≤ cap := by
    rcases hrow.2 with ⟨e, _⟩ | ⟨g, cap', cur, hv, hb, hg, hc1, _, _, htk⟩
    · cases e
    · cases hv
      have ho : Own w blk 3 cur := hg
      refine ⟨hb, ho.lt, fun j hj => ⟨?_, by rw [Nat.zero_add]; exact ho.frozen j⟩, hc1⟩
      have hj16 : j < 16 := by simpa [KZ] using hj
      rw [Nat.zero_add, cell_of_row w blk j cur 3 (0, 0) hg]
      have h5 := congrArg (fun l => l[j]?) htk
      simp only [Nat.mul_one, List.getElem?_take, hj16, if_true] at h5
      rw [← Array.getElem?_toList, h5, ← kz_vals, List.map_map, List.getElem?_map, List.getElem?_eq_getElem (by simpa [KZ] using hj16), Option.map_some]
      congr 1
      rw [getElem!_pos KZ.toArray j hj]
      rfl
  have hmp : ∀ W, Below B w W → W.ownsMap Tryd.prog 3 (plainElem (H := Unit) Tryd.prog 3) mb 16 clsMap := fun W hW => by
    obtain ⟨es, clock, hb', F, hs, hD⟩ := h3
    exact ⟨es, clock, (hW.block mb hmb).trans hb', F, hs, hD⟩
  have hgv : ∀ W x, Below B w W → FnGives Tryd.prog 59 #[.pointer (some ⟨B1, 0, none⟩), .pointer (some ⟨B2, 0, none⟩)] #[encW x] (.bool (!zs.contains (flagCls x.1))) W := fun W x hW =>
    types1_any A6 n6 c6 zs x B1 B2 mb B W ((hW.cell (p := ⟨B1, 0, none⟩) hB1).trans h1) ((hW.cell (p := ⟨B2, 0, none⟩) hB2).trans h2) (hmp W hW) (h4.below hW) hn
  have hcon := AnyE.slices_DeleteFunc Tryd.delA encW (fun _ => rfl) (fun x => !zs.contains (flagCls x.1)) 59 #[.pointer (some ⟨B1, 0, none⟩), .pointer (some ⟨B2, 0, none⟩)] eg ⟨0, rfl⟩ Tryd.zeroValue3 blk 0 cap KZ.toArray w
    (fun W x hb => hgv W x (hb.mono hBw)) (fun nn os dk x hdk => hgv _ x (below_sw w hblk hBw nn dk os)) hH.2.1 (by simp [KZ]) hH.2.2
  change Calls Tryd.prog 60 _ _ _ at hcon
  have hl := kz_len zs
  have hf := kz_filter zs
  have hle := List.length_filter_le (fun x : Z64 => !(!zs.contains (flagCls x.1))) KZ
  rw [show KZ.toArray.toList = KZ from rfl] at hcon
  generalize KZ.filter (fun x => !(!zs.contains (flagCls x.1))) = F at *
  refine hcon.mono ?_
  rintro e w' ⟨rfl, q, rfl⟩
  have hk16 : KZ.length = 16 := rfl
  have hsz : (F ++ List.replicate (KZ.toArray.size - F.length) (⟨0, rfl⟩ : Z64)).toArray.size = KZ.toArray.size := by
    rw [List.size_toArray, List.length_append, List.length_replicate, List.size_toArray]
    omega
  have hh := holds_putRow encW _ blk 0 KZ.toArray _ (holds_ahead encW w q blk 0 _ hH.2.1) hsz
  refine ⟨by rw [← hl], ⟨rfl, .inr ⟨blk, 0, rfl, by rw [size_putRow]; exact hH.1, fun j v hv => ?_⟩⟩, below_put w hblk q _⟩
  rw [← hf, List.getElem?_map] at hv
  obtain ⟨x, hx, rfl⟩ := Option.map_eq_some_iff.1 hv
  have hj := (List.getElem?_eq_some_iff.1 hx).1
  have hj2 : j < (F ++ List.replicate (KZ.toArray.size - F.length) (⟨0, rfl⟩ : Z64)).toArray.size := by rw [hsz, List.size_toArray]; omega
  have e : (F ++ List.replicate (KZ.toArray.size - F.length) (⟨0, rfl⟩ : Z64)).toArray[j]! = x := by
    rw [getElem!_pos _ j hj2]
    have h1 : (F ++ List.replicate (KZ.toArray.size - F.length) (⟨0, rfl⟩ : Z64))[j]? = some x := by rw [List.getElem?_append_left hj]; exact hx
    rw [List.getElem_toArray]
    exact (List.getElem?_eq_some_iff.1 h1).2
  refine (hh j hj2).1.trans ?_
  rw [e]
theorem row16 {w : World} {base : Nat} {v : Value} {xs : List Value} (h : w.ownsRow base 3 1 v 16 xs) : ∃ blk cap, v = .slice (some ⟨blk, 0, none⟩) 16 cap := by
  rcases h.2 with ⟨_, h0⟩ | ⟨g, cap, cur, hv, _⟩
  · omega
  · exact ⟨g, cap, hv⟩
set_option maxRecDepth 100000 in
theorem map_bel {w w' : World} {B b n : Nat} {D : DataW Unit} (h : w.ownsMap Tryd.prog 3 (plainElem Tryd.prog 3) b n D) (hb : Below B w w') (hl : b < B) : w'.ownsMap Tryd.prog 3 (plainElem Tryd.prog 3) b n D := by
  obtain ⟨es, clock, hb', F, hs, hD⟩ := h
  exact ⟨es, clock, (hb.block b hl).trans hb', F, hs, hD⟩
set_option maxRecDepth 100000 in
set_option maxHeartbeats 1600000 in
theorem types_any (A6 : Option Addr) (n6 c6 : Nat) (zs : List Int) (w : World) (h : I64s w w.heap.size A6 n6 zs) (hn : n6 ≤ 1000) :
    Calls Tryd.prog 35 #[.slice A6 n6 c6] w fun e w' => ∃ A c, e = .returned (.slice A (tyL zs).length c) ∧ I64s w' w'.heap.size A (tyL zs).length (tyL zs) ∧ Below w.heap.size w w' := by
  have hCl := Lib.hid (fun W => classes_any W)
  have hDel := Lib.hid (fun (mb B blk cap B2 : Nat) (W : World) h1 h2 h3 h4 hrow hB1 hB2 hmb hBw => del_any A6 n6 c6 zs w.heap.size B2 mb B blk cap W h1 h2 h3 h4 hn hrow hB1 hB2 hmb hBw)
  have hK : ∀ mb W, CallsIn Fence.wide 5 Tryd.prog 62 #[.map mb] W fun e w' => e = .returned (.func (.func 81) #[] #[.pointer (some ⟨W.heap.size, 0, none⟩)]) ∧ w' = W.alloc (.cells #[.map mb] 82) := fun mb W => AnyZI.keys_in Tryd.keysA Fence.wide 5 trivial rfl mb W
  have HK := Lib.hid hK
  have HX := Lib.hid h
  clear h hK
  have b0 := (Own.new w 38 #[.slice A6 n6 c6]).cell (i := 0) (v := .slice A6 n6 c6) rfl
  have hb0 := bl_alloc (bl_refl w) (.cells #[.slice A6 n6 c6] 38)
  refine (callsIn_wide (n := 6)).1 ?_
  refine callsIn_of_wp Tryd.func35 rfl trivial ?_ rfl
  simp only [Tryd.ntmps35, List.size_toArray, List.length_cons, List.length_nil, Nat.reduceAdd, Nat.reduceSub, Array.replicate_succ, Array.replicate_zero, List.push_toArray, List.append_toArray, List.nil_append, List.cons_append]
  gi_wp2_with (first
    | (refine ⟨trivial, ?_⟩; gi_at_call 58; refine (callsIn_wide.2 (hCl.out _)).mono ?_; rintro e w1 ⟨mb, rfl, hm, hb1⟩; have hm2 := hm.alloc (.cells #[.map (some mb)] 82); have o2 := Own.new w1 82 #[.map (some mb)]; have c2 := o2.cell (i := 0) (v := .map (some mb)) rfl; have hSo := sorted_any (w1.alloc (.cells #[.map (some mb)] 82)) mb hm2; rw [World.size_alloc] at hSo)
    | (refine ⟨trivial, ?_⟩; gi_at_call 61; refine hSo.mono ?_; rintro e w4 ⟨v, rfl, hrow, hb4⟩; obtain ⟨blk, cap, rfl⟩ := row16 hrow; have hbW := (hb0.trans (hb1.mono hb0.size)).trans (((Below.refl _ w1).alloc (Nat.le_refl _) (.cells #[.map (some mb)] 82)).mono (hb0.trans (hb1.mono hb0.size)).size); have hs1 := hb1.size; have hs4 := hb4.size)
    | (refine ⟨trivial, ?_⟩; gi_at_call 60; refine (callsIn_wide.2 (hDel.out mb (w1.heap.size + 1) blk cap w1.heap.size w4 ((hb4.cell (p := ⟨w.heap.size, 0, none⟩) (by dsimp only; simp at hs1; omega)).trans (((bl_alloc (bl_refl w1) _).cell (p := ⟨w.heap.size, 0, none⟩) (by dsimp only; simp at hs1; omega)).trans ((hb1.cell (p := ⟨w.heap.size, 0, none⟩) (by simp)).trans b0))) ((hb4.cell (p := ⟨w1.heap.size, 0, none⟩) (by dsimp only; omega)).trans c2) (map_bel hm2 hb4 (by have := hm.lt; omega)) (((HX.out.below hbW).below (hb4.mono (by simp at hs1; omega))).more (by simp at hs1; omega)) hrow (by simp at hs1; omega) (by omega) (by have := hm.lt; omega) (by simp at hs4; omega))).mono ?_; rintro e w5 ⟨rfl, hL, hb5⟩)
    | (refine ⟨trivial, ?_⟩; gi_at_call 62; refine (HK.out _ _).mono ?_; rintro e w' ⟨rfl, rfl⟩))
  go_ret
  exact ⟨_, _, rfl, hL, (hbW.trans (hb4.mono (by simp at hs1; omega))).trans (hb5.mono (by simp at hs1; omega))⟩
end Go.Proofs.YtngeldgohijheaaDoor

/- capability.groups: the groups of four that it hands out one after another -/
import Derived.Test.YtniheakafkakhaaCqA
import Derived.Test.YtniheakafkakhaaRnd
import Derived.StillTailTactics
import Derived.Laws.CopyOwn
import Derived.RangeFuncBound
import Derived.RangeFuncCalls
import Derived.RangeFuncLeaves
import Derived.Shelf.Abstract
import Derived.Shelf.RegionOpen
import Derived.WalkKit
import Derived.OwnWalkIn
import Derived.TacticsInMore
import Derived.LoopNIn
import Derived.LoopIn
namespace Go.Proofs.Ytniheakafkakhaa
open Go.RowKit Go.Shelf

attribute [local go_sem] Oper.semAt_some

/-- What a round keeps: what lay below n₀, and all blocks of cells. -/
def KpC (n₀ : Nat) (W W' : World) : Prop := Below n₀ W W' ∧ ∀ (i : Nat) (o : Obj), W.heap[i]? = some o → o.isCells = true → W'.heap[i]? = some o
theorem kpC_t {n₀ : Nat} {A B C : World} (h : KpC n₀ A B) (k : KpC n₀ B C) : KpC n₀ A C := ⟨h.1.trans k.1, fun i o h1 h2 => k.2 i o (h.2 i o h1 h2) h2⟩
theorem kpC_refl (n₀ : Nat) (W : World) : KpC n₀ W W := ⟨Below.refl _ _, fun _ _ h _ => h⟩
theorem kpC_below {n₀ : Nat} {W W' : World} (h : Below W.heap.size W W') (hn : n₀ ≤ W.heap.size) : KpC n₀ W W' := ⟨h.mono hn, fun i _ h1 _ => (h.block i (Array.getElem?_eq_some_iff.1 h1).1).trans h1⟩
theorem kpC_b {n₀ : Nat} {w : World} (hn : n₀ ≤ w.heap.size) (W : World) (l : Nat) (o o' : Obj) (hl : w.heap.size ≤ l) (h : W.heap[l]? = some o) (h1 : o.isCells = false) (_h2 : o.isWalk = false) : KpC n₀ W (W.putObj l o') := by
  have hg := grownBy_putObj' W l o'
  refine ⟨⟨hg.os, hg.tape, hg.output, hg.size, fun i hi => World.putObj_heap_other (by omega)⟩, fun i ob hk hc => ?_⟩
  refine (hg.block i (Array.getElem?_eq_some_iff.1 hk).1 (fun e => ?_)).trans hk
  cases e
  rw [h] at hk
  cases hk
  rw [h1] at hc
  cases hc
theorem KpC.own {n₀ : Nat} {W W' : World} (h : KpC n₀ W W') {g : Nat} {t : TypeId} {cs : Array Value} (o : Own W g t cs) : Own W' g t cs := h.2 g _ o rfl
theorem q4_cells {xs : List Int} {k : Nat} (hk : k * 4 + 4 ≤ xs.length) (hr : ∀ x ∈ xs, 0 ≤ x ∧ x ≤ 255) :
    splice [.int .u8 0, .int .u8 0, .int .u8 0, .int .u8 0] 0 (((xs.drop (k * 4)).take 4).map (Value.int .u8)) = [.int .u8 (q4 xs k).a, .int .u8 (q4 xs k).b, .int .u8 (q4 xs k).c, .int .u8 (q4 xs k).d] := by
  rw [drop_nth (by omega), drop_nth (by omega), drop_nth (by omega), drop_nth (by omega)]
  have h0 := by8_eq (hr _ (nth_mem (k := k * 4) (by omega)))
  have h1 := by8_eq (hr _ (nth_mem (k := k * 4 + 1) (by omega)))
  have h2 := by8_eq (hr _ (nth_mem (k := k * 4 + 2) (by omega)))
  have h3 := by8_eq (hr _ (nth_mem (k := k * 4 + 3) (by omega)))
  simp [splice, q4, h0, h1, h2, h3]
theorem bytes_part {w : World} {B n b o : Nat} {xs : List Int} (h : Bytes w B (some ⟨b, o, none⟩) n xs) {p g : Nat} : ∀ j v, (((xs.drop p).take g).map (Value.int .u8))[j]? = some v → w.cell? ((⟨b, o + p, none⟩ : Addr).add j) = some v := by
  intro j v hv
  rw [List.getElem?_map, List.getElem?_take] at hv
  split at hv
  · rw [List.getElem?_drop] at hv
    rcases h.2.2 with h0 | ⟨b', o', e, _, hc⟩
    · rw [List.map_eq_nil_iff] at h0
      subst h0
      simp at hv
    · cases e
      have := hc (p + j) v (by rw [List.getElem?_map]; exact hv)
      rw [Addr.add_lit, Nat.add_assoc]
      exact this
  · simp at hv
def q4Enc (x : Q4) : Array Value := #[.agg #[.int .u8 x.a, .int .u8 x.b, .int .u8 x.c, .int .u8 x.d]]
set_option maxRecDepth 100000 in
theorem u8pair_info : (Try.prog.info? 5).map (·.size) = some 1 := by kernel_rfl
theorem quadsK_no {code : Int} {p : Int × List Int} (h : ¬ (p.1 = code ∧ p.2.length % 4 = 0 ∧ (code = 1 → p.2.length = 4))) : quadsK code p = [] := if_neg h
theorem quadsK_yes {code : Int} {p : Int × List Int} (h : p.1 = code ∧ p.2.length % 4 = 0 ∧ (code = 1 → p.2.length = 4)) : quadsK code p = q4s p.2 (p.2.length / 4) := if_pos h
end Go.Proofs.Ytniheakafkakhaa

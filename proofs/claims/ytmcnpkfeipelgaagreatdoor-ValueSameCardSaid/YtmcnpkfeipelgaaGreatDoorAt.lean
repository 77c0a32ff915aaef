/- Attributes; basic.Plain, peerageref07.Bare -/
import Derived.Test.YtmcnpkfeipelgaaGreatDoorTen
import Derived.Deep.RegionHeld3
import Derived.Deep.RegionLaw
import Derived.Laws.BytesArg
import Derived.Test.YtmcnpkfeipelgaaGreatDoorPfxM
import Derived.Laws.CopyOwn
namespace Go.Proofs.YtmcnpkfeipelgaaGreatDoor
open Go.RowKit

set_option maxRecDepth 100000 in
theorem at_info9 (a b c d e f g h i : Value) : (Tryz.prog.info? 37).map (·.size) = some (#[a, b, c, d, e, f, g, h, i] : Array Value).size := by kernel_rfl
set_option maxRecDepth 100000 in
theorem at_desc : Tryz.prog.underlying 37 = some (.struct (Tryz.prog.fieldsOf 37)) := by kernel_rfl
theorem at_one (k N : Int) : (#[Value.int .i64 k, .bool false, .int .u32 N, .int .u32 0, .slice none 0 0, .slice none 0 0, .slice none 0 0, .int .i64 0, .slice none 0 0] : Array Value).all (·.oneCell') = true := by simp [Value.oneCell']
/-- An attribute, as far as layer 7 looks into it. -/
structure At where
  k : Int
  p : Bool
  N : Int
  M : Int
  A1 : Option Addr
  n1 : Nat
  c1 : Nat
  A2 : Option Addr
  n2 : Nat
  c2 : Nat
  A3 : Option Addr
  n3 : Nat
  c3 : Nat
  f : Int
  A4 : Option Addr
  n4 : Nat
  c4 : Nat
def atc (a : At) : Array Value := #[.int .i64 a.k, .bool a.p, .int .u32 a.N, .int .u32 a.M, .slice a.A1 a.n1 a.c1, .slice a.A2 a.n2 a.c2, .slice a.A3 a.n3 a.c3, .int .i64 a.f, .slice a.A4 a.n4 a.c4]
def bareB (a : At) : Bool := decide (a.n1 = 0 ∧ a.n2 = 0 ∧ a.n3 = 0 ∧ a.f = 0 ∧ a.n4 = 0)
def at0 (k N : Int) : At := ⟨k, false, N, 0, none, 0, 0, none, 0, 0, none, 0, 0, 0, none, 0, 0⟩
theorem ret_boolA {a b : Bool} (h : a = b) : Ending.returned (.bool a) = .returned (.bool b) := by rw [h]
set_option maxRecDepth 100000 in
set_option maxHeartbeats 1600000 in
theorem rbare_any (a : At) (w : World) : Calls Tryz.prog 108 #[.agg (atc a)] w fun e w' => e = .returned (.bool (bareB a)) ∧ Below w.heap.size w w' := by
  obtain ⟨k, p, N, M, A1, n1, c1, A2, n2, c2, A3, n3, c3, f, A4, n4, c4⟩ := a
  unfold atc
  dsimp only
  go_enter Tryz.func108, Tryz.ntmps108
  go_wp2
  all_goals go_ret
  all_goals refine ⟨ret_boolA ?_, bl_alloc (bl_refl w) _⟩
  all_goals (unfold bareB; rw [Bool.eq_iff_iff]; simp only [decide_eq_true_eq, beq_iff_eq, Bool.false_eq_true, false_iff] at *; omega)
/-- Whether an attribute has no other fields than some numbers. -/
def plB (a : At) (ls : List Int) : Bool := decide (ls.length ≤ 2 ∧ a.N = nth ls 0 ∧ a.M = nth ls 1) && bareB a
/-- n numbers of four bytes at A. -/
def U32s (w : World) (B : Nat) (A : Option Addr) (n : Nat) (ls : List Int) : Prop := n = ls.length ∧ Shows w B A (ls.map (Value.int .u32))
theorem U32s.below {w w' : World} {B n : Nat} {A : Option Addr} {ls : List Int} (h : U32s w B A n ls) (hb : Below B w w') : U32s w' B A n ls := ⟨h.1, h.2.below hb⟩
theorem U32s.more {w : World} {B B' n : Nat} {A : Option Addr} {ls : List Int} (h : U32s w B A n ls) (hB : B ≤ B') : U32s w B' A n ls := ⟨h.1, h.2.more hB⟩
theorem at_cells {W : World} {g : Nat} {T : TypeId} {a b c d e f h i j : Value} (o : Own W g T #[a, b, c, d, e, f, h, i, j]) : W.cell? ⟨g, 0, none⟩ = some a ∧ W.cell? ⟨g, 1, none⟩ = some b ∧ W.cell? ⟨g, 2, none⟩ = some c ∧ W.cell? ⟨g, 3, none⟩ = some d ∧ W.cell? ⟨g, 4, none⟩ = some e ∧ W.cell? ⟨g, 5, none⟩ = some f ∧ W.cell? ⟨g, 6, none⟩ = some h ∧ W.cell? ⟨g, 7, none⟩ = some i ∧ W.cell? ⟨g, 8, none⟩ = some j := ⟨o.cell rfl, o.cell rfl, o.cell rfl, o.cell rfl, o.cell rfl, o.cell rfl, o.cell rfl, o.cell rfl, o.cell rfl⟩
theorem own_sp {w : World} {g : Nat} {T : TypeId} {cs ds : List Value} (h : Hid (w.heap[g]? = some (.cells cs.toArray T (0, 0)))) (e : cs = ds) : Own w g T ds.toArray := by
  rw [← e]
  exact h.out
set_option maxRecDepth 100000 in
theorem pair_info : (Tryz.prog.info? 32).map (·.size) = some 1 := by kernel_rfl
set_option maxRecDepth 100000 in
set_option maxHeartbeats 3200000 in
theorem plain_any (a : At) (A : Option Addr) (n c : Nat) (ls : List Int) (w : World) (hl : U32s w w.heap.size A n ls) (hm : n ≤ maxLen) :
    Calls Tryz.prog 208 #[.agg (atc a), .slice A n c] w fun e w' => e = .returned (.bool (plB a ls)) ∧ Below w.heap.size w w' := by
  unfold maxLen at hm
  have hO : Hid (plB a ls = (decide (ls.length ≤ 2 ∧ a.N = nth ls 0 ∧ a.M = nth ls 1) && decide (a.n1 = 0 ∧ a.n2 = 0 ∧ a.n3 = 0 ∧ a.f = 0 ∧ a.n4 = 0))) := Lib.hid rfl
  generalize plB a ls = V at *
  obtain ⟨k, p, N, M, A1, n1, c1, A2, n2, c2, A3, n3, c3, f, A4, n4, c4⟩ := a
  unfold atc at *
  dsimp only at *
  have hb := bl_alloc (bl_refl w) (.cells #[.int .i64 k, .bool p, .int .u32 N, .int .u32 M, .slice A1 n1 c1, .slice A2 n2 c2, .slice A3 n3 c3, .int .i64 f, .slice A4 n4 c4] 37)
  by_cases h2 : 2 < n
  · have d : decide ((2 : Int) < (n : Int)) = true := by simp; omega
    have HL := Lib.hid hl.1
    clear hl
    go_enter Tryz.func208, Tryz.ntmps208
    go_wp2
    go_ret
    exact ⟨ret_boolA (by rw [hO.out, ← HL.out, show decide (n ≤ 2 ∧ N = nth ls 0 ∧ M = nth ls 1) = false from decide_eq_false (fun h => by omega)]; rfl), hb⟩
  · have d : decide ((2 : Int) < (n : Int)) = false := by simp; omega
    have o := (Own.new w 37 #[.int .i64 k, .bool p, .int .u32 N, .int .u32 M, .slice A1 n1 c1, .slice A2 n2 c2, .slice A3 n3 c3, .int .i64 f, .slice A4 n4 c4]).alloc (.cells #[.int .u32 0, .int .u32 0] 228)
    have oW := Own.new (w.alloc (.cells #[.int .i64 k, .bool p, .int .u32 N, .int .u32 M, .slice A1 n1 c1, .slice A2 n2 c2, .slice A3 n3 c3, .int .i64 f, .slice A4 n4 c4] 37)) 228 #[.int .u32 0, .int .u32 0]
    rw [show (w.alloc (.cells #[.int .i64 k, .bool p, .int .u32 N, .int .u32 M, .slice A1 n1 c1, .slice A2 n2 c2, .slice A3 n3 c3, .int .i64 f, .slice A4 n4 c4] 37)).heap.size = w.heap.size + 1 by simp] at oW
    have hb2 := bl_alloc hb (.cells #[.int .u32 0, .int .u32 0] 228)
    have hl2 := (hl.2.below hb2)
    have HL := Lib.hid hl.1
    have hbk : Below (w.heap.size + 1) (w.alloc (.cells #[.int .i64 k, .bool p, .int .u32 N, .int .u32 M, .slice A1 n1 c1, .slice A2 n2 c2, .slice A3 n3 c3, .int .i64 f, .slice A4 n4 c4] 37)) ((w.alloc (.cells #[.int .i64 k, .bool p, .int .u32 N, .int .u32 M, .slice A1 n1 c1, .slice A2 n2 c2, .slice A3 n3 c3, .int .i64 f, .slice A4 n4 c4] 37)).alloc (.cells #[.int .u32 0, .int .u32 0] 228)) := (Below.refl _ _).alloc (by simp) _
    have HA := Lib.hid (show ∃ x y, nth ls 0 = x ∧ nth ls 1 = y ∧ splice [.int .u32 0, .int .u32 0] 0 (ls.map (Value.int .u32)) = [.int .u32 x, .int .u32 y] by
      match ls, hl.1 with
      | [], _ => exact ⟨0, 0, rfl, rfl, rfl⟩
      | [x], _ => exact ⟨x, 0, rfl, rfl, rfl⟩
      | [x, y], _ => exact ⟨x, y, rfl, rfl, rfl⟩
      | x :: y :: z :: r, h => exact absurd h (by simp; omega))
    have hpos := Lib.hid (show 0 < (ls.map (Value.int .u32)).length → (some (⟨w.heap.size + 1, 0, none⟩ : Addr)) = some ⟨w.heap.size + 1, 0, none⟩ ∧ ∃ ad, A = some ad ∧ ∀ j v, (ls.map (Value.int .u32))[j]? = some v → ((w.alloc (.cells #[.int .i64 k, .bool p, .int .u32 N, .int .u32 M, .slice A1 n1 c1, .slice A2 n2 c2, .slice A3 n3 c3, .int .i64 f, .slice A4 n4 c4] 37)).alloc (.cells #[.int .u32 0, .int .u32 0] 228)).cell? (ad.add j) = some v by
      intro hp
      refine ⟨rfl, ?_⟩
      rcases hl2 with h0 | ⟨b, o2, hA, _, hc⟩
      · rw [h0] at hp; simp at hp
      · exact ⟨⟨b, o2, none⟩, hA, fun j v hv => by rw [Addr.add_lit]; exact hc j v hv⟩)
    have hcn := Lib.hid (show (ls.map (Value.int .u32)).length = Nat.min n 2 by rw [List.length_map, ← HL.out]; exact (Nat.min_eq_left (by omega)).symm)
    have hfit := Lib.hid (show 0 + (ls.map (Value.int .u32)).length ≤ [Value.int .u32 0, .int .u32 0].length by rw [List.length_map, ← HL.out]; simp; omega)
    clear hl hl2
    obtain ⟨x, y, hx, hy, hsp⟩ := HA.out
    have HX := Lib.hid hx
    have HY := Lib.hid hy
    have HS := Lib.hid hsp
    clear hx hy hsp HA
    go_enter Tryz.func208, Tryz.ntmps208
    go_wp2_with (refine wpList_copy_splice rfl _ _ 34 34 rfl 32 Tryz.underlying34 pair_info _ _ _ _ _ _ rfl rfl (w.heap.size + 1) 0 [.int .u32 0, .int .u32 0] 228 oW (ls.map (Value.int .u32)) hcn.out hpos.out hfit.out (ints_oneCell .u32 ls) (w.heap.size + 1) (w.alloc (.cells #[.int .i64 k, .bool p, .int .u32 N, .int .u32 M, .slice A1 n1 c1, .slice A2 n2 c2, .slice A3 n3 c3, .int .i64 f, .slice A4 n4 c4] 37)) hbk (Nat.le_refl _) ?_; intro w2 hg hbw; have o2 : Own w2 w.heap.size 37 #[.int .i64 k, .bool p, .int .u32 N, .int .u32 M, .slice A1 n1 c1, .slice A2 n2 c2, .slice A3 n3 c3, .int .i64 f, .slice A4 n4 c4] := (Own.new w 37 _).below hbw (by simp); have oP := own_sp hg HS.out; have hb3 : Below w.heap.size w w2 := hb.trans (hbw.mono (by omega)); obtain ⟨e0, e1, e2, e3, e4, e5, e6, e7, e8⟩ := at_cells o2; have q0 := oP.cell (i := 0) (v := .int .u32 x) rfl; have q1 := oP.cell (i := 1) (v := .int .u32 y) rfl; clear hbw hg o oW hb hb2 hbk hpos hcn hfit)
    all_goals go_ret
    all_goals refine ⟨ret_boolA ?_, hb3⟩
    all_goals rw [hO.out, HX.out, HY.out, ← HL.out]
    all_goals (clear hO HX HY HS HL; rw [Bool.eq_iff_iff]; simp only [Bool.and_eq_true, decide_eq_true_eq, beq_iff_eq, Bool.false_eq_true, false_iff] at *; omega)
end Go.Proofs.YtmcnpkfeipelgaaGreatDoor

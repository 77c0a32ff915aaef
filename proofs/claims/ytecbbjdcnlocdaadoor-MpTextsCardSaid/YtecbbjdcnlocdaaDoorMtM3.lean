/- XMtM3: XAt, XOpen, XLeaf, XSg, XFew, XNr, XMvB, XMvC, XMvD, XStep, XBstr, XHxM, XMtC, XMtB, XRHxM, XMtD, XMfB, XMtE, XAtV in one text -/
import Derived.Test.YtecbbjdcnlocdaaDoorTen
import Derived.Deep.RegionHeld3
import Derived.Deep.RegionLaw
import Derived.Laws.BytesArg
import Derived.Test.YtecbbjdcnlocdaaDoorMtM1
import Derived.Laws.CopyOwn
import Derived.Test.YtecbbjdcnlocdaaDoorOwn
import Derived.ProofKit
import Derived.OpenShut
import Derived.ChangeOld
import Derived.Test.YtecbbjdcnlocdaaDoorCat
import Derived.Test.YtecbbjdcnlocdaaDoorTot
import Derived.Deep.Slices
import Derived.Test.YtecbbjdcnlocdaaDoorMtM2
import Derived.Test.YtecbbjdcnlocdaaDoorRows
import Derived.Test.YtecbbjdcnlocdaaDoorDec
/- Attributes; basic.Plain, peerageref07.Bare -/
namespace Go.Proofs.YtecbbjdcnlocdaaDoor
open Go.RowKit

set_option maxRecDepth 100000 in
theorem at_info9 (a b c d e f g h i : Value) : (Tryd.prog.info? 55).map (·.size) = some (#[a, b, c, d, e, f, g, h, i] : Array Value).size := by kernel_rfl
set_option maxRecDepth 100000 in
theorem at_desc : Tryd.prog.underlying 55 = some (.struct (Tryd.prog.fieldsOf 55)) := by kernel_rfl
theorem at_one (k N : Int) : (#[Value.int .i64 k, .bool false, .int .u32 N, .int .u32 0, .slice none 0 0, .slice none 0 0, .slice none 0 0, .int .i64 0, .slice none 0 0] : Array Value).all (·.oneCell') = true := by simp [Value.oneCell']
/-- An attribute, as far as layer 7 looks into it. -/
structure At where
  k : Int
  p : Bool
  N : Int
  M : Int
  A1 : Option Addr
  n1 : Nat
  c1 : Nat
  A2 : Option Addr
  n2 : Nat
  c2 : Nat
  A3 : Option Addr
  n3 : Nat
  c3 : Nat
  f : Int
  A4 : Option Addr
  n4 : Nat
  c4 : Nat
def atc (a : At) : Array Value := #[.int .i64 a.k, .bool a.p, .int .u32 a.N, .int .u32 a.M, .slice a.A1 a.n1 a.c1, .slice a.A2 a.n2 a.c2, .slice a.A3 a.n3 a.c3, .int .i64 a.f, .slice a.A4 a.n4 a.c4]
def bareB (a : At) : Bool := decide (a.n1 = 0 ∧ a.n2 = 0 ∧ a.n3 = 0 ∧ a.f = 0 ∧ a.n4 = 0)
def at0 (k N : Int) : At := ⟨k, false, N, 0, none, 0, 0, none, 0, 0, none, 0, 0, 0, none, 0, 0⟩
theorem ret_boolA {a b : Bool} (h : a = b) : Ending.returned (.bool a) = .returned (.bool b) := by rw [h]
set_option maxRecDepth 100000 in
set_option maxHeartbeats 1600000 in
theorem rbare_any (a : At) (w : World) : Calls Tryd.prog 126 #[.agg (atc a)] w fun e w' => e = .returned (.bool (bareB a)) ∧ Below w.heap.size w w' := by
  obtain ⟨k, p, N, M, A1, n1, c1, A2, n2, c2, A3, n3, c3, f, A4, n4, c4⟩ := a
  unfold atc
  dsimp only
  go_enter Tryd.func126, Tryd.ntmps126
  go_wp2
  all_goals go_ret
  all_goals refine ⟨ret_boolA ?_, bl_alloc (bl_refl w) _⟩
  all_goals (unfold bareB; rw [Bool.eq_iff_iff]; simp only [decide_eq_true_eq, beq_iff_eq, Bool.false_eq_true, false_iff] at *; omega)
/-- Whether an attribute has no other fields than some numbers. -/
def plB (a : At) (ls : List Int) : Bool := decide (ls.length ≤ 2 ∧ a.N = nth ls 0 ∧ a.M = nth ls 1) && bareB a
/-- n numbers of four bytes at A. -/
def U32s (w : World) (B : Nat) (A : Option Addr) (n : Nat) (ls : List Int) : Prop := n = ls.length ∧ Shows w B A (ls.map (Value.int .u32))
theorem U32s.below {w w' : World} {B n : Nat} {A : Option Addr} {ls : List Int} (h : U32s w B A n ls) (hb : Below B w w') : U32s w' B A n ls := ⟨h.1, h.2.below hb⟩
theorem U32s.more {w : World} {B B' n : Nat} {A : Option Addr} {ls : List Int} (h : U32s w B A n ls) (hB : B ≤ B') : U32s w B' A n ls := ⟨h.1, h.2.more hB⟩
theorem at_cells {W : World} {g : Nat} {T : TypeId} {a b c d e f h i j : Value} (o : Own W g T #[a, b, c, d, e, f, h, i, j]) : W.cell? ⟨g, 0, none⟩ = some a ∧ W.cell? ⟨g, 1, none⟩ = some b ∧ W.cell? ⟨g, 2, none⟩ = some c ∧ W.cell? ⟨g, 3, none⟩ = some d ∧ W.cell? ⟨g, 4, none⟩ = some e ∧ W.cell? ⟨g, 5, none⟩ = some f ∧ W.cell? ⟨g, 6, none⟩ = some h ∧ W.cell? ⟨g, 7, none⟩ = some i ∧ W.cell? ⟨g, 8, none⟩ = some j := ⟨o.cell rfl, o.cell rfl, o.cell rfl, o.cell rfl, o.cell rfl, o.cell rfl, o.cell rfl, o.cell rfl, o.cell rfl⟩
theorem own_sp {w : World} {g : Nat} {T : TypeId} {cs ds : List Value} (h : Hid (w.heap[g]? = some (.cells cs.toArray T (0, 0)))) (e : cs = ds) : Own w g T ds.toArray := by
  rw [← e]
  exact h.out
set_option maxRecDepth 100000 in
theorem pair_info : (Tryd.prog.info? 51).map (·.size) = some 1 := by kernel_rfl
set_option maxRecDepth 100000 in
set_option maxHeartbeats 3200000 in
theorem plain_any (a : At) (A : Option Addr) (n c : Nat) (ls : List Int) (w : World) (hl : U32s w w.heap.size A n ls) (hm : n ≤ maxLen) :
    Calls Tryd.prog 103 #[.agg (atc a), .slice A n c] w fun e w' => e = .returned (.bool (plB a ls)) ∧ Below w.heap.size w w' := by
  unfold maxLen at hm
  have hO : Hid (plB a ls = (decide (ls.length ≤ 2 ∧ a.N = nth ls 0 ∧ a.M = nth ls 1) && decide (a.n1 = 0 ∧ a.n2 = 0 ∧ a.n3 = 0 ∧ a.f = 0 ∧ a.n4 = 0))) := Lib.hid rfl
  generalize plB a ls = V at *
  obtain ⟨k, p, N, M, A1, n1, c1, A2, n2, c2, A3, n3, c3, f, A4, n4, c4⟩ := a
  unfold atc at *
  dsimp only at *
  have hb := bl_alloc (bl_refl w) (.cells #[.int .i64 k, .bool p, .int .u32 N, .int .u32 M, .slice A1 n1 c1, .slice A2 n2 c2, .slice A3 n3 c3, .int .i64 f, .slice A4 n4 c4] 55)
  by_cases h2 : 2 < n
  · have d : decide ((2 : Int) < (n : Int)) = true := by simp; omega
    have HL := Lib.hid hl.1
    clear hl
    go_enter Tryd.func103, Tryd.ntmps103
    go_wp2
    go_ret
    exact ⟨ret_boolA (by rw [hO.out, ← HL.out, show decide (n ≤ 2 ∧ N = nth ls 0 ∧ M = nth ls 1) = false from decide_eq_false (fun h => by omega)]; rfl), hb⟩
  · have d : decide ((2 : Int) < (n : Int)) = false := by simp; omega
    have o := (Own.new w 55 #[.int .i64 k, .bool p, .int .u32 N, .int .u32 M, .slice A1 n1 c1, .slice A2 n2 c2, .slice A3 n3 c3, .int .i64 f, .slice A4 n4 c4]).alloc (.cells #[.int .u32 0, .int .u32 0] 159)
    have oW := Own.new (w.alloc (.cells #[.int .i64 k, .bool p, .int .u32 N, .int .u32 M, .slice A1 n1 c1, .slice A2 n2 c2, .slice A3 n3 c3, .int .i64 f, .slice A4 n4 c4] 55)) 159 #[.int .u32 0, .int .u32 0]
    rw [show (w.alloc (.cells #[.int .i64 k, .bool p, .int .u32 N, .int .u32 M, .slice A1 n1 c1, .slice A2 n2 c2, .slice A3 n3 c3, .int .i64 f, .slice A4 n4 c4] 55)).heap.size = w.heap.size + 1 by simp] at oW
    have hb2 := bl_alloc hb (.cells #[.int .u32 0, .int .u32 0] 159)
    have hl2 := (hl.2.below hb2)
    have HL := Lib.hid hl.1
    have hbk : Below (w.heap.size + 1) (w.alloc (.cells #[.int .i64 k, .bool p, .int .u32 N, .int .u32 M, .slice A1 n1 c1, .slice A2 n2 c2, .slice A3 n3 c3, .int .i64 f, .slice A4 n4 c4] 55)) ((w.alloc (.cells #[.int .i64 k, .bool p, .int .u32 N, .int .u32 M, .slice A1 n1 c1, .slice A2 n2 c2, .slice A3 n3 c3, .int .i64 f, .slice A4 n4 c4] 55)).alloc (.cells #[.int .u32 0, .int .u32 0] 159)) := (Below.refl _ _).alloc (by simp) _
    have HA := Lib.hid (show ∃ x y, nth ls 0 = x ∧ nth ls 1 = y ∧ splice [.int .u32 0, .int .u32 0] 0 (ls.map (Value.int .u32)) = [.int .u32 x, .int .u32 y] by
      match ls, hl.1 with
      | [], _ => exact ⟨0, 0, rfl, rfl, rfl⟩
      | [x], _ => exact ⟨x, 0, rfl, rfl, rfl⟩
      | [x, y], _ => exact ⟨x, y, rfl, rfl, rfl⟩
      | x :: y :: z :: r, h => exact absurd h (by simp; omega))
    have hpos := Lib.hid (show 0 < (ls.map (Value.int .u32)).length → (some (⟨w.heap.size + 1, 0, none⟩ : Addr)) = some ⟨w.heap.size + 1, 0, none⟩ ∧ ∃ ad, A = some ad ∧ ∀ j v, (ls.map (Value.int .u32))[j]? = some v → ((w.alloc (.cells #[.int .i64 k, .bool p, .int .u32 N, .int .u32 M, .slice A1 n1 c1, .slice A2 n2 c2, .slice A3 n3 c3, .int .i64 f, .slice A4 n4 c4] 55)).alloc (.cells #[.int .u32 0, .int .u32 0] 159)).cell? (ad.add j) = some v by
      intro hp
      refine ⟨rfl, ?_⟩
      rcases hl2 with h0 | ⟨b, o2, hA, _, hc⟩
      · rw [h0] at hp; simp at hp
      · exact ⟨⟨b, o2, none⟩, hA, fun j v hv => by rw [Addr.add_lit]; exact hc j v hv⟩)
    have hcn := Lib.hid (show (ls.map (Value.int .u32)).length = Nat.min n 2 by rw [List.length_map, ← HL.out]; exact (Nat.min_eq_left (by omega)).symm)
    have hfit := Lib.hid (show 0 + (ls.map (Value.int .u32)).length ≤ [Value.int .u32 0, .int .u32 0].length by rw [List.length_map, ← HL.out]; simp; omega)
    clear hl hl2
    obtain ⟨x, y, hx, hy, hsp⟩ := HA.out
    have HX := Lib.hid hx
    have HY := Lib.hid hy
    have HS := Lib.hid hsp
    clear hx hy hsp HA
    go_enter Tryd.func103, Tryd.ntmps103
    go_wp2_with (refine wpList_copy_splice rfl _ _ 52 52 rfl 51 Tryd.underlying52 pair_info _ _ _ _ _ _ rfl rfl (w.heap.size + 1) 0 [.int .u32 0, .int .u32 0] 159 oW (ls.map (Value.int .u32)) hcn.out hpos.out hfit.out (ints_oneCell .u32 ls) (w.heap.size + 1) (w.alloc (.cells #[.int .i64 k, .bool p, .int .u32 N, .int .u32 M, .slice A1 n1 c1, .slice A2 n2 c2, .slice A3 n3 c3, .int .i64 f, .slice A4 n4 c4] 55)) hbk (Nat.le_refl _) ?_; intro w2 hg hbw; have o2 : Own w2 w.heap.size 55 #[.int .i64 k, .bool p, .int .u32 N, .int .u32 M, .slice A1 n1 c1, .slice A2 n2 c2, .slice A3 n3 c3, .int .i64 f, .slice A4 n4 c4] := (Own.new w 55 _).below hbw (by simp); have oP := own_sp hg HS.out; have hb3 : Below w.heap.size w w2 := hb.trans (hbw.mono (by omega)); obtain ⟨e0, e1, e2, e3, e4, e5, e6, e7, e8⟩ := at_cells o2; have q0 := oP.cell (i := 0) (v := .int .u32 x) rfl; have q1 := oP.cell (i := 1) (v := .int .u32 y) rfl; clear hbw hg o oW hb hb2 hbk hpos hcn hfit)
    all_goals go_ret
    all_goals refine ⟨ret_boolA ?_, hb3⟩
    all_goals rw [hO.out, HX.out, HY.out, ← HL.out]
    all_goals (clear hO HX HY HS HL; rw [Bool.eq_iff_iff]; simp only [Bool.and_eq_true, decide_eq_true_eq, beq_iff_eq, Bool.false_eq_true, false_iff] at *; omega)
end Go.Proofs.YtecbbjdcnlocdaaDoor

/- Arguments opened to the words of the walks. -/
namespace Go.Proofs.YtecbbjdcnlocdaaDoor
open Go.ChangeShapes Go.WideShapes Go.ChangeAt Go.RowKit

theorem wf_u8 {a : Int} (h : (Lit.int .u8 a).wf = true) : 0 ≤ a ∧ a ≤ 255 := by
  simp only [Lit.wf, Bool.and_eq_true, decide_eq_true_eq] at h
  have h1 : IntKind.u8.min = 0 := rfl
  have h2 : IntKind.u8.max = 255 := rfl
  omega
theorem wf_u32 {a : Int} (h : (Lit.int .u32 a).wf = true) : 0 ≤ a ∧ a < 4294967296 := by
  simp only [Lit.wf, Bool.and_eq_true, decide_eq_true_eq] at h
  have h1 : IntKind.u32.min = 0 := rfl
  have h2 : IntKind.u32.max = 4294967295 := rfl
  omega
theorem wf_i64 {a : Int} (h : (Lit.int .i64 a).wf = true) : -9223372036854775808 ≤ a ∧ a ≤ 9223372036854775807 := by
  simp only [Lit.wf, Bool.and_eq_true, decide_eq_true_eq] at h
  have h1 : IntKind.i64.min = -9223372036854775808 := rfl
  have h2 : IntKind.i64.max = 9223372036854775807 := rfl
  omega

section
variable {H : Type} {enc : TypeId × Value → H} {P : Program} {w : World} {spare : Nat → Bool} {held : Bool}
theorem shows_of_add {a : Addr} {xs : List Value} (h : ∀ i v, xs[i]? = some v → w.cell? (a.add i) = some v) : Shows w w.heap.size (some a) xs := by
  rcases xs with _ | ⟨x, xs⟩
  · exact .inl rfl
  · right
    have h0 := h 0 x rfl
    have hs := World.cell?_spot h0
    have hlt := World.block_lt_of_cell? w _ h0
    obtain ⟨b, o, s⟩ := a
    have hs' : s = none := by simpa [Addr.add] using hs
    subst hs'
    refine ⟨b, o, rfl, by simpa [Addr.add] using hlt, fun i v hv => ?_⟩
    have := h i v hv
    rwa [Addr.add_lit] at this
theorem open_bytes {t e : TypeId} {b0 : Nat} {r : Reach} {v : Value} {d : DataW H} {p : List MemPlace} (ht : P.underlying t = some (.slice e)) (he : P.underlying e = some (.int .u8)) (hc : P.cellsOf e = 1)
    (hv : Value.okWide P w r b0 t v) (h : DataW.Trod enc P w 0 spare held t v d p) (hsp : ∀ b, spare b = true) :
    ∃ A n c xs, v = .slice A n c ∧ n ≤ c ∧ c ≤ maxLen ∧ Bytes w w.heap.size A n xs := by
  obtain ⟨A, n, c, rfl⟩ := okWide_slice ht hv
  obtain ⟨fuel, hf⟩ := h
  rcases open_ints ht he hc hf with ⟨hcs, _⟩ | ⟨a, len, cap, zs, hcs, _, hl, hm, hz, _, hcell, hwf⟩
  · simp [Value.cells] at hcs
    obtain ⟨rfl, rfl, rfl⟩ := hcs
    exact ⟨none, 0, 0, [], rfl, Nat.le_refl _, by unfold maxLen; omega, Bytes.nil _ _ _⟩
  · simp [Value.cells] at hcs
    obtain ⟨rfl, rfl, rfl⟩ := hcs
    rw [hsp, if_pos rfl] at hz
    refine ⟨_, _, _, zs.take n, rfl, hl, hm, by simp; omega, fun x hx => wf_u8 (hwf x (List.mem_of_mem_take hx)), ?_⟩
    refine shows_of_add fun i v hv => ?_
    rw [List.getElem?_map] at hv
    obtain ⟨x, hx, rfl⟩ := Option.map_eq_some_iff.1 hv
    rw [List.getElem?_take] at hx
    split at hx
    · have hi : i < zs.length := (List.getElem?_eq_some_iff.1 hx).1
      rw [hcell i hi]
      simp [List.getD, hx]
    · cases hx
end
end Go.Proofs.YtecbbjdcnlocdaaDoor

/- A cell of a struct or an array that came in, read by the type of its leaf; slices of structs; slices of slices of bytes. -/
namespace Go.Proofs.YtecbbjdcnlocdaaDoor
open Go.ChangeShapes Go.WideShapes Go.ChangeAt Go.RowKit Go.Deep

/-- The type of cell i of a value of type t. -/
def leafAt (P : Program) : Nat → TypeId → Nat → Option TypeId
  | 0, _, _ => none
  | n + 1, t, i => match P.underlying t with
    | some (.struct fs) => (fs.toList.find? fun f => decide (f.offset ≤ i ∧ i < f.offset + P.cellsOf f.type)).bind fun f => leafAt P n f.type (i - f.offset)
    | some (.array k e) => if i / P.cellsOf e < k ∧ i % P.cellsOf e < P.cellsOf e then leafAt P n e (i % P.cellsOf e) else none
    | some (.int _) => if i = 0 then some t else none
    | some .bool => if i = 0 then some t else none
    | some .string => if i = 0 then some t else none
    | some (.slice _) => if i = 0 then some t else none
    | _ => none

theorem one_of {cs : List Value} {o s i : Nat} (h1 : o ≤ i) (h2 : i < o + s) : ((((cs.drop o).take s).drop (i - o)).take 1) = (cs.drop i).take 1 := by
  rw [List.drop_take, List.drop_drop, List.take_take, show min 1 (s - (i - o)) = 1 by omega, show o + (i - o) = i by omega]

section
variable {H : Type} {enc : TypeId × Value → H} {P : Program} {w : World} {base : Nat} {spare : Nat → Bool} {held : Bool}
theorem trod_leaf : ∀ (n : Nat) {t : TypeId} {i : Nat} {l : TypeId}, leafAt P n t i = some l → ∀ {fuel : Nat} {cs : List Value} {x : DataW H × List MemPlace}, DataW.trod enc P w base spare held fuel t cs = some x →
    ∃ fuel' y, DataW.trod enc P w base spare held fuel' l ((cs.drop i).take 1) = some y := by
  intro n
  induction n with
  | zero => intro t i l h; simp [leafAt] at h
  | succ n ih =>
    intro t i l h fuel cs x hx
    unfold leafAt at h
    split at h
    · rename_i fs ht
      obtain ⟨f, hf, hlf⟩ := Option.bind_eq_some_iff.1 h
      have hmem := List.mem_of_find?_eq_some hf
      have hp := List.find?_some hf
      simp only [decide_eq_true_eq] at hp
      obtain ⟨xs, m, _, _, hcl, hxl, hg⟩ := DataW.trod_struct ht hx
      obtain ⟨j, hj⟩ := List.getElem?_of_mem hmem
      have hj' : fs[j]? = some f := by rw [← Array.getElem?_toList]; exact hj
      have hjl : j < xs.length := by rw [hxl]; exact (Array.getElem?_eq_some_iff.1 hj').1
      have h1 := hg j f hj'
      rw [List.getElem?_eq_getElem hjl] at h1
      obtain ⟨fuel', y, hy⟩ := ih hlf h1
      rw [one_of hp.1 hp.2] at hy
      exact ⟨fuel', y, hy⟩
    · rename_i k e ht
      split at h
      · rename_i hc
        obtain ⟨xs, m, _, _, hcl, hxl, hg⟩ := DataW.trod_array ht hx
        have h1 := hg (i / P.cellsOf e) hc.1
        rw [List.getElem?_eq_getElem (by rw [hxl]; exact hc.1)] at h1
        obtain ⟨fuel', y, hy⟩ := ih h h1
        have e1 : i % P.cellsOf e = i - i / P.cellsOf e * P.cellsOf e := by rw [Nat.mul_comm]; have := Nat.div_add_mod i (P.cellsOf e); omega
        have e2 : i / P.cellsOf e * P.cellsOf e ≤ i := Nat.div_mul_le_self _ _
        rw [e1, one_of e2 (by have := hc.2; omega)] at hy
        exact ⟨fuel', y, hy⟩
      · cases h
    · rename_i k ht
      split at h
      · rename_i h0
        obtain rfl := Option.some.inj h
        obtain ⟨z, hz, _⟩ := DataW.trod_int ht hx
        subst h0 hz
        exact ⟨fuel, x, hx⟩
      · cases h
    · rename_i ht
      split at h
      · rename_i h0
        obtain rfl := Option.some.inj h
        obtain ⟨z, hz, _⟩ := DataW.trod_bool ht hx
        subst h0 hz
        exact ⟨fuel, x, hx⟩
      · cases h
    · rename_i ht
      split at h
      · rename_i h0
        obtain rfl := Option.some.inj h
        obtain ⟨z, hz, _⟩ := DataW.trod_string ht hx
        subst h0 hz
        exact ⟨fuel, x, hx⟩
      · cases h
    · rename_i e ht
      split at h
      · rename_i h0
        obtain rfl := Option.some.inj h
        subst h0
        rcases DataW.trod_slice ht hx with ⟨rfl, _⟩ | ⟨a, len, cap, elems, rest, m, _, rfl, _⟩ <;> exact ⟨fuel, x, hx⟩
      · cases h
    · cases h

theorem leaf_int {n : Nat} {t : TypeId} {i : Nat} {l : TypeId} {k : IntKind} (hl : leafAt P n t i = some l) (hk : P.underlying l = some (.int k)) {fuel : Nat} {cs : List Value} {x : DataW H × List MemPlace} (hx : DataW.trod enc P w base spare held fuel t cs = some x) :
    ∃ z, cs[i]? = some (.int k z) ∧ (Lit.int k z).wf = true := by
  obtain ⟨f, y, hy⟩ := trod_leaf n hl hx
  obtain ⟨z, hz, _, hw⟩ := DataW.trod_int hk hy
  refine ⟨z, ?_, hw⟩
  have h := congrArg (fun l => l[0]?) hz
  simpa [List.getElem?_take, List.getElem?_drop] using h
theorem leaf_bool {n : Nat} {t : TypeId} {i : Nat} {l : TypeId} (hl : leafAt P n t i = some l) (hk : P.underlying l = some .bool) {fuel : Nat} {cs : List Value} {x : DataW H × List MemPlace} (hx : DataW.trod enc P w base spare held fuel t cs = some x) :
    ∃ z, cs[i]? = some (.bool z) := by
  obtain ⟨f, y, hy⟩ := trod_leaf n hl hx
  obtain ⟨z, hz, _⟩ := DataW.trod_bool hk hy
  refine ⟨z, ?_⟩
  have h := congrArg (fun l => l[0]?) hz
  simpa [List.getElem?_take, List.getElem?_drop] using h
theorem leaf_any {n : Nat} {t : TypeId} {i : Nat} {l : TypeId} {v : Value} (hl : leafAt P n t i = some l) {fuel : Nat} {cs : List Value} {x : DataW H × List MemPlace} (hx : DataW.trod enc P w base spare held fuel t cs = some x) (hv : cs[i]? = some v) :
    ∃ fuel' y, DataW.trod enc P w base spare held fuel' l [v] = some y := by
  obtain ⟨f, y, hy⟩ := trod_leaf n hl hx
  have hi := (List.getElem?_eq_some_iff.1 hv).1
  have e : (cs.drop i).take 1 = [v] := by
    rw [List.drop_eq_getElem_cons hi]
    simp [(List.getElem?_eq_some_iff.1 hv).2]
  rw [e] at hy
  exact ⟨f, y, hy⟩

/-- A list of choices. -/
theorem list_of {α : Type} [Inhabited α] {n : Nat} {p : Nat → α → Prop} (h : ∀ i, i < n → ∃ a, p i a) : ∃ l : List α, l.length = n ∧ ∀ i a, l[i]? = some a → p i a := by
  have h' : ∀ i, ∃ a, i < n → p i a := fun i => by
    by_cases hi : i < n
    · obtain ⟨a, ha⟩ := h i hi
      exact ⟨a, fun _ => ha⟩
    · exact ⟨default, fun hh => absurd hh hi⟩
  obtain ⟨f, hf⟩ := Classical.axiomOfChoice h'
  refine ⟨(List.range n).map f, by simp, fun i a ha => ?_⟩
  rw [List.getElem?_map] at ha
  obtain ⟨j, hj, rfl⟩ := Option.map_eq_some_iff.1 ha
  obtain ⟨hjn, hj2⟩ := List.getElem?_eq_some_iff.1 hj
  simp at hj2 hjn
  subst hj2
  exact hf _ hjn

theorem open_pairs {t e : TypeId} {lt : TypeId} {b0 : Nat} {r : Reach} {v : Value} {d : DataW H} {p : List MemPlace} (ht : P.underlying t = some (.slice e)) (hc : P.cellsOf e = 2) (hi : P.underlying lt = some (.int .i64))
    (h0 : leafAt P 3 e 0 = some lt) (h1 : leafAt P 3 e 1 = some lt) (hv : Value.okWide P w r b0 t v) (h : DataW.Trod enc P w 0 spare held t v d p) :
    ∃ A n c l, v = .slice A n c ∧ n ≤ c ∧ c ≤ maxLen ∧ Pairs w w.heap.size A n l ∧ ∀ x ∈ l, (Lit.int .i64 x.1).wf = true ∧ (Lit.int .i64 x.2).wf = true := by
  obtain ⟨A, n, c, rfl⟩ := okWide_slice ht hv
  obtain ⟨fuel, hf⟩ := h
  rcases open_slice ht hf with ⟨hcs, _⟩ | ⟨a, len, cap, m, n', D, Pl, hcs, _, hl, hm, hmm, _, hx⟩
  · simp [Value.cells] at hcs
    obtain ⟨rfl, rfl, rfl⟩ := hcs
    exact ⟨none, 0, 0, [], rfl, Nat.le_refl _, by unfold maxLen; omega, ⟨rfl, .inl rfl⟩, by simp⟩
  · simp [Value.cells] at hcs
    obtain ⟨rfl, rfl, rfl⟩ := hcs
    rw [hc] at hx
    have hmn : n ≤ m := by rw [hmm]; split <;> omega
    obtain ⟨l, hll, hlp⟩ := list_of (n := n) (p := fun i (z : Int × Int) => w.cell? (a.add (i * 2)) = some (.int .i64 z.1) ∧ w.cell? (a.add (i * 2 + 1)) = some (.int .i64 z.2) ∧ (Lit.int .i64 z.1).wf = true ∧ (Lit.int .i64 z.2).wf = true) (fun i hin => by
      obtain ⟨cs', hcells, htr⟩ := hx i (by omega)
      obtain ⟨_, _, hat⟩ := World.cells?_some hcells
      obtain ⟨x, hx0, hw0⟩ := leaf_int h0 hi htr
      obtain ⟨y, hy0, hw1⟩ := leaf_int h1 hi htr
      have g0 := (hat 0 (by omega)).trans hx0
      have g1 := (hat 1 (by omega)).trans hy0
      rw [Go.Deep.add_add] at g0 g1
      exact ⟨(x, y), by simpa using g0, g1, hw0, hw1⟩)
    refine ⟨some a, n, c, l, rfl, hl, hm, ⟨hll.symm, ?_⟩, fun x hx => ?_⟩
    · rcases l with _ | ⟨z, l⟩
      · exact .inl rfl
      · right
        have hz := (hlp 0 z rfl).1
        have hsp := World.cell?_spot hz
        have hlt := World.block_lt_of_cell? w _ hz
        obtain ⟨b, o, s⟩ := a
        have hs' : s = none := by simpa [Addr.add] using hsp
        subst hs'
        refine ⟨b, o, rfl, by simpa [Addr.add] using hlt, fun i x y hi => ?_⟩
        have := hlp i (x, y) hi
        rw [Addr.add_lit, Addr.add_lit] at this
        exact ⟨this.1, this.2.1⟩
    · obtain ⟨i, hi⟩ := List.getElem?_of_mem hx
      exact (hlp i x hi).2.2

instance : Inhabited Part := ⟨⟨none, 0, 0, []⟩⟩
theorem bytes_of_trod {t e : TypeId} {v : Value} {fuel : Nat} {y : DataW H × List MemPlace} (ht : P.underlying t = some (.slice e)) (he : P.underlying e = some (.int .u8)) (hc : P.cellsOf e = 1)
    (h : DataW.trod enc P w 0 spare held fuel t [v] = some y) (hsp : ∀ b, spare b = true) : ∃ A n c xs, v = .slice A n c ∧ n ≤ c ∧ c ≤ maxLen ∧ Bytes w w.heap.size A n xs := by
  rcases open_ints ht he hc h with ⟨hcs, _⟩ | ⟨a, len, cap, zs, hcs, _, hl, hm, hz, _, hcell, hwf⟩
  · simp at hcs
    subst hcs
    exact ⟨none, 0, 0, [], rfl, Nat.le_refl _, by unfold maxLen; omega, Bytes.nil _ _ _⟩
  · simp at hcs
    subst hcs
    rw [hsp, if_pos rfl] at hz
    refine ⟨_, _, _, zs.take len, rfl, hl, hm, by simp; omega, fun x hx => wf_u8 (hwf x (List.mem_of_mem_take hx)), ?_⟩
    refine shows_of_add fun i v hv => ?_
    rw [List.getElem?_map] at hv
    obtain ⟨x, hx, rfl⟩ := Option.map_eq_some_iff.1 hv
    rw [List.getElem?_take] at hx
    split at hx
    · have hi : i < zs.length := (List.getElem?_eq_some_iff.1 hx).1
      rw [hcell i hi]
      simp [List.getD, hx]
    · cases hx
theorem open_parts {t e q : TypeId} {b0 : Nat} {r : Reach} {v : Value} {d : DataW H} {p : List MemPlace} (ht : P.underlying t = some (.slice e)) (he : P.underlying e = some (.slice q)) (hq : P.underlying q = some (.int .u8)) (hce : P.cellsOf e = 1) (hc : P.cellsOf q = 1)
    (hv : Value.okWide P w r b0 t v) (h : DataW.Trod enc P w 0 spare held t v d p) (hsp : ∀ b, spare b = true) :
    ∃ A n c ps, v = .slice A n c ∧ n ≤ c ∧ c ≤ maxLen ∧ Parts w w.heap.size A n ps ∧ ∀ p ∈ ps, p.n ≤ p.c ∧ p.c ≤ maxLen := by
  obtain ⟨A, n, c, rfl⟩ := okWide_slice ht hv
  obtain ⟨fuel, hf⟩ := h
  rcases open_slice1 ht hce hf with ⟨hcs, _⟩ | ⟨a, len, cap, m, n', V, D, Pl, hcs, _, hl, hm, hmm, _, hx⟩
  · simp [Value.cells] at hcs
    obtain ⟨rfl, rfl, rfl⟩ := hcs
    exact ⟨none, 0, 0, [], rfl, Nat.le_refl _, by unfold maxLen; omega, ⟨rfl, by simp, .inl rfl⟩, by simp⟩
  · simp [Value.cells] at hcs
    obtain ⟨rfl, rfl, rfl⟩ := hcs
    have hmn : n ≤ m := by rw [hmm]; split <;> omega
    obtain ⟨l, hll, hlp⟩ := list_of (n := n) (p := fun i (z : Part) => w.cell? (a.add i) = some z.v ∧ z.n ≤ z.c ∧ z.c ≤ maxLen ∧ z.ok w w.heap.size) (fun i hin => by
      obtain ⟨hcell, htr⟩ := hx i (by omega)
      obtain ⟨A, n, c, xs, hv, h1, h2, h3⟩ := bytes_of_trod he hq hc htr hsp
      exact ⟨⟨A, n, c, xs⟩, by rw [hcell, hv]; rfl, h1, h2, h3⟩)
    refine ⟨some a, n, c, l, rfl, hl, hm, ⟨hll.symm, fun p hp => ?_, shows_of_add fun i v hv => ?_⟩, fun p hp => ?_⟩
    · obtain ⟨i, hi⟩ := List.getElem?_of_mem hp
      exact (hlp i p hi).2.2.2
    · rw [List.getElem?_map] at hv
      obtain ⟨x, hx, rfl⟩ := Option.map_eq_some_iff.1 hv
      exact (hlp i x hx).1
    · obtain ⟨i, hi⟩ := List.getElem?_of_mem hp
      exact ⟨(hlp i p hi).2.1, (hlp i p hi).2.2.1⟩
end
end Go.Proofs.YtecbbjdcnlocdaaDoor

/- Segments of an attribute; an attribute that came in; peerageref06.Few -/
namespace Go.Proofs.YtecbbjdcnlocdaaDoor
open Go.ChangeShapes Go.WideShapes Go.ChangeAt Go.RowKit Go.Deep

/-- A segment with what its numbers are. -/
structure Sg where
  k : Int
  A : Option Addr
  n : Nat
  c : Nat
  xs : List Int
instance : Inhabited Sg := ⟨⟨0, none, 0, 0, []⟩⟩
def Segs (w : World) (B : Nat) (A : Option Addr) (n : Nat) (ss : List Sg) : Prop :=
  n = ss.length ∧ (∀ s ∈ ss, s.n ≤ s.c ∧ s.c ≤ maxLen ∧ (Lit.int .i64 s.k).wf = true ∧ (∀ x ∈ s.xs, 0 ≤ x ∧ x < 4294967296) ∧ U32s w B s.A s.n s.xs) ∧
  (ss = [] ∨ ∃ b o, A = some ⟨b, o, none⟩ ∧ b < B ∧ ∀ i s, ss[i]? = some s → w.cell? ⟨b, o + i * 2, none⟩ = some (.int .i64 s.k) ∧ w.cell? ⟨b, o + i * 2 + 1, none⟩ = some (.slice s.A s.n s.c))
def sgth (ss : List Sg) (k : Nat) : Sg := ss.getD k default
theorem sgth_some {ss : List Sg} {k : Nat} (h : k < ss.length) : ss[k]? = some (sgth ss k) := by simp [sgth, h]
theorem Segs.at_ {w : World} {B : Nat} {A : Option Addr} {n : Nat} {ss : List Sg} (h : Segs w B A n ss) {k : Nat} (hk : k < n) :
    ∃ b o, A = some ⟨b, o, none⟩ ∧ b < B ∧ w.cell? ⟨b, o + k * 2, none⟩ = some (.int .i64 (sgth ss k).k) ∧ w.cell? ⟨b, o + k * 2 + 1, none⟩ = some (.slice (sgth ss k).A (sgth ss k).n (sgth ss k).c) := by
  obtain ⟨hn, _, h0 | ⟨b, o, hA, hb, hc⟩⟩ := h
  · rw [h0] at hn; simp at hn; omega
  · exact ⟨b, o, hA, hb, hc k _ (sgth_some (by omega))⟩
theorem Segs.below {w w' : World} {B n : Nat} {A : Option Addr} {ss : List Sg} (h : Segs w B A n ss) (hb : Below B w w') : Segs w' B A n ss := by
  obtain ⟨hn, hs, h0⟩ := h
  refine ⟨hn, fun s m => ?_, ?_⟩
  · obtain ⟨a, b, c, d, e⟩ := hs s m
    exact ⟨a, b, c, d, e.below hb⟩
  · rcases h0 with h0 | ⟨b, o, hA, hB, hc⟩
    · exact .inl h0
    · refine .inr ⟨b, o, hA, hB, fun i s hi => ?_⟩
      have h2 := hc i s hi
      rw [hb.cell hB, hb.cell hB]
      exact h2
theorem Segs.more {w : World} {B B' n : Nat} {A : Option Addr} {ss : List Sg} (h : Segs w B A n ss) (hB : B ≤ B') : Segs w B' A n ss := by
  obtain ⟨hn, hs, h0⟩ := h
  refine ⟨hn, fun s m => ?_, ?_⟩
  · obtain ⟨a, b, c, d, e⟩ := hs s m
    exact ⟨a, b, c, d, e.more hB⟩
  · rcases h0 with h0 | ⟨b, o, hA, hb, hc⟩
    · exact .inl h0
    · exact .inr ⟨b, o, hA, by omega, hc⟩

section
variable {H : Type} {enc : TypeId × Value → H} {P : Program} {w : World} {spare : Nat → Bool} {held : Bool}
theorem u32s_of_trod {t e : TypeId} {v : Value} {fuel : Nat} {y : DataW H × List MemPlace} (ht : P.underlying t = some (.slice e)) (he : P.underlying e = some (.int .u32)) (hc : P.cellsOf e = 1)
    (h : DataW.trod enc P w 0 spare held fuel t [v] = some y) (hsp : ∀ b, spare b = true) : ∃ A n c xs, v = .slice A n c ∧ n ≤ c ∧ c ≤ maxLen ∧ (∀ x ∈ xs, 0 ≤ x ∧ x < 4294967296) ∧ U32s w w.heap.size A n xs := by
  rcases open_ints ht he hc h with ⟨hcs, _⟩ | ⟨a, len, cap, zs, hcs, _, hl, hm, hz, _, hcell, hwf⟩
  · simp at hcs
    subst hcs
    exact ⟨none, 0, 0, [], rfl, Nat.le_refl _, by unfold maxLen; omega, by simp, rfl, .inl rfl⟩
  · simp at hcs
    subst hcs
    rw [hsp, if_pos rfl] at hz
    refine ⟨_, _, _, zs.take len, rfl, hl, hm, fun x hx => wf_u32 (hwf x (List.mem_of_mem_take hx)), by simp; omega, ?_⟩
    refine shows_of_add fun i v hv => ?_
    rw [List.getElem?_map] at hv
    obtain ⟨x, hx, rfl⟩ := Option.map_eq_some_iff.1 hv
    rw [List.getElem?_take] at hx
    split at hx
    · have hi : i < zs.length := (List.getElem?_eq_some_iff.1 hx).1
      rw [hcell i hi]
      simp [List.getD, hx]
    · cases hx
theorem segs_of_trod {t e lt l2 q : TypeId} {v : Value} {fuel : Nat} {y : DataW H × List MemPlace} (ht : P.underlying t = some (.slice e)) (hc : P.cellsOf e = 2) (hi : P.underlying lt = some (.int .i64)) (hi2 : P.underlying l2 = some (.slice q)) (hq : P.underlying q = some (.int .u32)) (hcq : P.cellsOf q = 1)
    (h0 : leafAt P 3 e 0 = some lt) (h1 : leafAt P 3 e 1 = some l2) (h : DataW.trod enc P w 0 spare held fuel t [v] = some y) (hsp : ∀ b, spare b = true) :
    ∃ A n c ss, v = .slice A n c ∧ n ≤ c ∧ c ≤ maxLen ∧ Segs w w.heap.size A n ss := by
  rcases open_slice ht h with ⟨hcs, _⟩ | ⟨a, n, c, m, n', D, Pl, hcs, _, hl, hm, hmm, _, hx⟩
  · simp at hcs
    subst hcs
    exact ⟨none, 0, 0, [], rfl, Nat.le_refl _, by unfold maxLen; omega, rfl, by simp, .inl rfl⟩
  · simp at hcs
    subst hcs
    rw [hc] at hx
    have hmn : n ≤ m := by rw [hmm]; split <;> omega
    obtain ⟨l, hll, hlp⟩ := list_of (n := n) (p := fun i (z : Sg) => w.cell? (a.add (i * 2)) = some (.int .i64 z.k) ∧ w.cell? (a.add (i * 2 + 1)) = some (.slice z.A z.n z.c) ∧ z.n ≤ z.c ∧ z.c ≤ maxLen ∧ (Lit.int .i64 z.k).wf = true ∧ (∀ x ∈ z.xs, 0 ≤ x ∧ x < 4294967296) ∧ U32s w w.heap.size z.A z.n z.xs) (fun i hin => by
      obtain ⟨cs', hcells, htr⟩ := hx i (by omega)
      obtain ⟨hz2, _, hat⟩ := World.cells?_some hcells
      obtain ⟨x, hx0, hw0⟩ := leaf_int h0 hi htr
      have hlen : 1 < cs'.length := by first | omega | (have := (List.getElem?_eq_some_iff.1 hx0).1; omega)
      obtain ⟨f2, y2, hy2⟩ := leaf_any h1 htr (List.getElem?_eq_getElem hlen)
      obtain ⟨A, n2, c2, xs, hv, g1, g2, g3, g4⟩ := u32s_of_trod hi2 hq hcq hy2 hsp
      have hy0 : cs'[1]? = some (.slice A n2 c2) := by rw [List.getElem?_eq_getElem hlen, hv]
      have e0 := (hat 0 (by omega)).trans hx0
      have e1 := (hat 1 (by omega)).trans hy0
      rw [Go.Deep.add_add] at e0 e1
      exact ⟨⟨x, A, n2, c2, xs⟩, by simpa using e0, e1, g1, g2, hw0, g3, g4⟩)
    refine ⟨some a, n, c, l, rfl, hl, hm, hll.symm, fun s hs => ?_, ?_⟩
    · obtain ⟨i, hi⟩ := List.getElem?_of_mem hs
      exact (hlp i s hi).2.2
    · rcases l with _ | ⟨z, l⟩
      · exact .inl rfl
      · right
        have hz := (hlp 0 z rfl).1
        have hsp2 := World.cell?_spot hz
        have hlt := World.block_lt_of_cell? w _ hz
        obtain ⟨b, o, s⟩ := a
        have hs' : s = none := by simpa [Addr.add] using hsp2
        subst hs'
        refine ⟨b, o, rfl, by simpa [Addr.add] using hlt, fun i s hi => ?_⟩
        have := hlp i s hi
        rw [Addr.add_lit, Addr.add_lit] at this
        exact ⟨this.1, this.2.1⟩
theorem slice_of_trod {t e : TypeId} {v : Value} {fuel : Nat} {y : DataW H × List MemPlace} (ht : P.underlying t = some (.slice e)) (h : DataW.trod enc P w 0 spare held fuel t [v] = some y) : ∃ A n c, v = .slice A n c ∧ n ≤ c ∧ c ≤ maxLen := by
  rcases open_slice ht h with ⟨hcs, _⟩ | ⟨a, n, c, m, n', D, Pl, hcs, _, hl, hm, _⟩
  · simp at hcs
    exact ⟨none, 0, 0, hcs, Nat.le_refl _, by unfold maxLen; omega⟩
  · simp at hcs
    exact ⟨_, _, _, hcs, hl, hm⟩
theorem arr9 {C : Array Value} {x0 x1 x2 x3 x4 x5 x6 x7 x8 : Value} (h : C.size = 9) (h0 : C.toList[0]? = some x0) (h1 : C.toList[1]? = some x1) (h2 : C.toList[2]? = some x2) (h3 : C.toList[3]? = some x3) (h4 : C.toList[4]? = some x4) (h5 : C.toList[5]? = some x5) (h6 : C.toList[6]? = some x6) (h7 : C.toList[7]? = some x7) (h8 : C.toList[8]? = some x8) : C = #[x0, x1, x2, x3, x4, x5, x6, x7, x8] := by
  obtain ⟨l⟩ := C
  match l, h, h0, h1, h2, h3, h4, h5, h6, h7, h8 with
  | [a, b, c, d, e, f, g, i, j], _, h0, h1, h2, h3, h4, h5, h6, h7, h8 =>
    simp at h0 h1 h2 h3 h4 h5 h6 h7 h8
    subst h0 h1 h2 h3 h4 h5 h6 h7 h8
    rfl
/-- What is known of an attribute that came in. -/
def AtIn (w : World) (a : At) : Prop :=
  (Lit.int .i64 a.k).wf = true ∧ (0 ≤ a.N ∧ a.N < 4294967296) ∧ (0 ≤ a.M ∧ a.M < 4294967296) ∧ (Lit.int .i64 a.f).wf = true ∧
  (a.n1 ≤ a.c1 ∧ a.c1 ≤ maxLen ∧ ∃ ss, Segs w w.heap.size a.A1 a.n1 ss) ∧ (a.n2 ≤ a.c2 ∧ a.c2 ≤ maxLen ∧ ∃ xs, (∀ x ∈ xs, 0 ≤ x ∧ x < 4294967296) ∧ U32s w w.heap.size a.A2 a.n2 xs) ∧
  (a.n3 ≤ a.c3 ∧ a.c3 ≤ maxLen ∧ ∃ xs, Bytes w w.heap.size a.A3 a.n3 xs) ∧ (a.n4 ≤ a.c4 ∧ a.c4 ≤ maxLen)
set_option maxRecDepth 100000 in
theorem open_at {C : Array Value} {fuel : Nat} {x : DataW H × List MemPlace} (hz : C.size = Tryd.prog.cellsOf 55) (hx : DataW.trod enc Tryd.prog w 0 spare held fuel 55 C.toList = some x) (hsp : ∀ b, spare b = true) :
    ∃ a : At, C = atc a ∧ AtIn w a := by
  have hz9 : C.size = 9 := hz.trans (by kernel_rfl)
  have hll : ∀ i, i < 9 → ∃ v, C.toList[i]? = some v := fun i hi => ⟨C.toList[i]'(by rw [Array.length_toList]; omega), List.getElem?_eq_getElem _⟩
  obtain ⟨k, e0, w0⟩ := leaf_int (n := 5) (i := 0) (l := 3) (by kernel_rfl) Tryd.underlying3 hx
  obtain ⟨p, e1⟩ := leaf_bool (n := 5) (i := 1) (l := 4) (by kernel_rfl) Tryd.underlying4 hx
  obtain ⟨N, e2, w2⟩ := leaf_int (n := 5) (i := 2) (l := 51) (by kernel_rfl) Tryd.underlying51 hx
  obtain ⟨M, e3, w3⟩ := leaf_int (n := 5) (i := 3) (l := 51) (by kernel_rfl) Tryd.underlying51 hx
  obtain ⟨f, e7, w7⟩ := leaf_int (n := 5) (i := 7) (l := 3) (by kernel_rfl) Tryd.underlying3 hx
  obtain ⟨v4, e4⟩ := hll 4 (by omega)
  obtain ⟨v5, e5⟩ := hll 5 (by omega)
  obtain ⟨v6, e6⟩ := hll 6 (by omega)
  obtain ⟨v8, e8⟩ := hll 8 (by omega)
  obtain ⟨_, _, t4⟩ := leaf_any (n := 5) (i := 4) (l := 22) (by kernel_rfl) hx e4
  obtain ⟨_, _, t5⟩ := leaf_any (n := 5) (i := 5) (l := 52) (by kernel_rfl) hx e5
  obtain ⟨_, _, t6⟩ := leaf_any (n := 5) (i := 6) (l := 25) (by kernel_rfl) hx e6
  obtain ⟨_, _, t8⟩ := leaf_any (n := 5) (i := 8) (l := 53) (by kernel_rfl) hx e8
  obtain ⟨A1, n1, c1, ss, rfl, g1, g2, g3⟩ := segs_of_trod Tryd.underlying22 (by kernel_rfl) (lt := 3) Tryd.underlying3 (l2 := 52) Tryd.underlying52 Tryd.underlying51 (by kernel_rfl) (by kernel_rfl) (by kernel_rfl) t4 hsp
  obtain ⟨A2, n2, c2, ls, rfl, g4, g5, g6, g7⟩ := u32s_of_trod Tryd.underlying52 Tryd.underlying51 (by kernel_rfl) t5 hsp
  obtain ⟨A3, n3, c3, bs, rfl, g8, g9, g10⟩ := bytes_of_trod Tryd.underlying25 Tryd.underlying5 (by kernel_rfl) t6 hsp
  obtain ⟨A4, n4, c4, rfl, g11, g12⟩ := slice_of_trod Tryd.underlying53 t8
  exact ⟨⟨k, p, N, M, A1, n1, c1, A2, n2, c2, A3, n3, c3, f, A4, n4, c4⟩, arr9 hz9 e0 e1 e2 e3 e4 e5 e6 e7 e8, w0, wf_u32 w2, wf_u32 w3, w7, ⟨g1, g2, ss, g3⟩, ⟨g4, g5, ls, g6, g7⟩, ⟨g8, g9, bs, g10⟩, g11, g12⟩
end
end Go.Proofs.YtecbbjdcnlocdaaDoor

/- peerageref06.Few, small -/
namespace Go.Proofs.YtecbbjdcnlocdaaDoor
open Go.RowKit

def fewTo (ss : List Sg) (k : Nat) : Nat := ((ss.take k).map fun s => min s.n 1000).sum
theorem fewTo_le (ss : List Sg) (k : Nat) : fewTo ss k ≤ 1000 * k := by
  unfold fewTo
  induction k generalizing ss with
  | zero => simp
  | succ k ih =>
    rcases ss with _ | ⟨s, ss⟩
    · simp
    · have := ih ss
      simp only [List.take_succ_cons, List.map_cons, List.sum_cons]
      omega
theorem fewTo_succ {ss : List Sg} {k : Nat} (h : k < ss.length) : fewTo ss (k + 1) = fewTo ss k + min (sgth ss k).n 1000 := by
  unfold fewTo
  rw [List.take_add_one, sgth_some h]
  simp
def fewB (ss : List Sg) : Bool := decide (ss.length ≤ 50 ∧ fewTo ss ss.length ≤ 600)
set_option maxRecDepth 100000 in
theorem sl_segs : SliceOf Tryd.prog 22 61 2 32 := SliceOf.mk Tryd.underlying22 (z := .agg #[.int .i64 0, .slice none 0 0]) (by kernel_rfl) rfl (by decide)
set_option maxRecDepth 100000 in
set_option maxHeartbeats 800000 in
theorem few_any (A : Option Addr) (n c : Nat) (ss : List Sg) (w : World) (hx : Segs w w.heap.size A n ss) (hm : n ≤ maxLen) :
    Calls Tryd.prog 8 #[.slice A n c] w fun e w' => e = .returned (.bool (fewB ss)) ∧ w = w' := by
  unfold maxLen at hm
  have HN := Lib.hid hx.1
  by_cases hn : n ≤ 50
  · go_enter Tryd.func8, Tryd.ntmps8
    go_wp2
    go_loop [3, 4] (fun s i => ∃ k : Nat, k ≤ n ∧ i = .int .i64 k ∧ s = .int .i64 (fewTo ss k : Nat)) (fun _ i => n - (intOf i).toNat)
    case atStart => exact ⟨0, Nat.zero_le _, rfl, rfl⟩
    case round =>
      obtain ⟨k, hk, rfl, rfl⟩ := hrel
      by_cases hlt : k < n
      · obtain ⟨b, o, rfl, hb, hc0, hc1⟩ := hx.at_ hlt
        have hle := fewTo_le ss k
        have hsu := Lib.hid (fewTo_succ (ss := ss) (k := k) (by have := HN.out; omega))
        generalize (sgth ss k).n = m at *
        generalize fewTo ss k = t at *
        go_wp2
        go_round
        case rel => exact ⟨k + 1, by omega, by go_num, by rw [hsu.out]; go_num⟩
        case measure => simp [intOf]; omega
      · obtain rfl : k = n := by omega
        have hle := fewTo_le ss k
        have hO : Hid (fewB ss = decide ((fewTo ss k : Int) ≤ 600)) := Lib.hid (by unfold fewB; rw [← HN.out]; rw [Bool.eq_iff_iff]; simp only [decide_eq_true_eq]; omega)
        generalize fewTo ss k = t at *
        go_wp2
        go_ret
        exact ⟨by rw [hO.out]; rfl, rfl⟩
  · have hO : Hid (fewB ss = false) := Lib.hid (by unfold fewB; rw [← HN.out]; exact decide_eq_false (by omega))
    have dn : decide ((n : Int) ≤ 50) = false := by simp; omega
    go_enter Tryd.func8, Tryd.ntmps8
    go_wp2
    go_loop [3, 4] (fun s i => ∃ k : Nat, k ≤ n ∧ i = .int .i64 k ∧ ∃ z, s = .int .i64 z) (fun _ i => n - (intOf i).toNat)
    case atStart => exact ⟨0, Nat.zero_le _, rfl, _, rfl⟩
    case round =>
      obtain ⟨k, hk, rfl, z, rfl⟩ := hrel
      by_cases hlt : k < n
      · obtain ⟨b, o, rfl, hb, hc0, hc1⟩ := hx.at_ hlt
        generalize (sgth ss k).n = m at *
        go_wp2
        go_round
        case rel => exact ⟨k + 1, by omega, by go_num, _, rfl⟩
        case measure => simp [intOf]; omega
      · obtain rfl : k = n := by omega
        go_wp2
        go_ret
        exact ⟨by rw [hO.out]; rfl, rfl⟩
/-- Whether an attribute is small. -/
def smallB (a : At) (ss : List Sg) : Bool := fewB ss && decide (a.n2 ≤ 300 ∧ a.n3 ≤ 600 ∧ a.n4 ≤ 100)
end Go.Proofs.YtecbbjdcnlocdaaDoor

/- peerageref03.Valid, form, Bytes -/
namespace Go.Proofs.YtecbbjdcnlocdaaDoor
open Go.RowKit

set_option maxHeartbeats 800000 in
set_option maxRecDepth 100000 in
theorem rright_any (f : Int) (add : Bool) (r : Rt) (w : World) (hok : r.Ok) :
    Calls Tryd.prog 127 #[.int .i64 f, .bool add, .agg (rt r)] w fun e w' => e = .returned (.bool (rtOk f add r)) ∧ Below w.heap.size w w' := by
  have hi18 := Lib.hid (pfx_infol (f := r.f) (l := r.l) hok.1.1)
  have ho := Own.new w 119 (rt r)
  have hb0 := bl_alloc (bl_refl w) (.cells (rt r) 119)
  have hpx := ho.pfxAt
  have HO := Lib.hid (show rtOk f add r = (pfxOk r.f r.l r.a && decide (r.f = f) && (add || decide (r.p = 0))) by unfold rtOk; rw [Bool.and_comm (decide _)])
  go_enter Tryd.func127, Tryd.ntmps127
  go_wp2_with (refine wpList_load_mid rfl 41 _ rfl w.heap.size 1 rfl (pfx r.f r.l r.a).toList (.struct (Tryd.prog.fieldsOf 41)) hpx pfx_desc rfl hi18.out ?_)
  refine (rpvalid_any _ _ _ _ hok.1).mono ?_
  rintro e w1 ⟨rfl, hb1⟩
  have ho1 := ho.step hb1
  have hc0 := ho1.cell (rt_0 _)
  have hc1 := ho1.cell (rt_1 _)
  have hb2 := bl_trans hb0 hb1
  clear ho hb0 hpx hb1
  go_wp2_with fail
  all_goals
    go_ret
    refine ⟨?_, hb2⟩
    rw [HO.out]
    first | (simp_all; done) | (simp_all; rfl)

set_option maxHeartbeats 800000 in
set_option maxRecDepth 100000 in
theorem rvalid_any (f : Int) (add : Bool) (A : Option Addr) (n c : Nat) (rs : List Rt) (w : World) (h : Routes w w.heap.size A n rs) (hn : n ≤ 1000000000) :
    Calls Tryd.prog 106 #[.int .i64 f, .bool add, .slice A n c] w fun e w' => e = .returned (.bool (rs.all (rtOk f add))) ∧ Below w.heap.size w w' := by
  have HN := Lib.hid h.1
  go_enter Tryd.func106, Tryd.ntmps106
  go_wp2_with fail
  go_loopw [7] (fun i wr => (∃ j : Nat, j ≤ n ∧ i = .int .i64 j ∧ (rs.take j).all (rtOk f add) = true) ∧ Below w.heap.size w wr) (fun i _ => n - (intOf i).toNat)
  case atStart => exact ⟨⟨0, Nat.zero_le _, rfl, by simp⟩, bl_refl w⟩
  case round =>
    obtain ⟨⟨j, hj, rfl, hall⟩, hbw⟩ := hrel
    by_cases hlt : j < n
    · obtain ⟨b, o, rfl, hbB, hok, hrg⟩ := (h.below hbw).at_ hlt
      have hi19 := Lib.hid (rt_infol hok.1.1)
      have hj' := Lib.hid (show j < rs.length by have := HN.out; omega)
      go_wp2_with (refine wpList_load_mid rfl 119 _ rfl b (o + j * 19) rfl (rt (nthR rs j)).toList (.struct (Tryd.prog.fieldsOf 119)) hrg rt_desc rfl hi19.out ?_)
      refine (rright_any f add (nthR rs j) _ hok).mono ?_
      by_cases hr : rtOk f add (nthR rs j) = true
      · rw [hr]
        rintro e w2 ⟨rfl, hb2⟩
        have hb3 := bl_trans hbw hb2
        go_wp2
        go_roundw
        case rel => exact ⟨⟨j + 1, by omega, by go_num, all_step hj'.out hall hr⟩, hb3⟩
        case measure => simp [intOf]; omega
      · have hr' : rtOk f add (nthR rs j) = false := by simpa using hr
        rw [hr']
        rintro e w2 ⟨rfl, hb2⟩
        have hb3 := bl_trans hbw hb2
        go_wp2
        go_ret
        exact ⟨by rw [all_no hj'.out hr']; rfl, hb3⟩
    · have hjn := Lib.hid (show j = rs.length by have := HN.out; omega)
      go_wp2
      go_ret
      refine ⟨?_, hbw⟩
      rw [hjn.out, List.take_length] at hall
      rw [hall]; rfl

theorem own_base_le {w : World} {base b : Nat} {e : TypeId} {size n : Nat} {v : Value} {xs : List Value} (h : w.ownsRow base e size v n xs) (hb : b ≤ base) : w.ownsRow b e size v n xs := by
  refine ⟨h.1, ?_⟩
  rcases h.2 with hn | ⟨g, cap, cur, hv, hbg, rest⟩
  · exact .inl hn
  · exact .inr ⟨g, cap, cur, hv, Nat.le_trans hb hbg, rest⟩

end Go.Proofs.YtecbbjdcnlocdaaDoor

/- mp: small; the reference's bare, shaped, Valid -/
namespace Go.Proofs.YtecbbjdcnlocdaaDoor
open Go.RowKit

def small12B (a : At) (ss : List Sg) : Bool := fewB ss && decide (a.n2 ≤ 200 ∧ a.n3 ≤ 600 ∧ a.n4 ≤ 100)
set_option maxRecDepth 100000 in
theorem small12_any (a : At) (ss : List Sg) (w : World) (hs : Segs w w.heap.size a.A1 a.n1 ss) (hm : a.n1 ≤ maxLen) :
    Calls Tryd.prog 33 #[.agg (atc a)] w fun e w' => e = .returned (.bool (small12B a ss)) ∧ Below w.heap.size w w' := by
  have hO : Hid (small12B a ss = (fewB ss && decide (a.n2 ≤ 200 ∧ a.n3 ≤ 600 ∧ a.n4 ≤ 100))) := Lib.hid rfl
  generalize small12B a ss = V at *
  have hF := Lib.hid (fun W hW => few_any a.A1 a.n1 a.c1 ss W hW hm)
  generalize fewB ss = Q at *
  obtain ⟨k, p, N, M, A1, n1, c1, A2, n2, c2, A3, n3, c3, f, A4, n4, c4⟩ := a
  unfold atc
  dsimp only at *
  have hb := bl_alloc (bl_refl w) (.cells #[.int .i64 k, .bool p, .int .u32 N, .int .u32 M, .slice A1 n1 c1, .slice A2 n2 c2, .slice A3 n3 c3, .int .i64 f, .slice A4 n4 c4] 55)
  have HS := Lib.hid ((hs.below hb).more hb.size)
  clear hs
  go_enter Tryd.func33, Tryd.ntmps33
  go_wp2_with fail
  refine (hF.out _ HS.out).mono ?_
  rintro e w1 ⟨rfl, rfl⟩
  cases Q
  · go_wp2
    go_ret
    exact ⟨ret_boolA (by rw [hO.out]; rfl), hb⟩
  · go_wp2
    all_goals go_ret
    all_goals refine ⟨ret_boolA ?_, hb⟩
    all_goals (rw [hO.out, Bool.true_and]; rw [Bool.eq_iff_iff]; simp only [decide_eq_true_eq, Bool.false_eq_true, false_iff] at *; omega)
/-- No other fields than those of these types. -/
def bareM (a : At) : Bool := decide (a.n1 = 0 ∧ a.n2 = 0) && (decide (a.N = 0 ∧ a.M = 0) && !a.p)
set_option maxRecDepth 100000 in
set_option maxHeartbeats 1600000 in
theorem rmbare_any (a : At) (w : World) : Calls Tryd.prog 105 #[.agg (atc a)] w fun e w' => e = .returned (.bool (bareM a)) ∧ Below w.heap.size w w' := by
  obtain ⟨k, p, N, M, A1, n1, c1, A2, n2, c2, A3, n3, c3, f, A4, n4, c4⟩ := a
  have hV : Hid (bareM ⟨k, p, N, M, A1, n1, c1, A2, n2, c2, A3, n3, c3, f, A4, n4, c4⟩ = (decide (n1 = 0 ∧ n2 = 0) && (decide (N = 0 ∧ M = 0) && !p))) := Lib.hid rfl
  generalize bareM ⟨k, p, N, M, A1, n1, c1, A2, n2, c2, A3, n3, c3, f, A4, n4, c4⟩ = V at *
  unfold atc
  dsimp only
  have o1 := Own.new w 55 #[.int .i64 k, .bool p, .int .u32 N, .int .u32 M, .slice A1 n1 c1, .slice A2 n2 c2, .slice none 0 0, .int .i64 0, .slice none 0 0]
  have hb1 := bl_alloc (bl_refl w) (.cells #[.int .i64 k, .bool p, .int .u32 N, .int .u32 M, .slice A1 n1 c1, .slice A2 n2 c2, .slice none 0 0, .int .i64 0, .slice none 0 0] 55)
  have HB := Lib.hid (rbare_any ⟨k, p, N, M, A1, n1, c1, A2, n2, c2, none, 0, 0, 0, none, 0, 0⟩ (w.alloc (.cells #[.int .i64 k, .bool p, .int .u32 N, .int .u32 M, .slice A1 n1 c1, .slice A2 n2 c2, .slice none 0 0, .int .i64 0, .slice none 0 0] 55)))
  have HV2 : Hid (bareB ⟨k, p, N, M, A1, n1, c1, A2, n2, c2, none, 0, 0, 0, none, 0, 0⟩ = decide (n1 = 0 ∧ n2 = 0)) := Lib.hid (by unfold bareB; simp)
  rw [HV2.out] at HB
  generalize decide (n1 = 0 ∧ n2 = 0) = Q at *
  clear HV2
  unfold atc at HB
  dsimp only at HB
  go_enter Tryd.func105, Tryd.ntmps105
  go_wp2_with fail
  refine HB.out.mono ?_
  rintro e w2 ⟨rfl, hb2⟩
  have o2 := o1.step hb2
  have h2 := o2.lt
  have hb3 := bl_trans hb1 hb2
  obtain ⟨e0, e1, e2, e3, e4, e5, e6, e7, e8⟩ := at_cells o2
  clear o1 o2 hb1 hb2
  cases Q
  · go_wp2
    go_ret
    exact ⟨ret_boolM (by rw [hV.out]; rfl), hb3⟩
  · cases p
    all_goals
      go_wp2
      all_goals go_ret
      all_goals refine ⟨ret_boolM ?_, hb3⟩
      all_goals (rw [hV.out, Bool.true_and]; rw [Bool.eq_iff_iff]; simp_all)
/-- Whether an attribute is valid, apart from options. -/
def shB (add : Bool) (a : At) (rs : List Rt) : Bool := hasB a.k && (decide (a.f = 1 ∨ a.f = 2) && (bareM a && (rs.all (rtOk a.f add) && if a.k = 15 then decide (a.n3 = 0) else hopB a.f a.n3)))
set_option maxRecDepth 100000 in
set_option maxHeartbeats 3200000 in
theorem rshaped_any (add : Bool) (a : At) (rs : List Rt) (w : World) (hr : Routes w w.heap.size a.A4 a.n4 rs) (hn : a.n4 ≤ 1000000000) :
    Calls Tryd.prog 76 #[.bool add, .agg (atc a)] w fun e w' => e = .returned (.bool (shB add a rs)) ∧ Below w.heap.size w w' := by
  have hH := Lib.hid (fun W => rmhas_any a.k W)
  have hBa := Lib.hid (fun W => rmbare_any a W)
  have hRv := Lib.hid (fun W (h : Below w.heap.size w W) => rvalid_any a.f add a.A4 a.n4 a.c4 rs W ((hr.below h).more h.size) hn)
  have hHp := Lib.hid (fun W => rmhop_any a.f a.n3 W)
  have hV : Hid (shB add a rs = (hasB a.k && (decide (a.f = 1 ∨ a.f = 2) && (bareM a && (rs.all (rtOk a.f add) && if a.k = 15 then decide (a.n3 = 0) else hopB a.f a.n3))))) := Lib.hid rfl
  generalize shB add a rs = V at *
  have hk15 : Hid (hasB a.k = true → a.k = 14 ∨ a.k = 15) := Lib.hid (fun h => by unfold hasB at h; exact of_decide_eq_true h)
  generalize hasB a.k = Q1 at *
  generalize bareM a = Q2 at *
  generalize rs.all (rtOk a.f add) = Q3 at *
  generalize hopB a.f a.n3 = Q4 at *
  obtain ⟨k, p, N, M, A1, n1, c1, A2, n2, c2, A3, n3, c3, f, A4, n4, c4⟩ := a
  unfold atc at *
  dsimp only at *
  have o0 := Own.new w 55 #[.int .i64 k, .bool p, .int .u32 N, .int .u32 M, .slice A1 n1 c1, .slice A2 n2 c2, .slice A3 n3 c3, .int .i64 f, .slice A4 n4 c4]
  have hb0 := bl_alloc (bl_refl w) (.cells #[.int .i64 k, .bool p, .int .u32 N, .int .u32 M, .slice A1 n1 c1, .slice A2 n2 c2, .slice A3 n3 c3, .int .i64 f, .slice A4 n4 c4] 55)
  clear hr
  go_enter Tryd.func76, Tryd.ntmps76
  go_wp2_with fail
  refine (hH.out _).mono ?_
  rintro e w1 ⟨rfl, rfl⟩
  cases Q1 with
  | false =>
    go_wp2
    go_ret
    exact ⟨ret_boolM (by rw [hV.out]; rfl), hb0⟩
  | true =>
    by_cases hf : f = 1 ∨ f = 2
    · have hk := hk15.out rfl
      have HV2 : Hid (V = (Q2 && (Q3 && if k = 15 then decide (n3 = 0) else Q4))) := Lib.hid (by rw [hV.out, decide_eq_true hf]; rfl)
      clear hV hk15
      rcases hf with rfl | rfl
      all_goals
        go_wp2_with fail
        refine (hBa.out _).mono ?_
        rintro e w2 ⟨rfl, hb2⟩
        have hb3 := bl_trans hb0 hb2
        have o2 := o0.step hb2
        cases Q2 with
        | false =>
          go_wp2
          go_ret
          exact ⟨ret_boolM (by rw [HV2.out]; rfl), hb3⟩
        | true =>
          obtain ⟨e0, e1, e2, e3, e4, e5, e6, e7, e8⟩ := at_cells o2
          have h2 := o2.lt
          clear hb2
          go_wp2_with fail
          refine (hRv.out _ hb3).mono ?_
          rintro e w3 ⟨rfl, hb4⟩
          have hb5 := bl_trans hb3 hb4
          have o3 := o2.step hb4
          clear e0 e1 e2 e3 e4 e5 e6 e7 e8 h2 hb4 o2
          obtain ⟨e0, e1, e2, e3, e4, e5, e6, e7, e8⟩ := at_cells o3
          have h3 := o3.lt
          clear o3
          cases Q3 with
          | false =>
            go_wp2
            go_ret
            exact ⟨ret_boolM (by rw [HV2.out]; rfl), hb5⟩
          | true =>
            rcases hk with rfl | rfl
            · go_wp2_with fail
              refine (hHp.out _).mono ?_
              rintro e w4 ⟨rfl, rfl⟩
              go_wp2
              go_ret
              exact ⟨ret_boolM (by rw [HV2.out]; rfl), hb5⟩
            · have hq : ((n3 : Int) == 0) = decide (n3 = 0) := by rw [Bool.eq_iff_iff]; simp
              have HQ := Lib.hid hq
              clear hq
              go_wp2
              go_ret
              exact ⟨ret_boolM (by rw [HV2.out, ← HQ.out]; rfl), hb5⟩
    · have h1 : f ≠ 1 := fun h => hf (.inl h)
      have h2 : f ≠ 2 := fun h => hf (.inr h)
      have HV2 : Hid (V = false) := Lib.hid (by rw [hV.out, decide_eq_false hf]; rfl)
      have q1 : (f != 1) = true := by simpa using h1
      have q2 : (f != 2) = true := by simpa using h2
      clear hf h1 h2
      go_wp2
      go_ret
      exact ⟨ret_boolM HV2.out.symm, hb0⟩
end Go.Proofs.YtecbbjdcnlocdaaDoor

/- peerageref12.Valid -/
namespace Go.Proofs.YtecbbjdcnlocdaaDoor
open Go.RowKit Go.Sort

abbrev o6c (a0 a1 a2 a3 a4 a5 : Bool) : Array Value := #[.bool a0, .bool a1, .bool a2, .bool a3, .bool a4, .bool a5]
set_option maxRecDepth 100000 in
theorem quiet_of {w : World} {v : Value} {f : FuncId} {args : Array Value} (h : ∀ W, Calls Tryd.prog f args W fun e w' => e = .returned v ∧ W = w') (d : Nat) (os : Array Obj) :
    Calls Tryd.prog f args (grow (redrawn w d) os) fun e w'' => e = .returned v ∧ ∃ p : Regrown, w'' = grow (redrawn w p.d) p.os := rg_of (fun W _ => (h W).mono (fun _ _ hh => ⟨hh.1, by rw [← hh.2]; exact bl_refl _⟩)) d os
def rmvB (a2 a3 a4 a5 : Bool) (a : At) (rs : List Rt) : Bool := famB a2 a3 a.f && shB (famB a4 a5 a.f) a rs
end Go.Proofs.YtecbbjdcnlocdaaDoor

/- mp.Valid (written by gen/mpd.py) -/
namespace Go.Proofs.YtecbbjdcnlocdaaDoor
open Go.RowKit Go.Sort

def hop2B (a : At) : Bool := if a.k = 14 then hopB a.f a.n3 else decide (a.n3 = 0)
def mvB (a2 a3 a4 a5 : Bool) (a : At) (rs : List Rt) : Bool := hasB a.k && (!a.p && (famB a2 a3 a.f && (rs.all (rtOk a.f (famB a4 a5 a.f)) && (hop2B a && decide (a.N = 0 ∧ a.M = 0 ∧ a.n1 = 0 ∧ a.n2 = 0)))))
theorem u32_nil (w : World) (B : Nat) : U32s w B none 0 [] := ⟨rfl, .inl rfl⟩
set_option maxRecDepth 100000 in
set_option maxHeartbeats 6400000 in
theorem mvalid_any (a0 a1 a2 a3 a4 a5 : Bool) (a : At) (rs : List Rt) (w : World) (hr : Routes w w.heap.size a.A4 a.n4 rs) (hn : a.n4 ≤ 1000000000) :
    Calls Tryd.prog 74 #[.agg #[.bool a0, .bool a1, .bool a2, .bool a3, .bool a4, .bool a5], .agg (atc a)] w fun e w' => e = .returned (.bool (mvB a2 a3 a4 a5 a rs)) ∧ Below w.heap.size w w' := by
  have hV : Hid (mvB a2 a3 a4 a5 a rs = (hasB a.k && (!a.p && (famB a2 a3 a.f && (rs.all (rtOk a.f (famB a4 a5 a.f)) && (hop2B a && decide (a.N = 0 ∧ a.M = 0 ∧ a.n1 = 0 ∧ a.n2 = 0))))))) := Lib.hid rfl
  have b1 := bl_alloc (bl_alloc (bl_refl w) (.cells #[.bool a0, .bool a1, .bool a2, .bool a3, .bool a4, .bool a5] 111)) (.cells (atc a) 55)
  have o1 := (Own.new w 111 #[.bool a0, .bool a1, .bool a2, .bool a3, .bool a4, .bool a5]).alloc (.cells (atc a) 55)
  have o2 := Own.new (w.alloc (.cells #[.bool a0, .bool a1, .bool a2, .bool a3, .bool a4, .bool a5] 111)) 55 (atc a)
  rw [show (w.alloc (.cells #[.bool a0, .bool a1, .bool a2, .bool a3, .bool a4, .bool a5] 111)).heap.size = w.heap.size + 1 by simp] at o2
  have h0 := Lib.hid (mhas_any a.k)
  have h1 := Lib.hid (omp_any a0 a1 a2 a3 a4 a5 a.f)
  have h2 := Lib.hid (oadd_any a0 a1 a2 a3 a4 a5 a.f)
  have h3 := Lib.hid (fun (W : World) (hW : Below w.heap.size w W) => nvalid_any a.f (famB a4 a5 a.f) a.A4 a.n4 a.c4 rs W ((hr.below hW).more hW.size) hn)
  have hHp := Lib.hid (mhop_any a.f a.n3)
  have hPl := Lib.hid (fun (W : World) => plain_any ⟨a.k, a.p, a.N, a.M, a.A1, a.n1, a.c1, a.A2, a.n2, a.c2, none, 0, 0, 0, none, 0, 0⟩ none 0 0 [] W (u32_nil _ _) (by unfold maxLen; omega))
  have hPv : Hid (plB ⟨a.k, a.p, a.N, a.M, a.A1, a.n1, a.c1, a.A2, a.n2, a.c2, none, 0, 0, 0, none, 0, 0⟩ [] = decide (a.N = 0 ∧ a.M = 0 ∧ a.n1 = 0 ∧ a.n2 = 0)) := Lib.hid (by
    unfold plB bareB
    dsimp only
    rw [show nth [] 0 = 0 from rfl, show nth [] 1 = 0 from rfl, Bool.eq_iff_iff]
    simp
    omega)
  have hk15 : Hid (hasB a.k = true → a.k = 14 ∨ a.k = 15) := Lib.hid (fun h => by unfold hasB at h; exact of_decide_eq_true h)
  have hH2 : Hid (hop2B a = if a.k = 14 then hopB a.f a.n3 else decide (a.n3 = 0)) := Lib.hid rfl
  rw [hPv.out] at hPl
  generalize mvB a2 a3 a4 a5 a rs = V at *
  generalize hop2B a = H at *
  generalize decide (a.N = 0 ∧ a.M = 0 ∧ a.n1 = 0 ∧ a.n2 = 0) = Z at *
  generalize hasB a.k = Q1 at *
  generalize hopB a.f a.n3 = Q4 at *
  generalize famB a2 a3 a.f = Q2 at *
  generalize rs.all (rtOk a.f (famB a4 a5 a.f)) = Q3 at *
  generalize famB a4 a5 a.f = D at *
  obtain ⟨k, p, N, M, A1, n1, c1, A2, n2, c2, A3, n3, c3, f, A4, n4, c4⟩ := a
  unfold atc at *
  dsimp only at *
  clear hr hPv
  go_enter Tryd.func74, Tryd.ntmps74
  go_wp2_with fail
  generalize (w.alloc (.cells #[.bool a0, .bool a1, .bool a2, .bool a3, .bool a4, .bool a5] 111)).alloc (.cells #[.int .i64 k, .bool p, .int .u32 N, .int .u32 M, .slice A1 n1 c1, .slice A2 n2 c2, .slice A3 n3 c3, .int .i64 f, .slice A4 n4 c4] 55) = W at *
  have q0 := cell_regrown (o2.cell (i := 0) (v := .int .i64 k) rfl)
  have q1 := cell_regrown (o2.cell (i := 1) (v := .bool p) rfl)
  have q7 := cell_regrown (o2.cell (i := 7) (v := .int .i64 f) rfl)
  have q8 := cell_regrown (o2.cell (i := 8) (v := .slice A4 n4 c4) rfl)
  have r1 := Lib.hid (quiet_of (w := W) h0.out)
  have r2 := Lib.hid (rg_of (w := W) (fun W' _ => h1.out W'))
  have r3 := Lib.hid (rg_of (w := W) (fun W' _ => h2.out W'))
  have r4 := Lib.hid (rg_of (w := W) (fun W' hW => h3.out W' (bl_trans b1 hW)))
  cases Q1 with
  | false =>
    refine wp_region_quiet_below (by kernel_rfl) (by kernel_rfl) ?_
    repeat (first
      | go_big_quiet_skip
      | (refine wpQuiet_load_row (by rfl) 111 _ rfl w.heap.size rfl 111 #[.bool a0, .bool a1, .bool a2, .bool a3, .bool a4, .bool a5] (.struct (Tryd.prog.fieldsOf 111)) o1.rg (by kernel_rfl) rfl (by kernel_rfl) ?_; go_simp)
      | go_big_quiet_step (with_reducible first | exact r1.out _ _ | exact r2.out _ _ | exact r3.out _ _ | exact r4.out _ _))
    refine wpQuiet_nil ?_
    first | rintro w' ⟨⟨dq, osq⟩, rfl⟩ | rintro ⟨dq, osq⟩
    have hgw := below_regrown W dq osq
    have hb3 := bl_trans b1 hgw
    have x2 := o2.step hgw
    generalize grow (redrawn W dq) osq = W3 at *
    clear r1 r2 r3 r4 q0 q1 q7 q8 o1 o2 hgw
    go_wp2
    go_ret
    exact ⟨ret_boolM (by rw [hV.out]; rfl), hb3⟩
  | true =>
    cases p with
    | true =>
      refine wp_region_quiet_below (by kernel_rfl) (by kernel_rfl) ?_
      repeat (first
        | go_big_quiet_skip
        | (refine wpQuiet_load_row (by rfl) 111 _ rfl w.heap.size rfl 111 #[.bool a0, .bool a1, .bool a2, .bool a3, .bool a4, .bool a5] (.struct (Tryd.prog.fieldsOf 111)) o1.rg (by kernel_rfl) rfl (by kernel_rfl) ?_; go_simp)
        | go_big_quiet_step (with_reducible first | exact r1.out _ _ | exact r2.out _ _ | exact r3.out _ _ | exact r4.out _ _))
      refine wpQuiet_nil ?_
      first | rintro w' ⟨⟨dq, osq⟩, rfl⟩ | rintro ⟨dq, osq⟩
      have hgw := below_regrown W dq osq
      have hb3 := bl_trans b1 hgw
      have x2 := o2.step hgw
      generalize grow (redrawn W dq) osq = W3 at *
      clear r1 r2 r3 r4 q0 q1 q7 q8 o1 o2 hgw
      go_wp2
      go_ret
      exact ⟨ret_boolM (by rw [hV.out]; rfl), hb3⟩
    | false =>
      cases Q2 with
      | false =>
        refine wp_region_quiet_below (by kernel_rfl) (by kernel_rfl) ?_
        repeat (first
          | go_big_quiet_skip
          | (refine wpQuiet_load_row (by rfl) 111 _ rfl w.heap.size rfl 111 #[.bool a0, .bool a1, .bool a2, .bool a3, .bool a4, .bool a5] (.struct (Tryd.prog.fieldsOf 111)) o1.rg (by kernel_rfl) rfl (by kernel_rfl) ?_; go_simp)
          | go_big_quiet_step (with_reducible first | exact r1.out _ _ | exact r2.out _ _ | exact r3.out _ _ | exact r4.out _ _))
        refine wpQuiet_nil ?_
        first | rintro w' ⟨⟨dq, osq⟩, rfl⟩ | rintro ⟨dq, osq⟩
        have hgw := below_regrown W dq osq
        have hb3 := bl_trans b1 hgw
        have x2 := o2.step hgw
        generalize grow (redrawn W dq) osq = W3 at *
        clear r1 r2 r3 r4 q0 q1 q7 q8 o1 o2 hgw
        go_wp2
        go_ret
        exact ⟨ret_boolM (by rw [hV.out]; rfl), hb3⟩
      | true =>
        cases Q3 with
        | false =>
          refine wp_region_quiet_below (by kernel_rfl) (by kernel_rfl) ?_
          repeat (first
            | go_big_quiet_skip
            | (refine wpQuiet_load_row (by rfl) 111 _ rfl w.heap.size rfl 111 #[.bool a0, .bool a1, .bool a2, .bool a3, .bool a4, .bool a5] (.struct (Tryd.prog.fieldsOf 111)) o1.rg (by kernel_rfl) rfl (by kernel_rfl) ?_; go_simp)
            | go_big_quiet_step (with_reducible first | exact r1.out _ _ | exact r2.out _ _ | exact r3.out _ _ | exact r4.out _ _))
          refine wpQuiet_nil ?_
          first | rintro w' ⟨⟨dq, osq⟩, rfl⟩ | rintro ⟨dq, osq⟩
          have hgw := below_regrown W dq osq
          have hb3 := bl_trans b1 hgw
          have x2 := o2.step hgw
          generalize grow (redrawn W dq) osq = W3 at *
          clear r1 r2 r3 r4 q0 q1 q7 q8 o1 o2 hgw
          go_wp2
          go_ret
          exact ⟨ret_boolM (by rw [hV.out]; rfl), hb3⟩
        | true =>
          have hk := hk15.out rfl
          have HV2 : Hid (V = (H && Z)) := Lib.hid hV.out
          clear hV hk15
          refine wp_region_quiet_below (by kernel_rfl) (by kernel_rfl) ?_
          repeat (first
            | go_big_quiet_skip
            | (refine wpQuiet_load_row (by rfl) 111 _ rfl w.heap.size rfl 111 #[.bool a0, .bool a1, .bool a2, .bool a3, .bool a4, .bool a5] (.struct (Tryd.prog.fieldsOf 111)) o1.rg (by kernel_rfl) rfl (by kernel_rfl) ?_; go_simp)
            | go_big_quiet_step (with_reducible first | exact r1.out _ _ | exact r2.out _ _ | exact r3.out _ _ | exact r4.out _ _))
          refine wpQuiet_nil ?_
          first | rintro w' ⟨⟨dq, osq⟩, rfl⟩ | rintro ⟨dq, osq⟩
          have hgw := below_regrown W dq osq
          have hb3 := bl_trans b1 hgw
          have x2 := o2.step hgw
          generalize grow (redrawn W dq) osq = W3 at *
          clear r1 r2 r3 r4 q0 q1 q7 q8 o1 o2 hgw
          obtain ⟨e0, e1, e2, e3, e4, e5, e6, e7, e8⟩ := at_cells x2
          have hlt := x2.lt
          have z6 := x2.frozen 6
          have z7 := x2.frozen 7
          have z8 := x2.frozen 8
          have y2 : Own (((W3.setCell ⟨w.heap.size + 1, 7, none⟩ (.int .i64 0)).setCell ⟨w.heap.size + 1, 6, none⟩ (.slice none 0 0)).setCell ⟨w.heap.size + 1, 8, none⟩ (.slice none 0 0)) (w.heap.size + 1) 55 #[.int .i64 k, .bool false, .int .u32 N, .int .u32 M, .slice A1 n1 c1, .slice A2 n2 c2, .slice none 0 0, .int .i64 0, .slice none 0 0] := ((x2.set_ 7 (.int .i64 0)).set_ 6 (.slice none 0 0)).set_ 8 (.slice none 0 0)
          have hb2 := ((hb3.setCell (p := ⟨w.heap.size + 1, 7, none⟩) (by simp) (.int .i64 0)).setCell (p := ⟨w.heap.size + 1, 6, none⟩) (by simp) (.slice none 0 0)).setCell (p := ⟨w.heap.size + 1, 8, none⟩) (by simp) (.slice none 0 0)
          rcases hk with rfl | rfl
          · have HV3 : Hid (V = (Q4 && Z)) := Lib.hid (by rw [HV2.out, hH2.out]; rfl)
            clear HV2 hH2
            go_wp2_with fail
            refine (hHp.out _).mono ?_
            rintro e w4 ⟨rfl, rfl⟩
            cases Q4 with
            | false =>
              go_wp2
              go_ret
              exact ⟨ret_boolM (by rw [HV3.out]; rfl), hb3⟩
            | true =>
              go_wp2_with (refine wpList_load_row rfl 55 _ rfl (w.heap.size + 1) rfl 55 #[.int .i64 14, .bool false, .int .u32 N, .int .u32 M, .slice A1 n1 c1, .slice A2 n2 c2, .slice none 0 0, .int .i64 0, .slice none 0 0] (0, 0) (.struct (Tryd.prog.fieldsOf 55)) y2 (by kernel_rfl) rfl (by kernel_rfl) ?_)
              refine (hPl.out _).mono ?_
              rintro e w5 ⟨rfl, hb5⟩
              go_wp2
              go_ret
              exact ⟨ret_boolM (by rw [HV3.out]; rfl), bl_trans hb2 hb5⟩
          · have HV3 : Hid (V = (decide (n3 = 0) && Z)) := Lib.hid (by rw [HV2.out, hH2.out]; rfl)
            clear HV2 hH2
            by_cases hn3 : n3 = 0
            · subst hn3
              go_wp2_with (refine wpList_load_row rfl 55 _ rfl (w.heap.size + 1) rfl 55 #[.int .i64 15, .bool false, .int .u32 N, .int .u32 M, .slice A1 n1 c1, .slice A2 n2 c2, .slice none 0 0, .int .i64 0, .slice none 0 0] (0, 0) (.struct (Tryd.prog.fieldsOf 55)) y2 (by kernel_rfl) rfl (by kernel_rfl) ?_)
              refine (hPl.out _).mono ?_
              rintro e w5 ⟨rfl, hb5⟩
              go_wp2
              go_ret
              exact ⟨ret_boolM (by rw [HV3.out]; rfl), bl_trans hb2 hb5⟩
            · have HV4 : Hid (V = false) := Lib.hid (by rw [HV3.out, decide_eq_false hn3]; rfl)
              have hpos : (0 : Int) < (n3 : Int) := by omega
              clear hn3 HV3
              go_wp2
              go_ret
              exact ⟨ret_boolM HV4.out.symm, hb3⟩
end Go.Proofs.YtecbbjdcnlocdaaDoor

/- append as a step of a region that draws its order -/
namespace Go.Proofs.YtecbbjdcnlocdaaDoor
open Go.RowKit

theorem step_append_g {P : Program} {ops : Array Oper} {o : Oper} {a : Act} {w : World} {K : Act → World → Prop} {Q : Exit → Act → World → Prop} {E : Prop}
    (hg : o.guard = none) (s x : Operand) {t e : TypeId} {size bytes : Nat} (hop : o.op = Op.call { callee := Callee.builtin Builtin.append, args := #[s, x], argTypes := #[t, t] }) (hS : SliceOf P t e size bytes)
    (base : Nat) (v : Value) (n : Nat) (xs : List Value) (hv : a.eval s = v) (hown : w.ownsRow base e size v n xs)
    (B : Nat) (A : Option Addr) (m c : Nat) (news : List Value) (hx : a.eval x = .slice A m c) (hn : news.length = m * size) (hs : Shows w B A news) (h1c : ∀ u ∈ news, u.oneCell' = true)
    (h63 : n + m ≤ maxLen) (hbytes : (n + m) * bytes ≤ 140737488355328) (hbase : base ≤ w.heap.size)
    (hK : ∀ v' w', w'.ownsRow base e size v' (n + m) (xs ++ news) → w.grownBy w' v.ownBlock → K (a.put o.dst v') w') :
    if Region.wanted o (yielded ops a.tmps) = true then Oper.wp P o a w K Q else E := by
  have hw : Region.wanted o (yielded ops a.tmps) = true := by simp [Region.wanted, hg]
  rw [if_pos hw]
  obtain ⟨v', w', hrun, r1, r2, _⟩ := run_append_grow (P := P) (ty := o.type) w hS v n xs hown B A m c news hn hs h1c h63 hbytes hbase
  unfold Oper.wp
  simp [execOp, hop, resolve, invoke, builtin, hv, hx, hrun, Result.andThen]
  exact hK _ _ r1 r2
end Go.Proofs.YtecbbjdcnlocdaaDoor

/- Bytes as a string -/
namespace Go.Proofs.YtecbbjdcnlocdaaDoor
open Go.RowKit

set_option maxRecDepth 100000 in
theorem bytes_str {w : World} {B : Nat} {A : Option Addr} {n c : Nat} {xs : List Int} (hx : Bytes w B A n xs) : (convert 25 9 (.slice A n c)).run Tryd.prog w = Result.ok (.string (strOfNums xs)) w := by
  have hlen : xs.length = n := hx.1.symm
  rcases hx.2.2 with h0 | ⟨b, o, rfl, hb, hc⟩
  · obtain rfl : xs = [] := by simpa using h0
    cases A with
    | none => exact run_convert_bytes_nil w 25 5 Tryd.underlying25 Tryd.underlying5 n c 9 Tryd.underlying9
    | some a =>
      obtain ⟨b, o, s⟩ := a
      obtain rfl : n = 0 := by rw [hx.1]; rfl
      cases s with
      | none => exact run_convert_bytes_arg w 25 5 Tryd.underlying25 Tryd.underlying5 b o 0 c [] rfl (fun i hi => absurd hi (Nat.not_lt_zero i)) 9 Tryd.underlying9
      | some s =>
        rw [run_convert_bytes_string w _ _ 5 _ _ _ Tryd.underlying25 Tryd.underlying5 Tryd.underlying9, run_bytesToString w _ 0 c [] (by simpa using run_loadCells_list (P := Tryd.prog) w _ [] (fun j v hj => by simp at hj))]
        rfl
  · refine run_convert_bytes_arg w 25 5 Tryd.underlying25 Tryd.underlying5 b o n c xs hlen (fun i hi => ?_) 9 Tryd.underlying9
    have hi2 : i < xs.length := by omega
    exact hc i _ (by rw [List.getElem?_map, nth_some hi2]; rfl)
end Go.Proofs.YtecbbjdcnlocdaaDoor

/- digits.Hex -/
namespace Go.Proofs.YtecbbjdcnlocdaaDoor
open Go.RowKit Go.Sort

/-- Two digits for each byte. -/
def hexL (xs : List Int) : List UInt8 := xs.flatMap fun x => [hexD (x / 16).toNat, hexD (x % 16).toNat]
def hexM (xs : List Int) : ByteArray := ⟨(hexL xs).toArray⟩
theorem hexL_len (xs : List Int) : (hexL xs).length = 2 * xs.length := by
  induction xs with
  | nil => rfl
  | cons x r ih => simp [hexL] at ih ⊢; omega
theorem hexL_step {xs : List Int} {k : Nat} (h : k < xs.length) : hexL (xs.take (k + 1)) = hexL (xs.take k) ++ [hexD (nth xs k / 16).toNat, hexD (nth xs k % 16).toNat] := by
  rw [take_nth h]
  simp [hexL]
theorem and15M (x : Int) (h0 : 0 ≤ x) (h1 : x ≤ 255) : bits BinOp.and IntKind.u8 x 15 = x % 16 := by
  obtain ⟨n, rfl⟩ := Int.eq_ofNat_of_zero_le h0
  have h : ∀ n, n < 256 → bits BinOp.and IntKind.u8 ((n : Nat) : Int) 15 = ((n : Nat) : Int) % 16 := by decide +kernel
  exact h n (by omega)
theorem lit_get (j : Nat) (h : j < 16) : (ByteArray.mk #[48, 49, 50, 51, 52, 53, 54, 55, 56, 57, 97, 98, 99, 100, 101, 102])[j]'h = hexD j := by
  have h2 : ∀ k : Fin 16, (ByteArray.mk #[48, 49, 50, 51, 52, 53, 54, 55, 56, 57, 97, 98, 99, 100, 101, 102])[k.val]'k.isLt = hexD k.val := by decide +kernel
  exact h2 ⟨j, h⟩
theorem two8 (p q : Int) : ∀ u ∈ [Value.int .u8 p, Value.int .u8 q], u.oneCell' = true := by
  intro u hu; simp at hu; rcases hu with rfl | rfl <;> rfl
def cellsU (l : List UInt8) : List Value := l.map fun c => .int .u8 (c.toNat : Int)
def numsU (l : List UInt8) : List Int := l.map fun c => (c.toNat : Int)
theorem cellsU_nums (l : List UInt8) : cellsU l = (numsU l).map (Value.int .u8) := by simp [cellsU, numsU]
theorem str_of_cells (l : List UInt8) : strOfNums (numsU l) = ⟨l.toArray⟩ := by
  unfold strOfNums numsU
  rw [List.map_map]
  congr 2
  rw [show ((fun n : Int => UInt8.ofNat n.toNat) ∘ fun c : UInt8 => (c.toNat : Int)) = id from funext fun c => by simp]
  simp
theorem bytes_of_own {w : World} {base n : Nat} {v : Value} {l : List UInt8} (h : w.ownsRow base 5 1 v n (cellsU l)) : ∀ A m c, v = .slice A m c → Bytes w w.heap.size A m (numsU l) := by
  rintro A m c rfl
  have hlen : (numsU l).length = n := by have := h.1; simp [cellsU] at this; simp [numsU, this]
  have hr : ∀ x ∈ numsU l, 0 ≤ x ∧ x ≤ 255 := by
    intro x hx
    obtain ⟨c, _, rfl⟩ := List.mem_map.1 hx
    have := c.toNat_lt
    omega
  rcases h.2 with ⟨h1, h0⟩ | ⟨g, cap, cur, h1, hg, _, _⟩
  · injection h1 with h2 h3 h4
    subst h2 h3 h4
    exact ⟨by rw [hlen, h0], hr, .inl (by rw [List.map_eq_nil_iff]; exact List.length_eq_zero_iff.1 (by rw [hlen, h0]))⟩
  · injection h1 with h2 h3 h4
    subst h2 h3 h4
    refine ⟨hlen.symm, hr, .inr ⟨g, 0, rfl, (h.lt g rfl).2, fun i u hu => ?_⟩⟩
    have := h.cells (g := g) rfl i u (by rw [cellsU_nums]; exact hu)
    simpa [Addr.add_lit] using this
set_option maxRecDepth 100000 in
set_option maxHeartbeats 800000 in
theorem hex_any (A : Option Addr) (n c : Nat) (xs : List Int) (w : World) (hx : Bytes w w.heap.size A n xs) (hn : n ≤ 1000000) :
    Calls Tryd.prog 75 #[.slice A n c] w fun e w' => e = .returned (.string (hexM xs)) ∧ Below w.heap.size w w' := by
  have HX := Lib.hid hx
  have hl := Lib.hid hx.1
  go_enter Tryd.func75, Tryd.ntmps75
  go_wp2_with (at_make; refine wpList_make_empty _ rfl _ _ rfl sl_bytes w.heap.size _ _ _ (2 * n) rfl rfl (by simp) (by omega) (by unfold maxLen; omega) (Nat.le_refl _) ?_; intro w0 hown0 hgrow0)
  have hb0 : Below w.heap.size w w0 := (bl_refl w).grown hgrow0 (Nat.le_refl _) (fun _ h => by cases h)
  go_loopw [3, 12] (fun v i wr => ∃ k : Nat, k ≤ n ∧ i = .int .i64 k ∧ wr.ownsRow w.heap.size 5 1 v (2 * k) (cellsU (hexL (xs.take k))) ∧ Below w.heap.size w wr) (fun _ i _ => n - (intOf i).toNat)
  case atStart => exact ⟨0, by omega, rfl, hown0, hb0⟩
  case round =>
    obtain ⟨k, hkz, rfl, hown, hbr⟩ := hrel
    by_cases hlt : k < n
    · have hxr := HX.out.below hbr
      obtain ⟨b, o, rfl, hbb, hcell⟩ := hxr.2.2.resolve_left (by intro h; have := hl.out; simp at h; rw [h] at this; simp at this; omega)
      have hck := hcell k (.int .u8 (nth xs k)) (by rw [List.getElem?_map, nth_some (by rw [← hl.out]; exact hlt)]; rfl)
      have hr := hxr.2.1 _ (nth_mem (xs := xs) (k := k) (by rw [← hl.out]; exact hlt))
      have hq := and15M _ hr.1 hr.2
      have d0 := dg_range 16 (nth xs k) hr.1 (by omega)
      have d1 := d0.1
      have d2 := d0.2
      have d3 : 0 ≤ nth xs k / 16 := by omega
      have d4 : nth xs k / 16 < 16 := by omega
      clear d0
      go_wp2_with fail
      have hA : ∀ p q : Int, (wr.alloc (.cells #[.int .u8 p, .int .u8 q] 5)).drew.ownsRow w.heap.size 5 1 _ (2 * k) (cellsU (hexL (xs.take k))) := fun p q => hown.alloc _
      have hS : ∀ p q : Int, Shows (wr.alloc (.cells #[.int .u8 p, .int .u8 q] 5)).drew (wr.heap.size + 1) (some ⟨wr.heap.size, 0, none⟩) [.int .u8 p, .int .u8 q] := fun p q => Shows.of_owned (Own.new wr 5 #[.int .u8 p, .int .u8 q]).drew (by omega)
      have hbs := hbr.size
      go_region_law (refine step_append_g rfl _ _ rfl sl_bytes w.heap.size _ _ _ rfl (hA _ _) _ _ _ _ _ rfl rfl (hS _ _) (two8 _ _) (by unfold maxLen; omega) (by omega) (by simp; omega) ?_; intro v1 w2 hown2 hgrow2)
      all_goals
        have hw2 : Below w.heap.size w w2 := ((hbr.alloc hbs _).drew).grown hgrow2 (by simp; omega) (own_base hown)
        rw [lit_get _ (by omega), lit_get _ (by omega)] at hown2
        have hown3 : w2.ownsRow w.heap.size 5 1 v1 (2 * (k + 1)) (cellsU (hexL (xs.take (k + 1)))) := by
          rw [hexL_step (by rw [← hl.out]; exact hlt)]
          unfold cellsU at hown2 ⊢
          rw [List.map_append]
          exact hown2
        clear hown2 hgrow2 hA hS
        simp only [Act.put, List.getElem_toArray, List.getElem_cons_zero, List.getElem_cons_succ, List.setIfInBounds_toArray, List.set_cons_zero, List.set_cons_succ]
        go_wp2
        go_roundw
        case rel =>
          first
            | exact ⟨k + 1, by omega, by go_num, hown3, hw2⟩
            | ((repeat apply Exists.intro); exact ⟨⟨k + 1, by omega, by go_num, hown3, hw2⟩, rfl⟩)
        case measure => simp [intOf]; omega
    · obtain rfl : k = n := by omega
      clear hown0 hgrow0 hb0
      have HT := Lib.hid (show xs.take k = xs by rw [List.take_of_length_le (by rw [← hl.out]; exact Nat.le_refl _)])
      rw [HT.out] at hown
      have hbt := bytes_of_own hown
      rcases hown.2 with ⟨rfl, h0⟩ | ⟨g, cap, cur, rfl, _⟩
      · have hcv := bytes_str (c := 0) (hbt none 0 0 rfl)
        rw [str_of_cells] at hcv
        clear hown hbt
        go_wp2
        go_ret
        exact ⟨rfl, hbr⟩
      · have hcv := bytes_str (c := cap) (hbt _ _ _ rfl)
        rw [str_of_cells] at hcv
        clear hown hbt
        go_wp2
        go_ret
        exact ⟨rfl, hbr⟩
end Go.Proofs.YtecbbjdcnlocdaaDoor

/- mp.Text (written by gen/mtc.py) -/
namespace Go.Proofs.YtecbbjdcnlocdaaDoor
open Go.RowKit Go.Sort

theorem famB_12M {x y : Bool} {f : Int} (h : famB x y f = true) : f = 1 ∨ f = 2 := by
  unfold famB at h
  simp only [Bool.or_eq_true, Bool.and_eq_true, decide_eq_true_eq] at h
  omega
theorem mv_eq (a2 a3 a4 a5 : Bool) (a : At) (rs : List Rt) : rmvB a2 a3 a4 a5 a rs = mvB a2 a3 a4 a5 a rs := by
  cases hm : mvB a2 a3 a4 a5 a rs with
  | true =>
    unfold mvB at hm
    simp only [Bool.and_eq_true] at hm
    obtain ⟨h1, h2, h3, h4, h5, h6⟩ := hm
    have hk : a.k = 14 ∨ a.k = 15 := by unfold hasB at h1; exact of_decide_eq_true h1
    have hf := famB_12M h3
    have h6 := of_decide_eq_true h6
    have hh : (if a.k = 15 then decide (a.n3 = 0) else hopB a.f a.n3) = true := by
      unfold hop2B at h5
      rcases hk with e | e
      · rw [if_pos e] at h5
        rw [if_neg (by omega)]
        exact h5
      · rw [if_neg (by omega)] at h5
        rw [if_pos e]
        exact h5
    have hp : a.p = false := by simpa using h2
    unfold rmvB shB bareM
    rw [h1, h3, h4, hh, decide_eq_true hf, hp, decide_eq_true (show a.n1 = 0 ∧ a.n2 = 0 from ⟨h6.2.2.1, h6.2.2.2⟩), decide_eq_true (show a.N = 0 ∧ a.M = 0 from ⟨h6.1, h6.2.1⟩)]
    rfl
  | false =>
    cases hr : rmvB a2 a3 a4 a5 a rs with
    | false => rfl
    | true =>
      exfalso
      unfold rmvB shB bareM at hr
      simp only [Bool.and_eq_true, decide_eq_true_eq] at hr
      obtain ⟨h1, h2, h3, ⟨⟨h4, h5⟩, ⟨h6, h7⟩, h8⟩, h9, h10⟩ := hr
      have hk : a.k = 14 ∨ a.k = 15 := by unfold hasB at h2; exact of_decide_eq_true h2
      have hh : hop2B a = true := by
        unfold hop2B
        rcases hk with e | e
        · rw [if_pos e]
          rw [if_neg (by omega)] at h10
          exact h10
        · rw [if_neg (by omega)]
          rw [if_pos e] at h10
          exact h10
      unfold mvB at hm
      rw [h1, h2, h8, h9, hh, decide_eq_true (show a.N = 0 ∧ a.M = 0 ∧ a.n1 = 0 ∧ a.n2 = 0 from ⟨h6, h7, h4, h5⟩)] at hm
      cases hm

/-- The names in the table of families. -/
def FamNm (w : World) : Prop := w.cell? ⟨1, 2, none⟩ = some (.string ⟨#[105, 112, 118, 52]⟩) ∧ w.cell? ⟨1, 4, none⟩ = some (.string ⟨#[105, 112, 118, 54]⟩) ∧ 1 < w.heap.size
theorem FamNm.below {w w' : World} (h : FamNm w) (hb : Below w.heap.size w w') : FamNm w' :=
  ⟨(hb.cell (by exact h.2.2)).trans h.1, (hb.cell (by exact h.2.2)).trans h.2.1, Nat.lt_of_lt_of_le h.2.2 hb.size⟩
def mHd (k f : Int) (hx : ByteArray) : ByteArray :=
  if k = 14 then (if f = 1 then ⟨#[114, 101, 97, 99, 104, 32, 105, 112, 118, 52]⟩ else ⟨#[114, 101, 97, 99, 104, 32, 105, 112, 118, 54]⟩) ++ ⟨#[32]⟩ ++ hx
  else if f = 1 then ⟨#[117, 110, 114, 101, 97, 99, 104, 32, 105, 112, 118, 52]⟩ else ⟨#[117, 110, 114, 101, 97, 99, 104, 32, 105, 112, 118, 54]⟩
def mTl (n : Nat) (S T : ByteArray) : ByteArray := if 0 < n then S ++ ⟨#[32]⟩ ++ T else S
def mTxt (a : At) (bs : List Int) (rs : List Rt) : ByteArray := if mvB true true true true a rs = true then mTl a.n4 (mHd a.k a.f (hexM bs)) (rtxts rs) else ⟨#[]⟩
theorem mHd_size {k f : Int} {hx : ByteArray} : (mHd k f hx).size ≤ hx.size + 20 := by
  unfold mHd
  split
  · rw [ByteArray.size_append, ByteArray.size_append]
    split
    · show 10 + 1 + _ ≤ _; omega
    · show 10 + 1 + _ ≤ _; omega
  · split
    · show 12 ≤ _; omega
    · show 12 ≤ _; omega
theorem hexM_size {bs : List Int} (h : bs.length ≤ 600) : (hexM bs).size ≤ 1200 := by
  show (hexL bs).toArray.size ≤ 1200
  rw [List.size_toArray, hexL_len]; omega
theorem rtxts_sizeA {rs : List Rt} (h : ∀ r ∈ rs, r.Ok) (hl : rs.length ≤ 100) : (rtxts rs).size ≤ 110200000 := by
  have := joinB_size (k := 1100) (s := 1) (xs := rs.map rtxt) (sep := [32]) (fun y hy => by
    obtain ⟨r, hr, rfl⟩ := List.mem_map.1 hy
    exact rtxt_size (h r hr)) (by simp)
  rw [List.length_map] at this
  unfold rtxts
  omega
theorem mv_rng {a : At} {rs : List Rt} (h : mvB true true true true a rs = true) : (a.k = 14 ∨ a.k = 15) ∧ (a.f = 1 ∨ a.f = 2) := by
  unfold mvB at h
  simp only [Bool.and_eq_true] at h
  obtain ⟨h1, _, h3, _⟩ := h
  exact ⟨by unfold hasB at h1; exact of_decide_eq_true h1, famB_12M h3⟩
set_option maxRecDepth 100000 in
set_option maxHeartbeats 6400000 in
theorem mtext_any (a : At) (bs : List Int) (rs : List Rt) (w : World) (hB : Bytes w w.heap.size a.A3 a.n3 bs) (hr : Routes w w.heap.size a.A4 a.n4 rs) (h3 : a.n3 ≤ 600) (h4 : a.n4 ≤ 100) (hT : Tens w) (hbn : Brn w) (hfn : FamNm w) :
    Calls Tryd.prog 35 #[.agg (atc a)] w fun e w' => e = .returned (.string (mTxt a bs rs)) ∧ Below w.heap.size w w' := by
  have b1 := bl_alloc (bl_alloc (bl_refl w) (.cells (atc a) 55)) (.cells #[.bool true, .bool true, .bool true, .bool true, .bool true, .bool true] 111)
  have o1 := (Own.new w 55 (atc a)).alloc (.cells #[.bool true, .bool true, .bool true, .bool true, .bool true, .bool true] 111)
  have o2 := Own.new (w.alloc (.cells (atc a) 55)) 111 #[.bool true, .bool true, .bool true, .bool true, .bool true, .bool true]
  rw [show (w.alloc (.cells (atc a) 55)).heap.size = w.heap.size + 1 by simp] at o2
  have HV := Lib.hid (mvalid_any true true true true true true a rs _ ((hr.below b1).more b1.size) (by omega))
  have hR := Lib.hid (fun W (h : Below w.heap.size w W) => mroutes_any a.A4 a.n4 a.c4 rs W ((hr.below h).more h.size) (by omega) (hT.below h) (hbn.below h))
  have hH := Lib.hid (fun W (h : Below w.heap.size w W) => hex_any a.A3 a.n3 a.c3 bs W ((hB.below h).more h.size) (by omega))
  have hHz := hexM_size (bs := bs) (by rw [← hB.1]; exact h3)
  have hRz := rtxts_sizeA hr.2.1 (by rw [← hr.1]; exact h4)
  have hz := Lib.hid (mHd_size (k := a.k) (f := a.f) (hx := hexM bs))
  have hG := Lib.hid (fun (h : mvB true true true true a rs = true) => mv_rng h)
  have hX : Hid (mTxt a bs rs = if mvB true true true true a rs = true then mTl a.n4 (mHd a.k a.f (hexM bs)) (rtxts rs) else ⟨#[]⟩) := Lib.hid rfl
  have HF := Lib.hid (fun W (h : Below w.heap.size w W) => hfn.below h)
  generalize mTxt a bs rs = Z at *
  generalize mvB true true true true a rs = V at *
  generalize hexM bs = X at *
  generalize rtxts rs = R at *
  obtain ⟨k, p, N, M, A1, n1, c1, A2, n2, c2, A3, n3, c3, f, A4, n4, c4⟩ := a
  unfold atc at *
  dsimp only at *
  clear hr hB hT hbn hfn
  go_enter Tryd.func35, Tryd.ntmps35
  go_wp2_with (first | (refine wpList_load_row rfl 111 _ rfl (w.heap.size + 1) rfl 111 #[.bool true, .bool true, .bool true, .bool true, .bool true, .bool true] (0, 0) (.struct (Tryd.prog.fieldsOf 111)) o2 (by kernel_rfl) rfl (by kernel_rfl) ?_) | (refine wpList_load_row rfl 55 _ rfl w.heap.size rfl 55 #[.int .i64 k, .bool p, .int .u32 N, .int .u32 M, .slice A1 n1 c1, .slice A2 n2 c2, .slice A3 n3 c3, .int .i64 f, .slice A4 n4 c4] (0, 0) (.struct (Tryd.prog.fieldsOf 55)) o1 (by kernel_rfl) rfl (by kernel_rfl) ?_))
  refine HV.out.mono ?_
  rintro e w1 ⟨rfl, hb1⟩
  have p1 := o1.step hb1
  have b2 := bl_trans b1 hb1
  clear o1 o2 b1 hb1 HV
  cases V with
  | false =>
    go_wp2
    go_ret
    exact ⟨by rw [hX.out]; rfl, b2⟩
  | true =>
    obtain ⟨hk, hf⟩ := hG.out rfl
    have HX2 : Hid (Z = mTl n4 (mHd k f X) R) := Lib.hid hX.out
    clear hX hG
    obtain ⟨y1, y2, _⟩ := HF.out _ b2
    obtain ⟨e0, e1, e2, e3, e4, e5, e6, e7, e8⟩ := at_cells p1
    rcases hk with rfl | rfl
    · rcases hf with rfl | rfl
      · have hHd0 : Hid (mHd 14 1 X = ⟨#[114, 101, 97, 99, 104, 32, 105, 112, 118, 52]⟩ ++ ⟨#[32]⟩ ++ X) := Lib.hid rfl
        have hSz := hz.out
        have hle : (⟨#[114, 101, 97, 99, 104, 32]⟩ ++ ⟨#[105, 112, 118, 52]⟩ : ByteArray) = ⟨#[114, 101, 97, 99, 104, 32, 105, 112, 118, 52]⟩ := rfl
        have hle2 : (⟨#[114, 101, 97, 99, 104, 32, 105, 112, 118, 52]⟩ ++ ⟨#[32]⟩ : ByteArray) = ⟨#[114, 101, 97, 99, 104, 32, 105, 112, 118, 52, 32]⟩ := rfl
        have m0 : ¬ 9223372036854775807 < (⟨#[114, 101, 97, 99, 104, 32, 105, 112, 118, 52, 32]⟩ : ByteArray).size + X.size := by show ¬ 9223372036854775807 < 11 + X.size; omega
        have m00 : ¬ 9223372036854775807 < 11 + X.size := by omega
        go_wp2_with fail
        have hr1 := Lib.hid (rg_of (w := w1) (fun W hW => hH.out W (bl_trans b2 hW)))
        have q6 := cell_regrown e6
        have q7 := cell_regrown e7
        have z1 := cell_regrown y1
        have z2 := cell_regrown y2
        refine wp_region_quiet_below (by kernel_rfl) (by kernel_rfl) ?_
        repeat (first
          | go_big_quiet_skip
          | go_big_quiet_step (with_reducible first | exact hr1.out _ _))
        refine wpQuiet_nil ?_
        first | rintro w' ⟨⟨dq, osq⟩, rfl⟩ | rintro ⟨dq, osq⟩
        have hgw := below_regrown w1 dq osq
        have b3 := bl_trans b2 hgw
        have p3 := p1.step hgw
        generalize grow (redrawn w1 dq) osq = w3 at *
        clear hr1 q6 q7 z1 z2 y1 y2 e0 e1 e2 e3 e4 e5 e6 e7 e8 p1 b2 hgw
        obtain ⟨e0, e1, e2, e3, e4, e5, e6, e7, e8⟩ := at_cells p3
        have hHd : Hid (mHd 14 1 X = ⟨#[114, 101, 97, 99, 104, 32, 105, 112, 118, 52, 32]⟩ ++ X) := Lib.hid hHd0.out
        have hSz2 : (⟨#[114, 101, 97, 99, 104, 32, 105, 112, 118, 52, 32]⟩ ++ X : ByteArray).size ≤ X.size + 20 := by rw [← hHd.out]; exact hSz
        generalize ⟨#[114, 101, 97, 99, 104, 32, 105, 112, 118, 52, 32]⟩ ++ X = S at *
        by_cases hn0 : n4 = 0
        · have hE : Hid (Z = S) := Lib.hid (by rw [HX2.out, hHd.out]; unfold mTl; rw [if_neg (by omega)])
          have d0 : decide ((0 : Int) < (n4 : Int)) = false := by simp; omega
          have d1 : ((0 : Int) < (n4 : Int)) = False := eq_false (by omega)
          have d2 : (0 < n4) = False := eq_false (by omega)
          clear HX2 hHd hn0
          go_wp2
          go_ret
          exact ⟨by rw [hE.out]; first | done | rfl, b3⟩
        · have hE : Hid (Z = S ++ (⟨#[32]⟩ ++ R)) := Lib.hid (by rw [HX2.out, hHd.out]; unfold mTl; rw [if_pos (by omega), ByteArray.append_assoc])
          have d0 : decide ((0 : Int) < (n4 : Int)) = true := by simp; omega
          have d1 : (0 : Int) < (n4 : Int) := by omega
          have d2 : 0 < n4 := by omega
          have m1 : ¬ 9223372036854775807 < 1 + R.size := by omega
          have m2 : ¬ 9223372036854775807 < (S : ByteArray).size + (1 + R.size) := by omega
          clear HX2 hHd hn0
          go_wp2_with fail
          refine (hR.out _ b3).mono ?_
          rintro e w8 ⟨rfl, hb8⟩
          go_wp2
          go_ret
          exact ⟨by first | (rw [hE.out]; first | done | rfl) | (rw [hE.out, ← ByteArray.append_assoc]; first | done | rfl), bl_trans b3 hb8⟩
      · have hHd0 : Hid (mHd 14 2 X = ⟨#[114, 101, 97, 99, 104, 32, 105, 112, 118, 54]⟩ ++ ⟨#[32]⟩ ++ X) := Lib.hid rfl
        have hSz := hz.out
        have hle : (⟨#[114, 101, 97, 99, 104, 32]⟩ ++ ⟨#[105, 112, 118, 54]⟩ : ByteArray) = ⟨#[114, 101, 97, 99, 104, 32, 105, 112, 118, 54]⟩ := rfl
        have hle2 : (⟨#[114, 101, 97, 99, 104, 32, 105, 112, 118, 54]⟩ ++ ⟨#[32]⟩ : ByteArray) = ⟨#[114, 101, 97, 99, 104, 32, 105, 112, 118, 54, 32]⟩ := rfl
        have m0 : ¬ 9223372036854775807 < (⟨#[114, 101, 97, 99, 104, 32, 105, 112, 118, 54, 32]⟩ : ByteArray).size + X.size := by show ¬ 9223372036854775807 < 11 + X.size; omega
        have m00 : ¬ 9223372036854775807 < 11 + X.size := by omega
        go_wp2_with fail
        have hr1 := Lib.hid (rg_of (w := w1) (fun W hW => hH.out W (bl_trans b2 hW)))
        have q6 := cell_regrown e6
        have q7 := cell_regrown e7
        have z1 := cell_regrown y1
        have z2 := cell_regrown y2
        refine wp_region_quiet_below (by kernel_rfl) (by kernel_rfl) ?_
        repeat (first
          | go_big_quiet_skip
          | go_big_quiet_step (with_reducible first | exact hr1.out _ _))
        refine wpQuiet_nil ?_
        first | rintro w' ⟨⟨dq, osq⟩, rfl⟩ | rintro ⟨dq, osq⟩
        have hgw := below_regrown w1 dq osq
        have b3 := bl_trans b2 hgw
        have p3 := p1.step hgw
        generalize grow (redrawn w1 dq) osq = w3 at *
        clear hr1 q6 q7 z1 z2 y1 y2 e0 e1 e2 e3 e4 e5 e6 e7 e8 p1 b2 hgw
        obtain ⟨e0, e1, e2, e3, e4, e5, e6, e7, e8⟩ := at_cells p3
        have hHd : Hid (mHd 14 2 X = ⟨#[114, 101, 97, 99, 104, 32, 105, 112, 118, 54, 32]⟩ ++ X) := Lib.hid hHd0.out
        have hSz2 : (⟨#[114, 101, 97, 99, 104, 32, 105, 112, 118, 54, 32]⟩ ++ X : ByteArray).size ≤ X.size + 20 := by rw [← hHd.out]; exact hSz
        generalize ⟨#[114, 101, 97, 99, 104, 32, 105, 112, 118, 54, 32]⟩ ++ X = S at *
        by_cases hn0 : n4 = 0
        · have hE : Hid (Z = S) := Lib.hid (by rw [HX2.out, hHd.out]; unfold mTl; rw [if_neg (by omega)])
          have d0 : decide ((0 : Int) < (n4 : Int)) = false := by simp; omega
          have d1 : ((0 : Int) < (n4 : Int)) = False := eq_false (by omega)
          have d2 : (0 < n4) = False := eq_false (by omega)
          clear HX2 hHd hn0
          go_wp2
          go_ret
          exact ⟨by rw [hE.out]; first | done | rfl, b3⟩
        · have hE : Hid (Z = S ++ (⟨#[32]⟩ ++ R)) := Lib.hid (by rw [HX2.out, hHd.out]; unfold mTl; rw [if_pos (by omega), ByteArray.append_assoc])
          have d0 : decide ((0 : Int) < (n4 : Int)) = true := by simp; omega
          have d1 : (0 : Int) < (n4 : Int) := by omega
          have d2 : 0 < n4 := by omega
          have m1 : ¬ 9223372036854775807 < 1 + R.size := by omega
          have m2 : ¬ 9223372036854775807 < (S : ByteArray).size + (1 + R.size) := by omega
          clear HX2 hHd hn0
          go_wp2_with fail
          refine (hR.out _ b3).mono ?_
          rintro e w8 ⟨rfl, hb8⟩
          go_wp2
          go_ret
          exact ⟨by first | (rw [hE.out]; first | done | rfl) | (rw [hE.out, ← ByteArray.append_assoc]; first | done | rfl), bl_trans b3 hb8⟩
    · rcases hf with rfl | rfl
      · have hHd : Hid (mHd 15 1 X = ⟨#[117, 110, 114, 101, 97, 99, 104, 32, 105, 112, 118, 52]⟩) := Lib.hid rfl
        have hlz : (⟨#[117, 110, 114, 101, 97, 99, 104, 32, 105, 112, 118, 52]⟩ : ByteArray).size = 12 := rfl
        have hle : (⟨#[117, 110, 114, 101, 97, 99, 104, 32]⟩ ++ ⟨#[105, 112, 118, 52]⟩ : ByteArray) = ⟨#[117, 110, 114, 101, 97, 99, 104, 32, 105, 112, 118, 52]⟩ := rfl
        by_cases hn0 : n4 = 0
        · have hE : Hid (Z = ⟨#[117, 110, 114, 101, 97, 99, 104, 32, 105, 112, 118, 52]⟩) := Lib.hid (by rw [HX2.out, hHd.out]; unfold mTl; rw [if_neg (by omega)])
          have d0 : decide ((0 : Int) < (n4 : Int)) = false := by simp; omega
          have d1 : ((0 : Int) < (n4 : Int)) = False := eq_false (by omega)
          have d2 : (0 < n4) = False := eq_false (by omega)
          clear HX2 hHd hn0
          go_wp2
          go_ret
          exact ⟨by rw [hE.out]; first | done | rfl, b2⟩
        · have hE : Hid (Z = ⟨#[117, 110, 114, 101, 97, 99, 104, 32, 105, 112, 118, 52]⟩ ++ (⟨#[32]⟩ ++ R)) := Lib.hid (by rw [HX2.out, hHd.out]; unfold mTl; rw [if_pos (by omega), ByteArray.append_assoc])
          have d0 : decide ((0 : Int) < (n4 : Int)) = true := by simp; omega
          have d1 : (0 : Int) < (n4 : Int) := by omega
          have d2 : 0 < n4 := by omega
          have m1 : ¬ 9223372036854775807 < 1 + R.size := by omega
          have m2 : ¬ 9223372036854775807 < (⟨#[117, 110, 114, 101, 97, 99, 104, 32, 105, 112, 118, 52]⟩ : ByteArray).size + (1 + R.size) := by omega
          clear HX2 hHd hn0
          go_wp2_with fail
          refine (hR.out _ b2).mono ?_
          rintro e w8 ⟨rfl, hb8⟩
          go_wp2
          go_ret
          exact ⟨by first | (rw [hE.out]; first | done | rfl) | (rw [hE.out, ← ByteArray.append_assoc]; first | done | rfl), bl_trans b2 hb8⟩
      · have hHd : Hid (mHd 15 2 X = ⟨#[117, 110, 114, 101, 97, 99, 104, 32, 105, 112, 118, 54]⟩) := Lib.hid rfl
        have hlz : (⟨#[117, 110, 114, 101, 97, 99, 104, 32, 105, 112, 118, 54]⟩ : ByteArray).size = 12 := rfl
        have hle : (⟨#[117, 110, 114, 101, 97, 99, 104, 32]⟩ ++ ⟨#[105, 112, 118, 54]⟩ : ByteArray) = ⟨#[117, 110, 114, 101, 97, 99, 104, 32, 105, 112, 118, 54]⟩ := rfl
        by_cases hn0 : n4 = 0
        · have hE : Hid (Z = ⟨#[117, 110, 114, 101, 97, 99, 104, 32, 105, 112, 118, 54]⟩) := Lib.hid (by rw [HX2.out, hHd.out]; unfold mTl; rw [if_neg (by omega)])
          have d0 : decide ((0 : Int) < (n4 : Int)) = false := by simp; omega
          have d1 : ((0 : Int) < (n4 : Int)) = False := eq_false (by omega)
          have d2 : (0 < n4) = False := eq_false (by omega)
          clear HX2 hHd hn0
          go_wp2
          go_ret
          exact ⟨by rw [hE.out]; first | done | rfl, b2⟩
        · have hE : Hid (Z = ⟨#[117, 110, 114, 101, 97, 99, 104, 32, 105, 112, 118, 54]⟩ ++ (⟨#[32]⟩ ++ R)) := Lib.hid (by rw [HX2.out, hHd.out]; unfold mTl; rw [if_pos (by omega), ByteArray.append_assoc])
          have d0 : decide ((0 : Int) < (n4 : Int)) = true := by simp; omega
          have d1 : (0 : Int) < (n4 : Int) := by omega
          have d2 : 0 < n4 := by omega
          have m1 : ¬ 9223372036854775807 < 1 + R.size := by omega
          have m2 : ¬ 9223372036854775807 < (⟨#[117, 110, 114, 101, 97, 99, 104, 32, 105, 112, 118, 54]⟩ : ByteArray).size + (1 + R.size) := by omega
          clear HX2 hHd hn0
          go_wp2_with fail
          refine (hR.out _ b2).mono ?_
          rintro e w8 ⟨rfl, hb8⟩
          go_wp2
          go_ret
          exact ⟨by first | (rw [hE.out]; first | done | rfl) | (rw [hE.out, ← ByteArray.append_assoc]; first | done | rfl), bl_trans b2 hb8⟩
end Go.Proofs.YtecbbjdcnlocdaaDoor

/- peerageref12.Routes -/
namespace Go.Proofs.YtecbbjdcnlocdaaDoor
open Go.RowKit Go.Sort
theorem rtxts_first {rs : List Rt} (h : 0 < rs.length) : rtxts (rs.take (0 + 1)) = rtxt (nthR rs 0) := by
  rw [take_nthR h]
  unfold rtxts
  rw [List.take_zero, List.nil_append, List.map_singleton, joinP_one]
theorem rtxts_next {rs : List Rt} {k : Nat} (h : k < rs.length) (h1 : 0 < k) : rtxts (rs.take (k + 1)) = rtxts (rs.take k) ++ ⟨#[32]⟩ ++ rtxt (nthR rs k) := by
  rw [take_nthR h]
  unfold rtxts
  rw [List.map_append, List.map_singleton, joinP_snoc _ _ _ (by
    intro e
    have := congrArg List.length e
    rw [List.length_map, List.length_take] at this
    have h3 : min k rs.length = 0 := this
    omega)]
theorem rtxts_size {rs : List Rt} (h : ∀ r ∈ rs, r.Ok) (hl : rs.length ≤ 100000) (k : Nat) : (rtxts (rs.take k)).size ≤ 110200000 := by
  have := joinB_size (k := 1100) (s := 1) (xs := (rs.take k).map rtxt) (sep := [32]) (fun y hy => by
    obtain ⟨r, hr, rfl⟩ := List.mem_map.1 hy
    exact rtxt_size (h r (List.mem_of_mem_take hr))) (by simp)
  rw [List.length_map, List.length_take] at this
  unfold rtxts
  omega
set_option maxRecDepth 100000 in
set_option maxHeartbeats 3200000 in
theorem rmroutes_any (A : Option Addr) (n c : Nat) (rs : List Rt) (w : World) (hx : Routes w w.heap.size A n rs) (hn : n ≤ 100000) :
    Calls Tryd.prog 38 #[.slice A n c] w fun e w' => e = .returned (.string (rtxts rs)) ∧ Below w.heap.size w w' := by
  have HX := Lib.hid hx
  have HN := Lib.hid hx.1
  have hss := Lib.hid (rtxts_size hx.2.1 (by rw [← hx.1]; exact hn))
  clear hx
  go_enter Tryd.func38, Tryd.ntmps38
  go_wp2
  go_loopw [3, 4] (fun v i wr => ∃ k : Nat, k ≤ n ∧ i = .int .i64 (k : Int) ∧ v = .string (rtxts (rs.take k)) ∧ Below w.heap.size w wr) (fun _ i _ => n - (intOf i).toNat)
  case atStart => exact ⟨0, Nat.zero_le _, rfl, rfl, bl_refl w⟩
  case round =>
    obtain ⟨k, hk, rfl, rfl, hbr⟩ := hrel
    by_cases hlt : k < n
    · obtain ⟨b, o, rfl, hbB, hok, hrg⟩ := HX.out.at_ hlt
      have hkr := Lib.hid (show k < rs.length by rw [← HN.out]; exact hlt)
      have hS0 := Lib.hid (fun (h : k = 0) => (show rtxts (rs.take (k + 1)) = rtxt (nthR rs k) by subst h; exact rtxts_first hkr.out))
      have hS1 := Lib.hid (fun (h : 0 < k) => rtxts_next hkr.out h)
      have hJ0 := Lib.hid (fun (h : k = 0) => (show rtxts (rs.take k) = ⟨#[]⟩ by subst h; rfl))
      have hJz := hss.out k
      have hTx : Hid (rtxt (nthR rs k) = if pfxOk (nthR rs k).f (nthR rs k).l (nthR rs k).a = true ∧ (nthR rs k).p ≠ 0 then ptxtO (nthR rs k).f (nthR rs k).l (nthR rs k).a ++ (⟨#[35]⟩ ++ decB (nthR rs k).p) else ptxtO (nthR rs k).f (nthR rs k).l (nthR rs k).a) := Lib.hid rfl
      generalize rtxts (rs.take k) = J at *
      generalize rtxt (nthR rs k) = tx at *
      generalize nthR rs k = r at *
      have HOK := Lib.hid hok
      have hif := Lib.hid (pfx_infol (f := r.f) (l := r.l) hok.1.1)
      have hrgP : Hid (∀ W, Below w.heap.size w W → W.rangeAt b (o + k * 19 + 1) (pfx r.f r.l r.a).toList ∧ W.cell? ⟨b, o + k * 19, none⟩ = some (.int .u32 r.p)) := Lib.hid (fun W hW => ⟨fun j v hv => by
        have h1 := hrg (1 + j) v (by
          have := rt_at r j
          rw [← Array.getElem?_toList, ← Array.getElem?_toList] at this
          rw [this]; exact hv)
        have e : o + k * 19 + (1 + j) = o + k * 19 + 1 + j := by omega
        have h1' : w.cell? ⟨b, o + k * 19 + 1 + j, none⟩ = some v := by rw [← e]; exact h1
        exact (hW.cell (p := ⟨b, o + k * 19 + 1 + j, none⟩) hbB).trans h1', by
        have h0 := hrg 0 (.int .u32 r.p) (by have := rt_0 r; rw [← Array.getElem?_toList] at this; exact this)
        exact (hW.cell (p := ⟨b, o + k * 19, none⟩) hbB).trans h0⟩)
      have hPz := ptxtO_size (f := r.f) (l := r.l) hok.1
      have hDz := decB_size (n := r.p) (by have := hok.2.2; omega)
      have hpr := hok.2
      have hw64 : IntKind.i64.wrap r.p = r.p := by rw [IntKind.wrap_i64]; omega
      have hT := Lib.hid (fun W => rptext_any r.f r.l r.a W hok.1)
      have hV := Lib.hid (fun W => rpvalid_any r.f r.l r.a W hok.1)
      have hD := Lib.hid (fun W => rdecimal_any r.p hpr.1 (by omega) W)
      generalize ptxtO r.f r.l r.a = P at *
      generalize decB r.p = D at *
      generalize hKe : pfxOk r.f r.l r.a = K at *
      have c0 := (hrgP.out _ hbr).2
      have hRG := Lib.hid (hrgP.out _ hbr).1
      clear hok hrg hKe
      rcases Nat.eq_zero_or_pos k with hj0 | hj0
      · have d0 : decide ((0 : Int) < (k : Int)) = false := by simp; omega
        have d1 : ((0 : Int) < (k : Int)) = False := eq_false (by omega)
        have d2 : (0 < k) = False := eq_false (by omega)
        have hE := Lib.hid (show rtxts (rs.take (k + 1)) = J ++ tx by rw [hS0.out hj0, hJ0.out hj0, ba_nilP])
        have m1 : ¬ 9223372036854775807 < J.size + P.size := by omega
        have m2 : ¬ 9223372036854775807 < J.size + P.size + 1 := by omega
        have m3 : ¬ 9223372036854775807 < J.size + P.size + 1 + D.size := by omega
        clear hS0 hS1 hJ0 hj0
        go_wp2_with (refine wpList_load_mid rfl 41 _ rfl b (o + k * 19 + 1) rfl (pfx r.f r.l r.a).toList (.struct (Tryd.prog.fieldsOf 41)) hRG.out pfx_desc rfl hif.out ?_)
        refine (hT.out _).mono ?_
        rintro e w2 ⟨rfl, hb2⟩
        have hbr2 := bl_trans hbr hb2
        have c2 := (hrgP.out _ hbr2).2
        have hRG2 := Lib.hid (hrgP.out _ hbr2).1
        clear c0 hRG hb2
        by_cases hp : r.p = 0
        · have hp1 : (r.p != 0) = false := by rw [hp]; rfl
          have hR := Lib.hid (show rtxts (rs.take (k + 1)) = J ++ P by rw [hE.out, hTx.out, if_neg (fun h => h.2 hp)])
          clear hE hTx hp
          go_wp2
          go_roundw
          case rel => exact ⟨k + 1, by omega, by go_num, congrArg Value.string hR.out.symm, hbr2⟩
          case measure => simp [intOf]; omega
        · have hp1 : (r.p != 0) = true := by rw [bne_iff_ne]; exact hp
          go_wp2_with (refine wpList_load_on (by rfl) 41 _ rfl b (o + k * 19 + 1) rfl (pfx r.f r.l r.a).toList (.struct (Tryd.prog.fieldsOf 41)) hRG2.out pfx_desc rfl hif.out ?_)
          refine (hV.out _).mono ?_
          rintro e w3 ⟨rfl, hb3⟩
          have hbr3 := bl_trans hbr2 hb3
          have c3 := (hrgP.out _ hbr3).2
          cases K
          · have hR := Lib.hid (show rtxts (rs.take (k + 1)) = J ++ P by rw [hE.out, hTx.out, if_neg (fun h => by exact absurd h.1 (by simp))])
            clear hE hTx hp
            go_wp2
            go_roundw
            case rel => exact ⟨k + 1, by omega, by go_num, congrArg Value.string hR.out.symm, hbr3⟩
            case measure => simp [intOf]; omega
          · have hR := Lib.hid (show rtxts (rs.take (k + 1)) = J ++ P ++ ⟨#[35]⟩ ++ D by rw [hE.out, hTx.out, if_pos ⟨rfl, hp⟩]; apply ByteArray.ext; simp)
            clear hE hTx hp
            go_wp2_with fail
            refine (hD.out _).mono ?_
            rintro e w4 ⟨rfl, hb4⟩
            have hbr4 := bl_trans hbr3 hb4
            go_wp2
            go_roundw
            case rel => exact ⟨k + 1, by omega, by go_num, congrArg Value.string hR.out.symm, hbr4⟩
            case measure => simp [intOf]; omega
      · have d0 : decide ((0 : Int) < (k : Int)) = true := by simp; omega
        have d1 : ((0 : Int) < (k : Int)) = True := eq_true (by omega)
        have d2 : (0 < k) = True := eq_true hj0
        have hE := Lib.hid (hS1.out hj0)
        have m0 : ¬ 9223372036854775807 < J.size + 1 := by omega
        have m1 : ¬ 9223372036854775807 < J.size + 1 + P.size := by omega
        have m2 : ¬ 9223372036854775807 < J.size + 1 + P.size + 1 := by omega
        have m3 : ¬ 9223372036854775807 < J.size + 1 + P.size + 1 + D.size := by omega
        clear hS0 hS1 hJ0 hj0
        go_wp2_with (refine wpList_load_mid rfl 41 _ rfl b (o + k * 19 + 1) rfl (pfx r.f r.l r.a).toList (.struct (Tryd.prog.fieldsOf 41)) hRG.out pfx_desc rfl hif.out ?_)
        refine (hT.out _).mono ?_
        rintro e w2 ⟨rfl, hb2⟩
        have hbr2 := bl_trans hbr hb2
        have c2 := (hrgP.out _ hbr2).2
        have hRG2 := Lib.hid (hrgP.out _ hbr2).1
        clear c0 hRG hb2
        by_cases hp : r.p = 0
        · have hp1 : (r.p != 0) = false := by rw [hp]; rfl
          have hR := Lib.hid (show rtxts (rs.take (k + 1)) = J ++ ⟨#[32]⟩ ++ P by rw [hE.out, hTx.out, if_neg (fun h => h.2 hp)])
          clear hE hTx hp
          go_wp2
          go_roundw
          case rel => exact ⟨k + 1, by omega, by go_num, congrArg Value.string hR.out.symm, hbr2⟩
          case measure => simp [intOf]; omega
        · have hp1 : (r.p != 0) = true := by rw [bne_iff_ne]; exact hp
          go_wp2_with (refine wpList_load_on (by rfl) 41 _ rfl b (o + k * 19 + 1) rfl (pfx r.f r.l r.a).toList (.struct (Tryd.prog.fieldsOf 41)) hRG2.out pfx_desc rfl hif.out ?_)
          refine (hV.out _).mono ?_
          rintro e w3 ⟨rfl, hb3⟩
          have hbr3 := bl_trans hbr2 hb3
          have c3 := (hrgP.out _ hbr3).2
          cases K
          · have hR := Lib.hid (show rtxts (rs.take (k + 1)) = J ++ ⟨#[32]⟩ ++ P by rw [hE.out, hTx.out, if_neg (fun h => by exact absurd h.1 (by simp))])
            clear hE hTx hp
            go_wp2
            go_roundw
            case rel => exact ⟨k + 1, by omega, by go_num, congrArg Value.string hR.out.symm, hbr3⟩
            case measure => simp [intOf]; omega
          · have hR := Lib.hid (show rtxts (rs.take (k + 1)) = J ++ ⟨#[32]⟩ ++ P ++ ⟨#[35]⟩ ++ D by rw [hE.out, hTx.out, if_pos ⟨rfl, hp⟩]; apply ByteArray.ext; simp)
            clear hE hTx hp
            go_wp2_with fail
            refine (hD.out _).mono ?_
            rintro e w4 ⟨rfl, hb4⟩
            have hbr4 := bl_trans hbr3 hb4
            go_wp2
            go_roundw
            case rel => exact ⟨k + 1, by omega, by go_num, congrArg Value.string hR.out.symm, hbr4⟩
            case measure => simp [intOf]; omega
    · have hF := Lib.hid (show rtxts (rs.take k) = rtxts rs by rw [List.take_of_length_le (by have := HN.out; omega)])
      generalize rtxts (rs.take k) = J at *
      go_wp2
      go_ret
      exact ⟨congrArg (fun x => Ending.returned (Value.string x)) hF.out, hbr⟩
end Go.Proofs.YtecbbjdcnlocdaaDoor

/- peerageref11.Hex -/
namespace Go.Proofs.YtecbbjdcnlocdaaDoor
open Go.RowKit Go.Sort

theorem ba_two (L : List UInt8) (a b : UInt8) : (⟨L.toArray⟩ ++ ⟨#[a]⟩ ++ ⟨#[b]⟩ : ByteArray) = ⟨(L ++ [a, b]).toArray⟩ := by
  rw [show (⟨#[a]⟩ : ByteArray) = ⟨[a].toArray⟩ from rfl, show (⟨#[b]⟩ : ByteArray) = ⟨[b].toArray⟩ from rfl, ba_append, ba_append, List.append_assoc]
  rfl
theorem hexL_size (l : List UInt8) : (ByteArray.mk l.toArray).size = l.length := by simp [ByteArray.size]
set_option maxRecDepth 100000 in
set_option maxHeartbeats 800000 in
theorem rhex_any (A : Option Addr) (n c : Nat) (xs : List Int) (w : World) (hx : Bytes w w.heap.size A n xs) (hn : n ≤ 1000000) :
    Calls Tryd.prog 77 #[.slice A n c] w fun e w' => e = .returned (.string (hexM xs)) ∧ Below w.heap.size w w' := by
  have HX := Lib.hid hx
  have hl := Lib.hid hx.1
  go_enter Tryd.func77, Tryd.ntmps77
  go_wp2
  go_loopw [4, 5] (fun s i wr => ∃ k : Nat, k ≤ n ∧ i = .int .i64 k ∧ s = .string ⟨(hexL (xs.take k)).toArray⟩ ∧ Below w.heap.size w wr) (fun _ i _ => n - (intOf i).toNat)
  case atStart => exact ⟨0, by omega, rfl, rfl, bl_refl w⟩
  case round =>
    obtain ⟨k, hkz, rfl, rfl, hbr⟩ := hrel
    by_cases hlt : k < n
    · have hxr := HX.out.below hbr
      obtain ⟨b, o, rfl, hbb, hcell⟩ := hxr.2.2.resolve_left (by intro h; have := hl.out; simp at h; rw [h] at this; simp at this; omega)
      have hck := cell_regrown (hcell k (.int .u8 (nth xs k)) (by rw [List.getElem?_map, nth_some (by rw [← hl.out]; exact hlt)]; rfl))
      have hr := hxr.2.1 _ (nth_mem (xs := xs) (k := k) (by rw [← hl.out]; exact hlt))
      have d0 := dg_range 16 (nth xs k) hr.1 (by omega)
      have d1 := d0.1
      have d2 := d0.2
      have d3 : 0 ≤ nth xs k / 16 := by omega
      have d4 : nth xs k / 16 < 16 := by omega
      have HS := Lib.hid (hexL_step (xs := xs) (k := k) (by rw [← hl.out]; exact hlt))
      have hsz : (hexL (xs.take k)).length ≤ 2000000 := by rw [hexL_len, List.length_take]; omega
      generalize hexL (xs.take k) = L at *
      have hq := Lib.hid hr
      clear d0 hx hcell hxr hr
      have E1 := Lib.hid (ext_digit (nth xs k / 16) d3 d4)
      have E2 := Lib.hid (ext_digit (nth xs k % 16) d1 d2)
      have e1 : IntKind.u8.wrap (nth xs k / 16 + 1) = nth xs k / 16 + 1 := by rw [IntKind.wrap_u8']; omega
      have e2 : IntKind.u8.wrap (nth xs k % 16 + 1) = nth xs k % 16 + 1 := by rw [IntKind.wrap_u8']; omega
      have n1 : ¬ 9223372036854775807 < L.length + 1 := by omega
      have n2 : ¬ 9223372036854775807 < L.length + 1 + 1 := by omega
      go_wp2_with fail
      refine wp_region_quiet_below (by kernel_rfl) (by kernel_rfl) ?_
      repeat (go_big_quiet_step (fail))
      rw [E1.out, E2.out]
      refine wpQuiet_nil ?_
      rintro _ ⟨⟨dq, osq⟩, rfl⟩
      have hb2 := bl_trans hbr (below_regrown wr dq osq)
      generalize grow (redrawn wr dq) osq = w2 at *
      clear e1 e2 n1 n2 hck
      go_wp2
      go_roundw
      case rel =>
        first
          | exact ⟨k + 1, by omega, by go_num, by rw [HS.out]; exact congrArg Value.string (ba_two _ _ _), hb2⟩
          | ((repeat apply Exists.intro); exact ⟨⟨k + 1, by omega, by go_num, by rw [HS.out]; exact congrArg Value.string (ba_two _ _ _), hb2⟩, rfl⟩)
      case measure => simp [intOf]; omega
    · obtain rfl : k = n := by omega
      have HT := Lib.hid (show xs.take k = xs by rw [List.take_of_length_le (by rw [← hl.out]; exact Nat.le_refl _)])
      rw [HT.out]
      go_wp2
      go_ret
      exact ⟨rfl, hbr⟩
end Go.Proofs.YtecbbjdcnlocdaaDoor

/- peerageref12.Text (written by gen/mtc.py) -/
namespace Go.Proofs.YtecbbjdcnlocdaaDoor
open Go.RowKit Go.Sort

theorem sh_true (a : At) (rs : List Rt) : shB true a rs = mvB true true true true a rs := by
  rw [← mv_eq]
  unfold rmvB
  by_cases hf : a.f = 1 ∨ a.f = 2
  · have h : famB true true a.f = true := by
      unfold famB
      rcases hf with e | e <;> rw [e] <;> rfl
    rw [h]; rfl
  · have h : famB true true a.f = false := by
      unfold famB
      rw [decide_eq_false (fun e => hf (.inl e)), decide_eq_false (fun e => hf (.inr e))]; rfl
    rw [h]
    unfold shB
    rw [decide_eq_false hf]
    simp
theorem exD_reach : (ByteArray.mk #[114, 101, 97, 99, 104, 32, 105, 112, 118, 52]).extract 0 9 = ⟨#[114, 101, 97, 99, 104, 32, 105, 112, 118]⟩ := by kernel_rfl
theorem exD_unreach : (ByteArray.mk #[117, 110, 114, 101, 97, 99, 104, 32, 105, 112, 118, 52]).extract 0 11 = ⟨#[117, 110, 114, 101, 97, 99, 104, 32, 105, 112, 118]⟩ := by kernel_rfl
set_option maxRecDepth 100000 in
set_option maxHeartbeats 6400000 in
theorem rmtext_any (a : At) (bs : List Int) (rs : List Rt) (w : World) (hB : Bytes w w.heap.size a.A3 a.n3 bs) (hr : Routes w w.heap.size a.A4 a.n4 rs) (h3 : a.n3 ≤ 600) (h4 : a.n4 ≤ 100) :
    Calls Tryd.prog 36 #[.agg (atc a)] w fun e w' => e = .returned (.string (mTxt a bs rs)) ∧ Below w.heap.size w w' := by
  have b1 := bl_alloc (bl_refl w) (.cells (atc a) 55)
  have o1 := Own.new w 55 (atc a)
  have HV := Lib.hid (rshaped_any true a rs _ ((hr.below b1).more b1.size) (by omega))
  have hR := Lib.hid (fun W (h : Below w.heap.size w W) => rmroutes_any a.A4 a.n4 a.c4 rs W ((hr.below h).more h.size) (by omega))
  have hH := Lib.hid (fun W (h : Below w.heap.size w W) => rhex_any a.A3 a.n3 a.c3 bs W ((hB.below h).more h.size) (by omega))
  have hHz := hexM_size (bs := bs) (by rw [← hB.1]; exact h3)
  have hRz := rtxts_sizeA hr.2.1 (by rw [← hr.1]; exact h4)
  have hz := Lib.hid (mHd_size (k := a.k) (f := a.f) (hx := hexM bs))
  have hG := Lib.hid (fun (h : mvB true true true true a rs = true) => mv_rng h)
  have hX : Hid (mTxt a bs rs = if mvB true true true true a rs = true then mTl a.n4 (mHd a.k a.f (hexM bs)) (rtxts rs) else ⟨#[]⟩) := Lib.hid rfl
  rw [sh_true] at HV
  generalize mTxt a bs rs = Z at *
  generalize mvB true true true true a rs = V at *
  generalize hexM bs = X at *
  generalize rtxts rs = R at *
  obtain ⟨k, p, N, M, A1, n1, c1, A2, n2, c2, A3, n3, c3, f, A4, n4, c4⟩ := a
  unfold atc at *
  dsimp only at *
  clear hr hB
  go_enter Tryd.func36, Tryd.ntmps36
  go_wp2_with (refine wpList_load_row rfl 55 _ rfl w.heap.size rfl 55 #[.int .i64 k, .bool p, .int .u32 N, .int .u32 M, .slice A1 n1 c1, .slice A2 n2 c2, .slice A3 n3 c3, .int .i64 f, .slice A4 n4 c4] (0, 0) (.struct (Tryd.prog.fieldsOf 55)) o1 (by kernel_rfl) rfl (by kernel_rfl) ?_)
  refine HV.out.mono ?_
  rintro e w1 ⟨rfl, hb1⟩
  have p1 := o1.step hb1
  have b2 := bl_trans b1 hb1
  clear o1 b1 hb1 HV
  cases V with
  | false =>
    go_wp2
    go_ret
    exact ⟨by rw [hX.out]; first | done | rfl, b2⟩
  | true =>
    obtain ⟨hk, hf⟩ := hG.out rfl
    have HX2 : Hid (Z = mTl n4 (mHd k f X) R) := Lib.hid hX.out
    clear hX hG
    obtain ⟨e0, e1, e2, e3, e4, e5, e6, e7, e8⟩ := at_cells p1
    rcases hk with rfl | rfl
    · rcases hf with rfl | rfl
      · have hHd0 : Hid (mHd 14 1 X = ⟨#[114, 101, 97, 99, 104, 32, 105, 112, 118, 52]⟩ ++ ⟨#[32]⟩ ++ X) := Lib.hid rfl
        have hlz0 : (⟨#[114, 101, 97, 99, 104, 32, 105, 112, 118, 52]⟩ : ByteArray).size = 10 := rfl
        have hSz := hz.out
        have hle2 : (⟨#[114, 101, 97, 99, 104, 32, 105, 112, 118, 52]⟩ ++ ⟨#[32]⟩ : ByteArray) = ⟨#[114, 101, 97, 99, 104, 32, 105, 112, 118, 52, 32]⟩ := rfl
        have m0 : ¬ 9223372036854775807 < (⟨#[114, 101, 97, 99, 104, 32, 105, 112, 118, 52, 32]⟩ : ByteArray).size + X.size := by show ¬ 9223372036854775807 < 11 + X.size; omega
        have m00 : ¬ 9223372036854775807 < 11 + X.size := by omega
        go_wp2_with fail
        refine (hH.out _ b2).mono ?_
        rintro e w3 ⟨rfl, hb3⟩
        have b3 := bl_trans b2 hb3
        have p3 := p1.step hb3
        clear e0 e1 e2 e3 e4 e5 e6 e7 e8 p1 b2 hb3
        obtain ⟨e0, e1, e2, e3, e4, e5, e6, e7, e8⟩ := at_cells p3
        have hHd : Hid (mHd 14 1 X = ⟨#[114, 101, 97, 99, 104, 32, 105, 112, 118, 52, 32]⟩ ++ X) := Lib.hid hHd0.out
        have hSz2 : (⟨#[114, 101, 97, 99, 104, 32, 105, 112, 118, 52, 32]⟩ ++ X : ByteArray).size = 11 + X.size := by rw [ByteArray.size_append]; rfl
        have m000 : ¬ 9223372036854775807 < (⟨#[114, 101, 97, 99, 104, 32, 105, 112, 118, 52, 32]⟩ ++ X : ByteArray).size + 1 := by omega
        have m5 : ¬ 9223372036854775807 < (⟨#[114, 101, 97, 99, 104, 32, 105, 112, 118, 52, 32]⟩ ++ X : ByteArray).size + 1 + R.size := by omega
        have m6 : ¬ 9223372036854775807 < 11 + X.size + 1 := by omega
        have m7 : ¬ 9223372036854775807 < 11 + X.size + 1 + R.size := by omega
        have m8 : ¬ 9223372036854775807 < 11 + X.size + (1 + R.size) := by omega
        by_cases hn0 : n4 = 0
        · have hE : Hid (Z = (⟨#[114, 101, 97, 99, 104, 32, 105, 112, 118, 52, 32]⟩ ++ X)) := Lib.hid (by rw [HX2.out, hHd.out]; unfold mTl; rw [if_neg (by omega)])
          have d0 : decide ((0 : Int) < (n4 : Int)) = false := by simp; omega
          have d1 : ((0 : Int) < (n4 : Int)) = False := eq_false (by omega)
          have d2 : (0 < n4) = False := eq_false (by omega)
          clear HX2 hHd hn0
          go_wp2
          go_ret
          exact ⟨by rw [hE.out]; first | done | rfl, b3⟩
        · have hE : Hid (Z = (⟨#[114, 101, 97, 99, 104, 32, 105, 112, 118, 52, 32]⟩ ++ X) ++ (⟨#[32]⟩ ++ R)) := Lib.hid (by rw [HX2.out, hHd.out]; unfold mTl; rw [if_pos (by omega), ByteArray.append_assoc])
          have d0 : decide ((0 : Int) < (n4 : Int)) = true := by simp; omega
          have d1 : (0 : Int) < (n4 : Int) := by omega
          have d2 : 0 < n4 := by omega
          have m1 : ¬ 9223372036854775807 < 1 + R.size := by omega
          have m2 : ¬ 9223372036854775807 < ((⟨#[114, 101, 97, 99, 104, 32, 105, 112, 118, 52, 32]⟩ ++ X) : ByteArray).size + (1 + R.size) := by omega
          clear HX2 hHd hn0
          go_wp2_with fail
          refine (hR.out _ b3).mono ?_
          rintro e w8 ⟨rfl, hb8⟩
          go_wp2
          go_ret
          exact ⟨by first | (rw [hE.out]; first | done | rfl) | (rw [hE.out, ← ByteArray.append_assoc]; first | done | rfl), bl_trans b3 hb8⟩
      · have hHd0 : Hid (mHd 14 2 X = ⟨#[114, 101, 97, 99, 104, 32, 105, 112, 118, 54]⟩ ++ ⟨#[32]⟩ ++ X) := Lib.hid rfl
        have hlz0 : (⟨#[114, 101, 97, 99, 104, 32, 105, 112, 118, 52]⟩ : ByteArray).size = 10 := rfl
        have hex1 := exD_reach
        have hcz : (⟨#[114, 101, 97, 99, 104, 32, 105, 112, 118]⟩ ++ ⟨#[54]⟩ : ByteArray) = ⟨#[114, 101, 97, 99, 104, 32, 105, 112, 118, 54]⟩ := rfl
        have hSz := hz.out
        have hle2 : (⟨#[114, 101, 97, 99, 104, 32, 105, 112, 118, 54]⟩ ++ ⟨#[32]⟩ : ByteArray) = ⟨#[114, 101, 97, 99, 104, 32, 105, 112, 118, 54, 32]⟩ := rfl
        have m0 : ¬ 9223372036854775807 < (⟨#[114, 101, 97, 99, 104, 32, 105, 112, 118, 54, 32]⟩ : ByteArray).size + X.size := by show ¬ 9223372036854775807 < 11 + X.size; omega
        have m00 : ¬ 9223372036854775807 < 11 + X.size := by omega
        go_wp2_with fail
        refine (hH.out _ b2).mono ?_
        rintro e w3 ⟨rfl, hb3⟩
        have b3 := bl_trans b2 hb3
        have p3 := p1.step hb3
        clear e0 e1 e2 e3 e4 e5 e6 e7 e8 p1 b2 hb3
        obtain ⟨e0, e1, e2, e3, e4, e5, e6, e7, e8⟩ := at_cells p3
        have hHd : Hid (mHd 14 2 X = ⟨#[114, 101, 97, 99, 104, 32, 105, 112, 118, 54, 32]⟩ ++ X) := Lib.hid hHd0.out
        have hSz2 : (⟨#[114, 101, 97, 99, 104, 32, 105, 112, 118, 54, 32]⟩ ++ X : ByteArray).size = 11 + X.size := by rw [ByteArray.size_append]; rfl
        have m000 : ¬ 9223372036854775807 < (⟨#[114, 101, 97, 99, 104, 32, 105, 112, 118, 54, 32]⟩ ++ X : ByteArray).size + 1 := by omega
        have m5 : ¬ 9223372036854775807 < (⟨#[114, 101, 97, 99, 104, 32, 105, 112, 118, 54, 32]⟩ ++ X : ByteArray).size + 1 + R.size := by omega
        have m6 : ¬ 9223372036854775807 < 11 + X.size + 1 := by omega
        have m7 : ¬ 9223372036854775807 < 11 + X.size + 1 + R.size := by omega
        have m8 : ¬ 9223372036854775807 < 11 + X.size + (1 + R.size) := by omega
        by_cases hn0 : n4 = 0
        · have hE : Hid (Z = (⟨#[114, 101, 97, 99, 104, 32, 105, 112, 118, 54, 32]⟩ ++ X)) := Lib.hid (by rw [HX2.out, hHd.out]; unfold mTl; rw [if_neg (by omega)])
          have d0 : decide ((0 : Int) < (n4 : Int)) = false := by simp; omega
          have d1 : ((0 : Int) < (n4 : Int)) = False := eq_false (by omega)
          have d2 : (0 < n4) = False := eq_false (by omega)
          clear HX2 hHd hn0
          go_wp2
          go_ret
          exact ⟨by rw [hE.out]; first | done | rfl, b3⟩
        · have hE : Hid (Z = (⟨#[114, 101, 97, 99, 104, 32, 105, 112, 118, 54, 32]⟩ ++ X) ++ (⟨#[32]⟩ ++ R)) := Lib.hid (by rw [HX2.out, hHd.out]; unfold mTl; rw [if_pos (by omega), ByteArray.append_assoc])
          have d0 : decide ((0 : Int) < (n4 : Int)) = true := by simp; omega
          have d1 : (0 : Int) < (n4 : Int) := by omega
          have d2 : 0 < n4 := by omega
          have m1 : ¬ 9223372036854775807 < 1 + R.size := by omega
          have m2 : ¬ 9223372036854775807 < ((⟨#[114, 101, 97, 99, 104, 32, 105, 112, 118, 54, 32]⟩ ++ X) : ByteArray).size + (1 + R.size) := by omega
          clear HX2 hHd hn0
          go_wp2_with fail
          refine (hR.out _ b3).mono ?_
          rintro e w8 ⟨rfl, hb8⟩
          go_wp2
          go_ret
          exact ⟨by first | (rw [hE.out]; first | done | rfl) | (rw [hE.out, ← ByteArray.append_assoc]; first | done | rfl), bl_trans b3 hb8⟩
    · rcases hf with rfl | rfl
      · have hHd : Hid (mHd 15 1 X = ⟨#[117, 110, 114, 101, 97, 99, 104, 32, 105, 112, 118, 52]⟩) := Lib.hid rfl
        have hlz0 : (⟨#[117, 110, 114, 101, 97, 99, 104, 32, 105, 112, 118, 52]⟩ : ByteArray).size = 12 := rfl
        have hlz : (⟨#[117, 110, 114, 101, 97, 99, 104, 32, 105, 112, 118, 52]⟩ : ByteArray).size = 12 := rfl
        by_cases hn0 : n4 = 0
        · have hE : Hid (Z = ⟨#[117, 110, 114, 101, 97, 99, 104, 32, 105, 112, 118, 52]⟩) := Lib.hid (by rw [HX2.out, hHd.out]; unfold mTl; rw [if_neg (by omega)])
          have d0 : decide ((0 : Int) < (n4 : Int)) = false := by simp; omega
          have d1 : ((0 : Int) < (n4 : Int)) = False := eq_false (by omega)
          have d2 : (0 < n4) = False := eq_false (by omega)
          clear HX2 hHd hn0
          go_wp2
          go_ret
          exact ⟨by rw [hE.out]; first | done | rfl, b2⟩
        · have hE : Hid (Z = ⟨#[117, 110, 114, 101, 97, 99, 104, 32, 105, 112, 118, 52]⟩ ++ (⟨#[32]⟩ ++ R)) := Lib.hid (by rw [HX2.out, hHd.out]; unfold mTl; rw [if_pos (by omega), ByteArray.append_assoc])
          have d0 : decide ((0 : Int) < (n4 : Int)) = true := by simp; omega
          have d1 : (0 : Int) < (n4 : Int) := by omega
          have d2 : 0 < n4 := by omega
          have m1 : ¬ 9223372036854775807 < 1 + R.size := by omega
          have m2 : ¬ 9223372036854775807 < (⟨#[117, 110, 114, 101, 97, 99, 104, 32, 105, 112, 118, 52]⟩ : ByteArray).size + (1 + R.size) := by omega
          clear HX2 hHd hn0
          go_wp2_with fail
          refine (hR.out _ b2).mono ?_
          rintro e w8 ⟨rfl, hb8⟩
          go_wp2
          go_ret
          exact ⟨by first | (rw [hE.out]; first | done | rfl) | (rw [hE.out, ← ByteArray.append_assoc]; first | done | rfl), bl_trans b2 hb8⟩
      · have hHd : Hid (mHd 15 2 X = ⟨#[117, 110, 114, 101, 97, 99, 104, 32, 105, 112, 118, 54]⟩) := Lib.hid rfl
        have hlz0 : (⟨#[117, 110, 114, 101, 97, 99, 104, 32, 105, 112, 118, 52]⟩ : ByteArray).size = 12 := rfl
        have hex1 := exD_unreach
        have hcz : (⟨#[117, 110, 114, 101, 97, 99, 104, 32, 105, 112, 118]⟩ ++ ⟨#[54]⟩ : ByteArray) = ⟨#[117, 110, 114, 101, 97, 99, 104, 32, 105, 112, 118, 54]⟩ := rfl
        have hlz : (⟨#[117, 110, 114, 101, 97, 99, 104, 32, 105, 112, 118, 54]⟩ : ByteArray).size = 12 := rfl
        by_cases hn0 : n4 = 0
        · have hE : Hid (Z = ⟨#[117, 110, 114, 101, 97, 99, 104, 32, 105, 112, 118, 54]⟩) := Lib.hid (by rw [HX2.out, hHd.out]; unfold mTl; rw [if_neg (by omega)])
          have d0 : decide ((0 : Int) < (n4 : Int)) = false := by simp; omega
          have d1 : ((0 : Int) < (n4 : Int)) = False := eq_false (by omega)
          have d2 : (0 < n4) = False := eq_false (by omega)
          clear HX2 hHd hn0
          go_wp2
          go_ret
          exact ⟨by rw [hE.out]; first | done | rfl, b2⟩
        · have hE : Hid (Z = ⟨#[117, 110, 114, 101, 97, 99, 104, 32, 105, 112, 118, 54]⟩ ++ (⟨#[32]⟩ ++ R)) := Lib.hid (by rw [HX2.out, hHd.out]; unfold mTl; rw [if_pos (by omega), ByteArray.append_assoc])
          have d0 : decide ((0 : Int) < (n4 : Int)) = true := by simp; omega
          have d1 : (0 : Int) < (n4 : Int) := by omega
          have d2 : 0 < n4 := by omega
          have m1 : ¬ 9223372036854775807 < 1 + R.size := by omega
          have m2 : ¬ 9223372036854775807 < (⟨#[117, 110, 114, 101, 97, 99, 104, 32, 105, 112, 118, 54]⟩ : ByteArray).size + (1 + R.size) := by omega
          clear HX2 hHd hn0
          go_wp2_with fail
          refine (hR.out _ b2).mono ?_
          rintro e w8 ⟨rfl, hb8⟩
          go_wp2
          go_ret
          exact ⟨by first | (rw [hE.out]; first | done | rfl) | (rw [hE.out, ← ByteArray.append_assoc]; first | done | rfl), bl_trans b2 hb8⟩
end Go.Proofs.YtecbbjdcnlocdaaDoor

/- mp.Bytes at the example; alive of layer 12 -/
namespace Go.Proofs.YtecbbjdcnlocdaaDoor
open Go.RowKit Go.Sort

theorem exS_of {W : World} {b g2 : Nat} {S T : TypeId} (o1 : Own W b S exO) (o2 : Own W g2 T exA) : W.cell? ⟨b, 0, none⟩ = some (.bool false) ∧ W.cell? ⟨b, 1, none⟩ = some (.bool false) ∧ W.cell? ⟨b, 2, none⟩ = some (.bool false) ∧ W.cell? ⟨b, 3, none⟩ = some (.bool true) ∧ W.cell? ⟨b, 4, none⟩ = some (.bool false) ∧ W.cell? ⟨b, 5, none⟩ = some (.bool false) ∧ W.cell? ⟨g2, 7, none⟩ = some (.int .i64 2) ∧ W.cell? ⟨g2, 8, none⟩ = some (.slice none 0 0) :=
  ⟨o1.cell rfl, o1.cell rfl, o1.cell rfl, o1.cell rfl, o1.cell rfl, o1.cell rfl, o2.cell rfl, o2.cell rfl⟩
set_option maxRecDepth 100000 in
theorem oadd_exL (w : World) : Calls Tryd.prog 98 #[.agg #[.bool false, .bool false, .bool false, .bool true, .bool false, .bool false], .int .i64 2] w fun e w' => e = .returned (.bool false) ∧ Below w.heap.size w w' := oadd_ex w
set_option maxRecDepth 100000 in
theorem nb_ex (w : World) : Calls Tryd.prog 97 #[.int .i64 2, .bool false, .slice none 0 0] w fun e w' => ∃ g, e = .returned (.tuple #[.slice (some ⟨g, 0, none⟩) 0 0, .bool true]) ∧ Below w.heap.size w w' := by
  refine (nbytes_false 2 none 0 0 [] w (routes_nil _ _) (by omega) (by rfl)).mono ?_
  rintro e w' ⟨g, rfl, _, _, hb⟩
  exact ⟨g, rfl, hb⟩
theorem parts_ex {W : World} {j k : Nat} {T : TypeId} {A2 : Option Addr} {c2 : Nat} (ho : Own W k T #[.slice (some ⟨j, 0, none⟩) 3 3, .slice A2 0 c2]) (h1 : Own W j 5 #[.int .u8 0, .int .u8 2, .int .u8 1]) : Parts W W.heap.size (some ⟨k, 0, none⟩) 2 [⟨some ⟨j, 0, none⟩, 3, 3, [0, 2, 1]⟩, ⟨A2, 0, c2, []⟩] :=
  parts_two ho (Bytes.of_owned (xs := [0, 2, 1]) h1 (by decide) h1.lt) (Bytes.nil _ _ _)
set_option maxRecDepth 100000 in
set_option maxHeartbeats 1600000 in
theorem mbytes_ex (w : World) (hf : Fams w) : Calls Tryd.prog 73 #[.agg exO, .agg exA] w fun e w' => ∃ g, e = .returned (.tuple #[.slice (some ⟨g, 0, none⟩) 3 3, .bool true]) ∧ w.heap.size ≤ g ∧ Own w' g 5 #[.int .u8 0, .int .u8 2, .int .u8 1] ∧ Below w.heap.size w w' := by
  have hb0 := bl_alloc (bl_alloc (bl_refl w) (.cells exO 111)) (.cells exA 55)
  have o1 := (Own.new w 111 exO).alloc (.cells exA 55)
  have o2 := Own.new (w.alloc (.cells exO 111)) 55 exA
  rw [show (w.alloc (.cells exO 111)).heap.size = w.heap.size + 1 by simp] at o2
  go_enter Tryd.func73, Tryd.ntmps73
  go_wp2_with (first | (refine wpList_load_row rfl 111 _ rfl w.heap.size rfl 111 exO (0, 0) (.struct (Tryd.prog.fieldsOf 111)) o1 (by kernel_rfl) rfl (by kernel_rfl) ?_) | (refine wpList_load_row rfl 55 _ rfl (w.heap.size + 1) rfl 55 exA (0, 0) (.struct (Tryd.prog.fieldsOf 55)) o2 (by kernel_rfl) rfl (by kernel_rfl) ?_))
  refine (mvalid_ex _).mono ?_
  rintro e w1 ⟨rfl, hb1⟩
  have q1 := o1.step hb1
  have q2 := o2.step hb1
  have hb2 := bl_trans hb0 hb1
  clear o1 o2 hb0 hb1
  generalize w.heap.size + 1 = g2 at q2 ⊢
  have c7 := q2.cell (i := 7) (v := .int .i64 2) rfl
  have hf1 := hf.below hb2
  go_wp2_with fail
  refine (codes_yes 2 _ (.inr rfl) hf1).mono ?_
  rintro e w2 ⟨j, rfl, hj, hoj, hb3⟩
  have u1 := q1.step hb3
  have u2 := q2.step hb3
  have hb4 := bl_trans hb2 hb3
  clear q1 q2 hb2 hb3 c7 hf1
  have HS0 := exS_of u1.drew u2.drew
  go_wp2_with fail
  go_region_held3 (fun W => W.cell? ⟨w.heap.size, 0, none⟩ = some (.bool false) ∧ W.cell? ⟨w.heap.size, 1, none⟩ = some (.bool false) ∧ W.cell? ⟨w.heap.size, 2, none⟩ = some (.bool false) ∧ W.cell? ⟨w.heap.size, 3, none⟩ = some (.bool true) ∧ W.cell? ⟨w.heap.size, 4, none⟩ = some (.bool false) ∧ W.cell? ⟨w.heap.size, 5, none⟩ = some (.bool false) ∧ W.cell? ⟨g2, 7, none⟩ = some (.int .i64 2) ∧ W.cell? ⟨g2, 8, none⟩ = some (.slice none 0 0)) (with_reducible first | exact HS0 | exact HS1 | exact HS2) ((first
    | (go_at_call 98; (with_reducible refine (oadd_exL _).mono ?_); rintro e w3 ⟨rfl, hb5⟩; have HS1 := exS_of (u1.drew.step hb5) (u2.drew.step hb5))
    | (go_at_call 97; (with_reducible refine (nb_ex _).mono ?_); rintro e w4 ⟨k, rfl, hb6⟩; have HS2 := exS_of ((u1.drew.step hb5).step hb6) ((u2.drew.step hb5).step hb6))))
  have v2 := (u2.drew.step hb5).step hb6
  have hoj4 := (hoj.drew.step hb5).step hb6
  have hb7 := bl_trans (bl_trans (bl_drewN hb4 1) hb5) hb6
  have c0 := v2.cell (i := 0) (v := .int .i64 15) rfl
  clear HS0 HS1 HS2 u1 u2 hoj hb4 hb5 hb6 v2
  have hpt := parts_ex (Own.new w4 25 #[.slice (some ⟨j, 0, none⟩) 3 3, .slice (some ⟨k, 0, none⟩) 0 0]) (hoj4.alloc (.cells #[.slice (some ⟨j, 0, none⟩) 3 3, .slice (some ⟨k, 0, none⟩) 0 0] 25))
  have hb8 := bl_alloc hb7 (.cells #[.slice (some ⟨j, 0, none⟩) 3 3, .slice (some ⟨k, 0, none⟩) 0 0] 25)
  go_wp2_with fail
  have hfl : flat [⟨some ⟨j, 0, none⟩, 3, 3, [0, 2, 1]⟩, ⟨some ⟨k, 0, none⟩, 0, 0, []⟩] = [0, 2, 1] := by simp [flat]
  refine (cat_own (c := 2) hpt (by omega) (by rw [hfl]; decide)).mono ?_
  rw [hfl]
  rintro e w5 ⟨rfl, ho2, hb9⟩
  have hb10 := bl_trans hb8 hb9
  have hsz := hb8.size
  rw [show (w4.alloc (.cells #[.slice (some ⟨j, 0, none⟩) 3 3, .slice (some ⟨k, 0, none⟩) 0 0] 25)).heap.size = w4.heap.size + 1 by simp] at ho2 hsz
  go_wp2
  go_ret2
  exact ⟨_, rfl, hsz, ho2, hb10⟩
set_option maxRecDepth 100000 in
set_option maxHeartbeats 1600000 in
theorem alive12_any (w : World) (hf : Fams w) : Calls Tryd.prog 34 #[] w fun e w' => e = .returned (.bool true) ∧ Below w.heap.size w w' := by
  have hO : #[.bool false, .bool false, .bool false, .bool true, .bool false, .bool false] = exO := rfl
  have hA : #[.int .i64 15, .bool false, .int .u32 0, .int .u32 0, .slice none 0 0, .slice none 0 0, .slice none 0 0, .int .i64 2, .slice none 0 0] = exA := rfl
  go_enter Tryd.func34, Tryd.ntmps34
  go_wp2_with fail
  refine (mbytes_ex _ hf).mono ?_
  rintro e w1 ⟨g, rfl, hg, ho, hb1⟩
  have c0 := ho.cell (i := 0) (v := .int .u8 0) rfl
  have c1 := ho.cell (i := 1) (v := .int .u8 2) rfl
  have c2 := ho.cell (i := 2) (v := .int .u8 1) rfl
  go_wp2
  go_ret
  exact ⟨rfl, hb1⟩
end Go.Proofs.YtecbbjdcnlocdaaDoor

/- peeragelaw12.MpTexts: the walk (written by gen/mte.py) -/
namespace Go.Proofs.YtecbbjdcnlocdaaDoor
open Go.RowKit Go.Sort

set_option maxRecDepth 100000 in
set_option maxHeartbeats 6400000 in
theorem mptexts_all (a : At) (ss : List Sg) (bs : List Int) (rs : List Rt) (w : World) (hF : Fams w) (hT : Tens w) (hbn : Brn w) (hfn : FamNm w) (hs : Segs w w.heap.size a.A1 a.n1 ss) (hm : a.n1 ≤ maxLen) (hB : Bytes w w.heap.size a.A3 a.n3 bs) (hr : Routes w w.heap.size a.A4 a.n4 rs) :
    Calls Tryd.prog 7 #[.agg (atc a)] w fun e w' => e = .returned (.bool true) ∧ Below w.heap.size w w' := by
  have b1 := bl_alloc (bl_refl w) (.cells (atc a) 55)
  have o1 := Own.new w 55 (atc a)
  have hSm := Lib.hid (small12_any a ss _ ((hs.below b1).more b1.size) hm)
  have hQ : Hid (small12B a ss = true → a.n3 ≤ 600 ∧ a.n4 ≤ 100) := Lib.hid (fun h => by
    unfold small12B at h
    rw [Bool.and_eq_true] at h
    have h2 := of_decide_eq_true h.2
    exact ⟨h2.2.1, h2.2.2⟩)
  have hA := Lib.hid (fun W (h : Below w.heap.size w W) => alive12_any W (hF.below h))
  have hX := Lib.hid (fun W (h : Below w.heap.size w W) (h3 : a.n3 ≤ 600) (h4 : a.n4 ≤ 100) => mtext_any a bs rs W ((hB.below h).more h.size) ((hr.below h).more h.size) h3 h4 (hT.below h) (hbn.below h) (hfn.below h))
  have hRX := Lib.hid (fun W (h : Below w.heap.size w W) (h3 : a.n3 ≤ 600) (h4 : a.n4 ≤ 100) => rmtext_any a bs rs W ((hB.below h).more h.size) ((hr.below h).more h.size) h3 h4)
  have hR := Lib.hid (fun W (h : Below w.heap.size w W) (h4 : a.n4 ≤ 100) => mroutes_any a.A4 a.n4 a.c4 rs W ((hr.below h).more h.size) (by omega) (hT.below h) (hbn.below h))
  have hRR := Lib.hid (fun W (h : Below w.heap.size w W) (h4 : a.n4 ≤ 100) => rmroutes_any a.A4 a.n4 a.c4 rs W ((hr.below h).more h.size) (by omega))
  generalize mTxt a bs rs = Z at *
  generalize rtxts rs = R at *
  generalize small12B a ss = V at *
  obtain ⟨k, p, N, M, A1, n1, c1, A2, n2, c2, A3, n3, c3, f, A4, n4, c4⟩ := a
  unfold atc at *
  dsimp only at *
  clear hr hB hT hbn hfn hF hs
  go_enter Tryd.func7, Tryd.ntmps7
  go_wp2_with (refine wpList_load_row rfl 55 _ rfl w.heap.size rfl 55 #[.int .i64 k, .bool p, .int .u32 N, .int .u32 M, .slice A1 n1 c1, .slice A2 n2 c2, .slice A3 n3 c3, .int .i64 f, .slice A4 n4 c4] (0, 0) (.struct (Tryd.prog.fieldsOf 55)) o1 (by kernel_rfl) rfl (by kernel_rfl) ?_)
  refine hSm.out.mono ?_
  rintro e w1 ⟨rfl, hb1⟩
  have o2 := o1.step hb1
  have b2 := bl_trans b1 hb1
  clear o1 b1 hb1 hSm
  cases V with
  | false =>
    go_wp2_with fail
    refine (hA.out _ b2).mono ?_
    rintro e w3 ⟨rfl, hb3⟩
    go_wp2
    go_ret
    exact ⟨rfl, bl_trans b2 hb3⟩
  | true =>
    obtain ⟨h3, h4⟩ := hQ.out rfl
    have hA3 := Lib.hid (rg_of (w := w1) (fun W hW => hA.out W (bl_trans b2 hW)))
    have hX3 := Lib.hid (rg_of (w := w1) (fun W hW => hX.out W (bl_trans b2 hW) h3 h4))
    have hRX3 := Lib.hid (rg_of (w := w1) (fun W hW => hRX.out W (bl_trans b2 hW) h3 h4))
    have hR3 := Lib.hid (rg_of (w := w1) (fun W hW => hR.out W (bl_trans b2 hW) h4))
    have hRR3 := Lib.hid (rg_of (w := w1) (fun W hW => hRR.out W (bl_trans b2 hW) h4))
    have e8 := cell_regrown (at_cells o2).2.2.2.2.2.2.2.2
    go_wp2_with fail
    refine wp_region_quiet_below (by kernel_rfl) (by kernel_rfl) ?_
    repeat (first
      | go_big_quiet_skip
      | (refine wpQuiet_load_row (by rfl) 55 _ rfl w.heap.size rfl 55 #[.int .i64 k, .bool p, .int .u32 N, .int .u32 M, .slice A1 n1 c1, .slice A2 n2 c2, .slice A3 n3 c3, .int .i64 f, .slice A4 n4 c4] (.struct (Tryd.prog.fieldsOf 55)) o2.rg (by kernel_rfl) rfl (by kernel_rfl) ?_; go_simp)
      | go_big_quiet_step (with_reducible first | exact hA3.out _ _ | exact hX3.out _ _ | exact hRX3.out _ _ | exact hR3.out _ _ | exact hRR3.out _ _))
    refine wpQuiet_nil ?_
    first | rintro w' ⟨⟨dq, osq⟩, rfl⟩ | rintro ⟨dq, osq⟩
    have hgw := below_regrown w1 dq osq
    have b3 := bl_trans b2 hgw
    generalize grow (redrawn w1 dq) osq = w3 at *
    clear hA3 hX3 hRX3 hR3 hRR3 e8
    go_wp2
    go_ret
    exact ⟨by first | rfl | (apply ret_boolA; simp), b3⟩
set_option maxRecDepth 100000 in
theorem mptexts_walk (a : At) (rs : List Rt) (w : World) (hT : Tens w ∧ Brn w ∧ FamNm w ∧ Fams w) (hin : AtIn w a) (hr : Routes w w.heap.size a.A4 a.n4 rs) :
    Calls Tryd.prog 7 #[.agg (atc a)] w fun e w' => e = .returned (.bool true) ∧ Below w.heap.size w w' := by
  obtain ⟨_, _, _, _, ⟨g1, g2, ss, g3⟩, _, ⟨_, _, xs, hB⟩, _⟩ := hin
  exact mptexts_all a ss xs rs w hT.2.2.2 hT.1 hT.2.1 hT.2.2.1 g3 (Nat.le_trans g1 g2) hB hr
end Go.Proofs.YtecbbjdcnlocdaaDoor

/- an attribute that came in, with its routes -/
namespace Go.Proofs.YtecbbjdcnlocdaaDoor
open Go.ChangeShapes Go.WideShapes Go.ChangeAt Go.RowKit Go.Deep
section
variable {P : Program} {w : World} {H : Type} {enc : TypeId × Value → H} {spare : Nat → Bool} {held : Bool}
instance : Inhabited Rt := ⟨rt0⟩
theorem open_routes2 {t e t4 t8 t1 : TypeId} {A : Option Addr} {n c : Nat} {d : DataW H} {p : List MemPlace} (ht : P.underlying t = some (.slice e)) (hc : P.cellsOf e = 19) (hi4 : P.underlying t4 = some (.int .u32)) (hi8 : P.underlying t8 = some (.int .i64)) (hi1 : P.underlying t1 = some (.int .u8))
    (h0 : leafAt P 5 e 0 = some t4) (h1 : leafAt P 5 e 1 = some t8) (h2 : leafAt P 5 e 2 = some t8) (hu : ∀ j, j < 16 → leafAt P 5 e (3 + j) = some t1) (h : DataW.Trod enc P w 0 spare held t (.slice A n c) d p) :
    ∃ l, Routes w w.heap.size A n l := by
  obtain ⟨fuel, hf⟩ := h
  rcases open_slice ht hf with ⟨hcs, _⟩ | ⟨a, len, cap, m, n', D, Pl, hcs, _, hl, hm, hmm, _, hx⟩
  · simp [Value.cells] at hcs
    obtain ⟨rfl, rfl, rfl⟩ := hcs
    exact ⟨[], rfl, by simp, .inl rfl⟩
  · simp [Value.cells] at hcs
    obtain ⟨rfl, rfl, rfl⟩ := hcs
    rw [hc] at hx
    have hmn : n ≤ m := by rw [hmm]; split <;> omega
    obtain ⟨l, hll, hlp⟩ := list_of (n := n) (p := fun i (z : Rt) => z.Ok ∧ ∀ j u, (rt z).toList[j]? = some u → w.cell? (a.add (i * 19 + j)) = some u) (fun i hin => by
      obtain ⟨cs', hcells, htr⟩ := hx i (by omega)
      obtain ⟨_, _, hat⟩ := World.cells?_some hcells
      obtain ⟨x, hx0, hw0⟩ := leaf_int h0 hi4 htr
      obtain ⟨y, hy0, hw1⟩ := leaf_int h1 hi8 htr
      obtain ⟨z, hz0, hw2⟩ := leaf_int h2 hi8 htr
      obtain ⟨us, hus, hup⟩ := list_of (n := 16) (p := fun j (q : Int) => cs'[3 + j]? = some (.int .u8 q) ∧ (Lit.int .u8 q).wf = true) (fun j hj => leaf_int (hu j hj) hi1 htr)
      have hur : ∀ q ∈ us, 0 ≤ q ∧ q ≤ 255 := fun q hq => by
        obtain ⟨j, hj⟩ := List.getElem?_of_mem hq
        exact wf_u8 (hup j q hj).2
      have hxr : 0 ≤ x ∧ x ≤ 4294967295 := by
        have := wf_u32 hw0
        omega
      refine ⟨⟨x, y, z, us⟩, ⟨⟨hus, hur⟩, hxr⟩, fun j u hj => ?_⟩
      have hjl : j < 19 := by
        have := (List.getElem?_eq_some_iff.1 hj).1
        rw [Array.length_toList, rt_size hus] at this
        exact this
      have hcj : cs'[j]? = some u := by
        rw [Array.getElem?_toList] at hj
        match j, hj with
        | 0, hj => rw [rt_0] at hj; rw [← hj]; exact hx0
        | 1, hj => rw [rt_1] at hj; rw [← hj]; exact hy0
        | 2, hj => rw [rt_2] at hj; rw [← hj]; exact hz0
        | j + 3, hj =>
          rw [show j + 3 = 1 + (2 + j) by omega, rt_at, pfx_at, arr_get (by show j < us.length; omega)] at hj
          rw [← hj, show j + 3 = 3 + j by omega]
          exact (hup j _ (nth_some (by omega))).1
      have g := (hat j (by omega)).trans hcj
      rw [Go.Deep.add_add] at g
      exact g)
    refine ⟨l, hll.symm, fun q hq => ?_, ?_⟩
    · obtain ⟨i, hi⟩ := List.getElem?_of_mem hq
      exact (hlp i q hi).1
    · rcases l with _ | ⟨z, l⟩
      · exact .inl rfl
      · right
        have hz := (hlp 0 z rfl).2 0 _ (by rw [Array.getElem?_toList]; exact rt_0 z)
        have hsp := World.cell?_spot hz
        have hlt := World.block_lt_of_cell? w _ hz
        obtain ⟨b, o, s⟩ := a
        have hs' : s = none := by simpa [Addr.add] using hsp
        subst hs'
        refine ⟨b, o, rfl, by simpa [Addr.add] using hlt, fun i q hi j u hu => ?_⟩
        have := (hlp i q hi).2 j u hu
        rw [Addr.add_lit, ← Nat.add_assoc] at this
        exact this
set_option maxRecDepth 100000 in
theorem open_atR {C : Array Value} {fuel : Nat} {x : DataW H × List MemPlace} (hz : C.size = Tryd.prog.cellsOf 55) (hx : DataW.trod enc Tryd.prog w 0 spare held fuel 55 C.toList = some x) (hsp : ∀ b, spare b = true) :
    ∃ (a : At) (rs : List Rt), C = atc a ∧ AtIn w a ∧ Routes w w.heap.size a.A4 a.n4 rs := by
  obtain ⟨a, rfl, ha⟩ := open_at hz hx hsp
  obtain ⟨fuel', y, t8⟩ := leaf_any (n := 5) (i := 8) (l := 53) (by kernel_rfl) hx (v := .slice a.A4 a.n4 a.c4) rfl
  obtain ⟨rs, hr⟩ := open_routes2 (t4 := 51) (t8 := 3) (t1 := 5) (d := y.1) (p := y.2) Tryd.underlying53 (by kernel_rfl) Tryd.underlying51 Tryd.underlying3 Tryd.underlying5 (by kernel_rfl) (by kernel_rfl) (by kernel_rfl) (of_decide_eq_true (by kernel_rfl)) ⟨fuel', t8.trans (by rfl)⟩
  exact ⟨a, rs, rfl, ha, hr⟩
end
end Go.Proofs.YtecbbjdcnlocdaaDoor

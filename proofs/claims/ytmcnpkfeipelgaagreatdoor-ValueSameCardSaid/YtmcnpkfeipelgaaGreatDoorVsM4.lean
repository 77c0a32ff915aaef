/- XVsM4: XVsF, XVsG, XVsD, XAtV, XVsH in one text -/
import Derived.Test.YtmcnpkfeipelgaaGreatDoorVsM2
import Derived.Test.YtmcnpkfeipelgaaGreatDoorVsM3
import Derived.Deep.DeepCutAuto
import Derived.Test.YtmcnpkfeipelgaaGreatDoorVsM1
/- the region that makes two copies: what it has left so far -/
namespace Go.Proofs.YtmcnpkfeipelgaaGreatDoor
open Go.RowKit Go.Sort

/-- A copy of a in the blocks from lo to hi. -/
structure CpOk (w W : World) (a : At) (ss : List Sg) (ls bs : List Int) (rs : List Rt) (a' : At) (tt : List Sg) (lo hi : Nat) : Prop where
  e : a'.k = a.k ∧ a'.p = a.p ∧ a'.N = a.N ∧ a'.M = a.M ∧ a'.f = a.f ∧ a'.n1 = a.n1 ∧ a'.n2 = a.n2 ∧ a'.n3 = a.n3 ∧ a'.n4 = a.n4
  m : tt.map sgK = ss.map sgK
  i : Mine lo W a' tt ls bs rs
  u : MineU hi a' tt
  h1 : w.heap.size ≤ lo
  h2 : lo ≤ hi
  h3 : hi ≤ W.heap.size
abbrev Cp := At × List Sg × Nat × Nat
def CdSt (w W : World) (a : At) (ss : List Sg) (ls bs : List Int) (rs : List Rt) (cb db : Option Nat) (c d : Option Cp) : Prop :=
  Below w.heap.size w W ∧ (∀ b, cb = some b → w.heap.size ≤ b ∧ Own W b 37 zA9) ∧ (∀ b, db = some b → w.heap.size ≤ b ∧ Own W b 37 zA9) ∧ (∀ b b', cb = some b → db = some b' → b ≠ b') ∧
  (∀ x, c = some x → CpOk w W a ss ls bs rs x.1 x.2.1 x.2.2.1 x.2.2.2 ∧ (∀ b, cb = some b → b < x.2.2.1 ∨ x.2.2.2 ≤ b) ∧ (∀ b, db = some b → b < x.2.2.1 ∨ x.2.2.2 ≤ b)) ∧
  (∀ x y, c = some x → d = some y → CpOk w W a ss ls bs rs y.1 y.2.1 y.2.2.1 y.2.2.2 ∧ x.2.2.2 ≤ y.2.2.1)
section
variable {w W W' : World} {a a' : At} {ss tt : List Sg} {ls bs : List Int} {rs : List Rt} {cb db : Option Nat} {c d : Option Cp} {lo hi : Nat}
theorem CpOk.step (h : CpOk w W a ss ls bs rs a' tt lo hi) (hb : Below W.heap.size W W') : CpOk w W' a ss ls bs rs a' tt lo hi := ⟨h.e, h.m, h.i.step hb, h.u, h.h1, h.h2, Nat.le_trans h.h3 hb.size⟩
theorem CpOk.setRow {g : Nat} {cur cs : Array Value} (h : CpOk w W a ss ls bs rs a' tt lo hi) (k : Own W g 37 cur) : CpOk w (W.setRow g cs) a ss ls bs rs a' tt lo hi := ⟨h.e, h.m, h.i.setRow k, h.u, h.h1, h.h2, by simpa using h.h3⟩
theorem CdSt.start (h : Below w.heap.size w W) : CdSt w W a ss ls bs rs none none none none := ⟨h, (fun _ e => by cases e), (fun _ e => by cases e), (fun _ _ e => by cases e), (fun _ e => by cases e), (fun _ _ e => by cases e)⟩
theorem CdSt.c_ (h : CdSt w W a ss ls bs rs cb db none none) (he : a'.k = a.k ∧ a'.p = a.p ∧ a'.N = a.N ∧ a'.M = a.M ∧ a'.f = a.f ∧ a'.n1 = a.n1 ∧ a'.n2 = a.n2 ∧ a'.n3 = a.n3 ∧ a'.n4 = a.n4) (hm : tt.map sgK = ss.map sgK) (hi : Mine W.heap.size W' a' tt ls bs rs) (hb : Below W.heap.size W W') :
    CdSt w W' a ss ls bs rs cb db (some (a', tt, W.heap.size, W'.heap.size)) none := by
  obtain ⟨h1, h2, h3, h4, h5, h6⟩ := h
  exact ⟨bl_trans h1 hb, (fun b e => ⟨(h2 b e).1, (h2 b e).2.step hb⟩), (fun b e => ⟨(h3 b e).1, (h3 b e).2.step hb⟩), h4,
    (fun x e => by cases e; exact ⟨⟨he, hm, hi, hi.upto, h1.size, hb.size, Nat.le_refl _⟩, fun b e => .inl (h2 b e).2.lt, fun b e => .inl (h3 b e).2.lt⟩), (fun _ _ _ e => by cases e)⟩
theorem CdSt.d_ {x : Cp} (h : CdSt w W a ss ls bs rs cb db (some x) none) (he : a'.k = a.k ∧ a'.p = a.p ∧ a'.N = a.N ∧ a'.M = a.M ∧ a'.f = a.f ∧ a'.n1 = a.n1 ∧ a'.n2 = a.n2 ∧ a'.n3 = a.n3 ∧ a'.n4 = a.n4) (hm : tt.map sgK = ss.map sgK) (hi : Mine W.heap.size W' a' tt ls bs rs) (hb : Below W.heap.size W W') :
    CdSt w W' a ss ls bs rs cb db (some x) (some (a', tt, W.heap.size, W'.heap.size)) := by
  obtain ⟨h1, h2, h3, h4, h5, h6⟩ := h
  exact ⟨bl_trans h1 hb, (fun b e => ⟨(h2 b e).1, (h2 b e).2.step hb⟩), (fun b e => ⟨(h3 b e).1, (h3 b e).2.step hb⟩), h4,
    (fun y e => ⟨(h5 y e).1.step hb, (h5 y e).2⟩), (fun y z e1 e2 => by cases e2; exact ⟨⟨he, hm, hi, hi.upto, h1.size, hb.size, Nat.le_refl _⟩, (h5 y e1).1.h3⟩)⟩
theorem CdSt.ac_ (h : CdSt w W a ss ls bs rs none db c d) {n : Nat} (hn : W.heap.size = n) : CdSt w (W.alloc (.cells zA9 37)) a ss ls bs rs (some n) db c d := by
  subst hn
  obtain ⟨h1, h2, h3, h4, h5, h6⟩ := h
  have hb := bl_alloc (bl_refl W) (.cells zA9 37)
  exact ⟨bl_alloc h1 _, (fun b e => by cases e; exact ⟨h1.size, Own.new _ _ _⟩), (fun b e => ⟨(h3 b e).1, (h3 b e).2.step hb⟩), (fun b b' e e' => by cases e; have := (h3 b' e').2.lt; omega),
    (fun y e => ⟨(h5 y e).1.step hb, fun b e2 => by cases e2; exact .inr (h5 y e).1.h3, (h5 y e).2.2⟩), (fun y z e1 e2 => ⟨(h6 y z e1 e2).1.step hb, (h6 y z e1 e2).2⟩)⟩
theorem CdSt.ad_ (h : CdSt w W a ss ls bs rs cb none c d) {n : Nat} (hn : W.heap.size = n) : CdSt w (W.alloc (.cells zA9 37)) a ss ls bs rs cb (some n) c d := by
  subst hn
  obtain ⟨h1, h2, h3, h4, h5, h6⟩ := h
  have hb := bl_alloc (bl_refl W) (.cells zA9 37)
  exact ⟨bl_alloc h1 _, (fun b e => ⟨(h2 b e).1, (h2 b e).2.step hb⟩), (fun b e => by cases e; exact ⟨h1.size, Own.new _ _ _⟩), (fun b b' e e' => by cases e'; have := (h2 b e).2.lt; omega),
    (fun y e => ⟨(h5 y e).1.step hb, (h5 y e).2.1, fun b e2 => by cases e2; exact .inr (h5 y e).1.h3⟩), (fun y z e1 e2 => ⟨(h6 y z e1 e2).1.step hb, (h6 y z e1 e2).2⟩)⟩
theorem CdSt.oc {b : Nat} (h : CdSt w W a ss ls bs rs (some b) db c d) : Own W b 37 zA9 := (h.2.1 b rfl).2
theorem CdSt.od {b v : Nat} (h : CdSt w W a ss ls bs rs (some b) (some v) c d) (Y : Array Value) : Own (W.setRow b Y) v 37 zA9 := own_rowO (h.2.2.1 v rfl).2 (fun e => h.2.2.2.1 b v rfl rfl e.symm)
theorem CdSt.b1_ {b : Nat} (h : CdSt w W a ss ls bs rs (some b) db c d) (Y : Array Value) : Below w.heap.size w (W.setRow b Y) := bl_setRow h.1 (h.2.1 b rfl).1
theorem CdSt.b2_ {b v : Nat} (h : CdSt w W a ss ls bs rs (some b) (some v) c d) (Y Z : Array Value) : Below w.heap.size w ((W.setRow b Y).setRow v Z) := bl_setRow (h.b1_ Y) (h.2.2.1 v rfl).1
/-- What it leaves in the end. -/
def CdR (w wx : World) (a : At) (ss : List Sg) (ls bs : List Int) (rs : List Rt) (x y : Value) : Prop :=
  ∃ (b v : Nat) (a1 a2 : At) (t1 t2 : List Sg) (lo hi lo2 hi2 : Nat), x = .pointer (some ⟨b, 0, none⟩) ∧ y = .pointer (some ⟨v, 0, none⟩) ∧ Own wx b 37 (atc a1) ∧ Own wx v 37 (atc a2) ∧ CpOk w wx a ss ls bs rs a1 t1 lo hi ∧ CpOk w wx a ss ls bs rs a2 t2 lo2 hi2 ∧ hi ≤ lo2 ∧ (b < lo ∨ hi ≤ b) ∧ (v < lo ∨ hi ≤ v) ∧ w.heap.size ≤ b ∧ w.heap.size ≤ v ∧ Below w.heap.size w wx
theorem CdSt.fin_ {b v : Nat} {x y : Cp} (h : CdSt w W a ss ls bs rs (some b) (some v) (some x) (some y)) : CdR w ((W.setRow b (atc x.1)).setRow v (atc y.1)) a ss ls bs rs (.pointer (some ⟨b, 0, none⟩)) (.pointer (some ⟨v, 0, none⟩)) := by
  have hc := h.2.2.2.2.1 x rfl
  have hd := h.2.2.2.2.2 x y rfl rfl
  exact ⟨b, v, x.1, y.1, x.2.1, y.2.1, x.2.2.1, x.2.2.2, y.2.2.1, y.2.2.2, rfl, rfl, own_rowO h.oc.setRow (h.2.2.2.1 b v rfl rfl), (h.od _).setRow, (hc.1.setRow h.oc).setRow (h.od _), (hd.1.setRow h.oc).setRow (h.od _), hd.2, hc.2.1 b rfl, hc.2.2 v rfl, (h.2.1 b rfl).1, (h.2.2.1 v rfl).1, h.b2_ _ _⟩
end
theorem atc_one (a : At) : (atc a).all (·.oneCell') = true := by
  obtain ⟨k, p, N, M, A1, n1, c1, A2, n2, c2, A3, n3, c3, f, A4, n4, c4⟩ := a
  exact at_oneV _ _ _ _ _ _ _ _ _ _ _ _ _ _ _ _ _
set_option maxRecDepth 100000 in
theorem atc_info (a : At) : (Tryz.prog.info? 37).map (·.size) = some (atc a).size := by
  obtain ⟨k, p, N, M, A1, n1, c1, A2, n2, c2, A3, n3, c3, f, A4, n4, c4⟩ := a
  exact at_infoM _ _ _ _ _ _ _ _ _
theorem atc_size (a : At) : zA9.size = (atc a).size := rfl
end Go.Proofs.YtmcnpkfeipelgaaGreatDoor

/- what a copy is like; its numbers' places -/
namespace Go.Proofs.YtmcnpkfeipelgaaGreatDoor
open Go.RowKit Go.Sort
section
variable {w W : World} {a a' : At} {ss tt : List Sg} {ls bs : List Int} {rs : List Rt} {lo hi : Nat}
theorem CpOk.of_seg (h : CpOk w W a ss ls bs rs a' tt lo hi) {t : Sg} (ht : t ∈ tt) : ∃ s ∈ ss, s.k = t.k ∧ s.xs = t.xs := by
  have h1 : sgK t ∈ tt.map sgK := List.mem_map_of_mem ht
  rw [h.m] at h1
  obtain ⟨s, hs, e⟩ := List.mem_map.1 h1
  injection e with e1 e2
  exact ⟨s, hs, e1, e2⟩
theorem CpOk.len (h : CpOk w W a ss ls bs rs a' tt lo hi) {t : Sg} (ht : t ∈ tt) : t.n = t.xs.length := by
  have := (h.i.x t ht).1
  rw [List.length_map] at this
  omega
theorem CpOk.atC {w0 : World} {B : Nat} (h : CpOk w W a ss ls bs rs a' tt lo hi) (hc : AtC w0 B a ss ls bs rs) : AtC W W.heap.size a' tt ls bs rs :=
  h.i.atC (fun t ht => by
    obtain ⟨s, hs, e1, e2⟩ := h.of_seg ht
    have := hc.s.2.1 s hs
    rw [← e1, ← e2]
    exact ⟨this.2.2.1, this.2.2.2.1⟩) hc.b.2.1 hc.r.2.1
theorem CpOk.atF {w0 : World} {B : Nat} (h : CpOk w W a ss ls bs rs a' tt lo hi) (hc : AtC w0 B a ss ls bs rs) (hf : AtF a ss) : AtF a' tt := by
  obtain ⟨_, _, _, _, _, e1, e2, e3, e4⟩ := h.e
  refine ⟨by rw [e1]; exact hf.n1, fun t ht => ?_, by rw [e2]; exact hf.n2, by rw [e3]; exact hf.n3, by rw [e4]; exact hf.n4⟩
  obtain ⟨s, hs, _, e⟩ := h.of_seg ht
  rw [h.len ht, ← e]
  have h1 := hf.s s hs
  have h2 := (hc.s.2.1 s hs).2.2.2.2.1
  omega
theorem CpOk.same (h : CpOk w W a ss ls bs rs a' tt lo hi) : sm13 a ss ls bs rs a' tt ls bs rs = true := by
  obtain ⟨e1, e2, e3, e4, e5, _⟩ := h.e
  unfold sm13
  simp [e1, e2, e3, e4, e5, h.m]
/-- Places of numbers. -/
theorem CpOk.seg_at (h : CpOk w W a ss ls bs rs a' tt lo hi) {i : Nat} (hlt : i < a'.n1) : ∃ g s, a'.A1 = some ⟨g, 0, none⟩ ∧ lo ≤ g ∧ g < hi ∧ tt[i]? = some s ∧ s ∈ tt ∧ (∀ j, W.frozen? ⟨g, j, none⟩ = false) ∧ W.cell? ⟨g, i * 2, none⟩ = some (.int .i64 s.k) ∧ W.cell? ⟨g, i * 2 + 1, none⟩ = some (.slice s.A s.n s.c) := by
  have hs := h.i.s
  obtain ⟨g, e⟩ := own_someV hs (by omega)
  rw [e] at hs
  obtain ⟨h1, _, h2, h3⟩ := own_cellV hs
  have hl := hs.1
  rw [flatS_len] at hl
  have ht := sgth_some (ss := tt) (k := i) (by omega)
  have f := flatS_at tt i _ ht
  exact ⟨g, _, e, h1, h.u.s g e, ht, List.mem_of_getElem? ht, h2, h3 _ _ f.1, h3 _ _ f.2⟩
theorem num_at {T : TypeId} {k : IntKind} {A : Option Addr} {n c i : Nat} {xs : List Int} (h : W.ownsRow lo T 1 (.slice A n c) n (xs.map (Value.int k))) (hu : Upto hi A) (hi2 : i < n) : ∃ g x, A = some ⟨g, 0, none⟩ ∧ lo ≤ g ∧ g < hi ∧ W.frozen? ⟨g, i, none⟩ = false ∧ W.cell? ⟨g, i, none⟩ = some (.int k x) := by
  obtain ⟨g, e⟩ := own_someV h (by omega)
  subst e
  obtain ⟨h1, _, h2, h3⟩ := own_cellV h
  have hl := h.1
  rw [List.length_map] at hl
  exact ⟨g, _, rfl, h1, hu g rfl, h2 i, h3 i _ (by rw [List.getElem?_map, List.getElem?_eq_getElem (by omega)]; rfl)⟩
theorem rts_at {A : Option Addr} {n c i : Nat} {rs : List Rt} (h : W.ownsRow lo 56 19 (.slice A n c) n (flatR rs)) (hr : ∀ r ∈ rs, r.Ok) (hu : Upto hi A) (hi2 : i < n) : ∃ g x, A = some ⟨g, 0, none⟩ ∧ lo ≤ g ∧ g < hi ∧ W.frozen? ⟨g, i * 19, none⟩ = false ∧ W.cell? ⟨g, i * 19, none⟩ = some (.int .u32 x) := by
  obtain ⟨g, e⟩ := own_someV h (by omega)
  subst e
  obtain ⟨h1, _, h2, h3⟩ := own_cellV h
  have hl := h.1
  rw [flatR_len hr] at hl
  have hk := nthR_some (rs := rs) (i := i) (by omega)
  have h4 := flatR_get hr i _ hk 0 (.int .u32 (nthR rs i).p) (by rw [Array.getElem?_toList]; exact rt_0 _)
  exact ⟨g, _, rfl, h1, hu g rfl, h2 _, h3 _ _ (by simpa using h4)⟩
end
end Go.Proofs.YtmcnpkfeipelgaaGreatDoor

/- ValueSame: the walk (written by gen/vsl.py) -/
namespace Go.Proofs.YtmcnpkfeipelgaaGreatDoor
open Go.RowKit Go.Sort

def few13B (a : At) (ss : List Sg) : Bool := fewB ss && decide (a.n2 ≤ 200 ∧ a.n3 ≤ 600 ∧ a.n4 ≤ 100)
set_option maxRecDepth 100000 in
theorem few13_any (a : At) (ss : List Sg) (w : World) (hs : Segs w w.heap.size a.A1 a.n1 ss) (hm : a.n1 ≤ maxLen) :
    Calls Tryz.prog 16 #[.agg (atc a)] w fun e w' => e = .returned (.bool (few13B a ss)) ∧ Below w.heap.size w w' := by
  have hO : Hid (few13B a ss = (fewB ss && decide (a.n2 ≤ 200 ∧ a.n3 ≤ 600 ∧ a.n4 ≤ 100))) := Lib.hid rfl
  generalize few13B a ss = V at *
  have hF := Lib.hid (fun W hW => few_any a.A1 a.n1 a.c1 ss W hW hm)
  generalize fewB ss = Q at *
  obtain ⟨k, p, N, M, A1, n1, c1, A2, n2, c2, A3, n3, c3, f, A4, n4, c4⟩ := a
  unfold atc
  dsimp only at *
  have hb := bl_alloc (bl_refl w) (.cells #[.int .i64 k, .bool p, .int .u32 N, .int .u32 M, .slice A1 n1 c1, .slice A2 n2 c2, .slice A3 n3 c3, .int .i64 f, .slice A4 n4 c4] 37)
  have HS := Lib.hid ((hs.below hb).more hb.size)
  clear hs
  go_enter Tryz.func16, Tryz.ntmps16
  go_wp2_with fail
  refine (hF.out _ HS.out).mono ?_
  rintro e w1 ⟨rfl, rfl⟩
  cases Q
  · go_wp2
    go_ret
    exact ⟨ret_boolA (by rw [hO.out]; rfl), hb⟩
  · go_wp2
    all_goals go_ret
    all_goals refine ⟨ret_boolA ?_, hb⟩
    all_goals (rw [hO.out, Bool.true_and]; rw [Bool.eq_iff_iff]; simp only [decide_eq_true_eq, Bool.false_eq_true, false_iff] at *; omega)

theorem le_sumW (f : Sg → Nat) : ∀ {ss : List Sg} {s : Sg}, s ∈ ss → f s ≤ (ss.map f).sum
  | x :: ss, s, h => by
    rw [List.map_cons, List.sum_cons]
    rcases List.mem_cons.1 h with rfl | h
    · omega
    · have := le_sumW f h
      omega
theorem few_lenW {ss : List Sg} (h : fewB ss = true) : ss.length ≤ 50 ∧ ∀ s ∈ ss, s.n ≤ 600 := by
  unfold fewB at h
  have h := of_decide_eq_true h
  refine ⟨h.1, fun s hs => ?_⟩
  have h2 := h.2
  unfold fewTo at h2
  rw [List.take_length] at h2
  have := le_sumW (fun s => min s.n 1000) hs
  omega
theorem few13_f {a : At} {ss : List Sg} {w : World} {B : Nat} (hs : Segs w B a.A1 a.n1 ss) (h : few13B a ss = true) : AtF a ss := by
  unfold few13B at h
  rw [Bool.and_eq_true] at h
  have h1 := few_lenW h.1
  have h2 := of_decide_eq_true h.2
  have hl := hs.1
  exact ⟨by omega, fun s hm => Nat.le_trans (h1.2 s hm) (by omega), by omega, by omega, by omega⟩
set_option maxRecDepth 100000 in
set_option maxHeartbeats 6400000 in
theorem vsame_walk (a a' : At) (ss ss' : List Sg) (ls bs ls' bs' : List Int) (rs rs' : List Rt) (w : World) (h : AtC w w.heap.size a ss ls bs rs) (h' : AtC w w.heap.size a' ss' ls' bs' rs') (hm : a.n1 ≤ maxLen) (hm' : a'.n1 ≤ maxLen) :
    Calls Tryz.prog 4 #[.agg (atc a), .agg (atc a')] w fun e w' => e = .returned (.bool true) ∧ Below w.heap.size w w' := by
  have b1 := bl_alloc (bl_alloc (bl_refl w) (.cells (atc a) 37)) (.cells (atc a') 37)
  have oa := (Own.new w 37 (atc a)).alloc (.cells (atc a') 37)
  have ob := Own.new (w.alloc (.cells (atc a) 37)) 37 (atc a')
  rw [show (w.alloc (.cells (atc a) 37)).heap.size = w.heap.size + 1 by simp] at ob
  have hF := Lib.hid (fun W (hb : Below w.heap.size w W) => few13_any a ss W (h.at hb).s hm)
  have hF' := Lib.hid (fun W (hb : Below w.heap.size w W) => few13_any a' ss' W (h'.at hb).s hm')
  have hAl := Lib.hid (fun W => alive13_any W)
  have HF := Lib.hid (few13_f (a := a) (ss := ss) h.s)
  have HF' := Lib.hid (few13_f (a := a') (ss := ss') h'.s)
  generalize few13B a ss = Q1 at *
  generalize few13B a' ss' = Q2 at *
  obtain ⟨k, p, N, M, A1, n1, c1, A2, n2, c2, A3, n3, c3, f, A4, n4, c4⟩ := a
  obtain ⟨kz, pz, Nz, Mz, A1z, n1z, c1z, A2z, n2z, c2z, A3z, n3z, c3z, fz, A4z, n4z, c4z⟩ := a'
  unfold atc at *
  dsimp only at *
  go_enter Tryz.func4, Tryz.ntmps4
  obtain ⟨x0, x1, x2, x3, x4, x5, x6, x7, x8⟩ := at_cells oa
  obtain ⟨y0, y1, y2, y3, y4, y5, y6, y7, y8⟩ := at_cells ob
  go_wp2_with fail
  refine (hF.out _ b1).mono ?_
  rintro e w1 ⟨rfl, hb1⟩
  have oa1 := oa.step hb1
  have ob1 := ob.step hb1
  have b2 := bl_trans b1 hb1
  clear x0 x1 x2 x3 x4 x5 x6 x7 x8 y0 y1 y2 y3 y4 y5 y6 y7 y8 oa ob b1 hb1 hF
  obtain ⟨y0, y1, y2, y3, y4, y5, y6, y7, y8⟩ := at_cells ob1
  cases Q1 with
  | false =>
    go_wp2_with fail
    refine (hAl.out _).mono ?_
    rintro e w3 ⟨rfl, hb3⟩
    go_wp2
    go_ret
    exact ⟨rfl, bl_trans b2 hb3⟩
  | true =>
    go_wp2_with fail
    refine (hF'.out _ b2).mono ?_
    rintro e w2 ⟨rfl, hb2⟩
    have oa2 := oa1.step hb2
    have ob2 := ob1.step hb2
    have b3 := bl_trans b2 hb2
    clear y0 y1 y2 y3 y4 y5 y6 y7 y8 oa1 ob1 b2 hb2 hF'
    cases Q2 with
    | false =>
      go_wp2_with fail
      refine (hAl.out _).mono ?_
      rintro e w3 ⟨rfl, hb3⟩
      go_wp2
      go_ret
      exact ⟨rfl, bl_trans b3 hb3⟩
    | true =>
      have G1 := HF.out (by first | rfl | trivial)
      have G2 := HF'.out (by first | rfl | trivial)
      clear HF HF'
      have hwl := ob2.lt
      have hCl := Lib.hid (fun W (hb : Below w.heap.size w W) => clone13_any ⟨k, p, N, M, A1, n1, c1, A2, n2, c2, A3, n3, c3, f, A4, n4, c4⟩ ss ls bs rs W (h.at hb) G1)
      have HU := Lib.hid (And.intro oa2 ob2)
      have HB := Lib.hid b3
      have hS := fun W (hb : Below w2.heap.size w2 W) => (oa2.step hb)
      have st : CdSt w2 w2.drew ⟨k, p, N, M, A1, n1, c1, A2, n2, c2, A3, n3, c3, f, A4, n4, c4⟩ ss ls bs rs none none none none := CdSt.start (bl_refl w2).drew
      clear oa2 ob2 b3
      go_wp2_with fail
      go_cut [5, 6] (fun v5 v6 wx => CdR w2 wx ⟨k, p, N, M, A1, n1, c1, A2, n2, c2, A3, n3, c3, f, A4, n4, c4⟩ ss ls bs rs v5 v6)
      case first =>
        refine wp_region_noPanic ?_
        refine wp_region_held_drew (S := fun W => Own W w.heap.size 37 #[.int .i64 k, .bool p, .int .u32 N, .int .u32 M, .slice A1 n1 c1, .slice A2 n2 c2, .slice A3 n3 c3, .int .i64 f, .slice A4 n4 c4]) (by kernel_rfl) (hS _ st.1) (fun hHeld => ?_)
        refine wpAnyH_take (i := 0) (v := ?_) rfl (by kernel_rfl) (by kernel_rfl) (by kernel_rfl) (fun _ _ _ h => h) (Or.inl ⟨by rfl, ?_⟩) (by assumption) ?_
        rotate_left
        · (intro W hSw; obtain ⟨e0, e1, e2, e3, e4, e5, e6, e7, e8⟩ := at_cells hSw; go_simp; try with_reducible rfl)
        try simp only [Act.put, List.getElem_toArray, List.getElem_cons_zero, List.setIfInBounds_toArray, List.set_cons_zero, List.set_cons_succ]
        refine wpAnyH_take (i := 2) (v := ?_) rfl (by kernel_rfl) (by kernel_rfl) (by kernel_rfl) (fun _ _ _ h => h) (Or.inl ⟨by rfl, ?_⟩) (by assumption) ?_
        rotate_left
        · (intro W hSw; obtain ⟨e0, e1, e2, e3, e4, e5, e6, e7, e8⟩ := at_cells hSw; go_simp; try with_reducible rfl)
        try simp only [Act.put, List.getElem_toArray, List.getElem_cons_zero, List.getElem_cons_succ, List.setIfInBounds_toArray, List.set_cons_zero, List.set_cons_succ]
        refine wpAnyH_ready (rs := [1, 4, 5]) (by kernel_rfl) (by simp) ?_
        refine AllReadyH.cons rfl (fun K hK => ?_) (AllReadyH.cons rfl (fun K hK => ?_) (AllReadyH.cons rfl (fun K hK => ?_) AllReadyH.nil))
        · go_simp
          go_at_call 17
          refine (hCl.out _ (HB.out.trans (st.1.mono HB.out.size))).mono ?_
          rintro e w6 ⟨a6, t6, rfl, he6, hm6, hi6, hb6⟩
          replace st := st.c_ he6 hm6 hi6 hb6
          clear he6 hm6 hi6 hb6
          refine hK.out _ _ (hS _ st.1) (fun hHeld2 => ?_)
          clear hK K hHeld
          have hHeld := hHeld2
          clear hHeld2
          try simp only [Act.put, List.getElem_toArray, List.getElem_cons_zero, List.getElem_cons_succ, List.setIfInBounds_toArray, List.set_cons_zero, List.set_cons_succ]
          refine wpAnyH_ready (rs := [3, 4, 5]) (by kernel_rfl) (by simp) ?_
          refine AllReadyH.cons rfl (fun K hK => ?_) (AllReadyH.cons rfl (fun K hK => ?_) (AllReadyH.cons rfl (fun K hK => ?_) AllReadyH.nil))
          · go_simp
            go_at_call 17
            refine (hCl.out _ (HB.out.trans (st.1.mono HB.out.size))).mono ?_
            rintro e w8 ⟨a8, t8, rfl, he8, hm8, hi8, hb8⟩
            replace st := st.d_ he8 hm8 hi8 hb8
            clear he8 hm8 hi8 hb8
            refine hK.out _ _ (hS _ st.1) (fun hHeld2 => ?_)
            clear hK K hHeld
            have hHeld := hHeld2
            clear hHeld2
            try simp only [Act.put, List.getElem_toArray, List.getElem_cons_zero, List.getElem_cons_succ, List.setIfInBounds_toArray, List.set_cons_zero, List.set_cons_succ]
            refine wpAnyH_ready (rs := [4, 5]) (by kernel_rfl) (by simp) ?_
            refine AllReadyH.cons rfl (fun K hK => ?_) (AllReadyH.cons rfl (fun K hK => ?_) AllReadyH.nil)
            · go_simp
              replace st := st.ac_ (n := w8.heap.size) (by simp)
              refine hK.out _ _ (hS _ st.1) (fun hHeld2 => ?_)
              clear hK K hHeld
              have hHeld := hHeld2
              clear hHeld2
              try simp only [Act.put, List.getElem_toArray, List.getElem_cons_zero, List.getElem_cons_succ, List.setIfInBounds_toArray, List.set_cons_zero, List.set_cons_succ]
              refine wpAnyH_ready (rs := [5]) (by kernel_rfl) (by simp) ?_
              refine AllReadyH.cons rfl (fun K hK => ?_) AllReadyH.nil
              go_simp
              replace st := st.ad_ (n := w8.heap.size + 1) (by simp)
              refine hK.out _ _ (hS _ st.1) (fun hHeld2 => ?_)
              clear hK K hHeld
              have hHeld := hHeld2
              clear hHeld2
              try simp only [Act.put, List.getElem_toArray, List.getElem_cons_zero, List.getElem_cons_succ, List.setIfInBounds_toArray, List.set_cons_zero, List.set_cons_succ]
              refine wpAnyH_ready (rs := [6]) (by kernel_rfl) (by simp) ?_
              refine AllReadyH.cons rfl (fun K hK => ?_) AllReadyH.nil
              refine step_store_rowV rfl _ _ _ rfl _ (atc a6) rfl rfl 37 zA9 st.oc (atc_info _) (atc_size _) (atc_one _) ?_
              refine hK.out _ _ (hS _ (st.b1_ _)) (fun hHeld2 => ?_)
              clear hK K hHeld
              have hHeld := hHeld2
              clear hHeld2
              try simp only [Act.put, List.getElem_toArray, List.getElem_cons_zero, List.getElem_cons_succ]
              refine wpAnyH_ready (rs := [7]) (by kernel_rfl) (by simp) ?_
              refine AllReadyH.cons rfl (fun K hK => ?_) AllReadyH.nil
              refine step_store_rowV rfl _ _ _ rfl _ (atc a8) rfl rfl 37 zA9 (st.od _) (atc_info _) (atc_size _) (atc_one _) ?_
              refine hK.out _ _ (hS _ (st.b2_ _ _)) (fun hHeld2 => ?_)
              clear hK K hHeld
              have hHeld := hHeld2
              clear hHeld2
              try simp only [Act.put, List.getElem_toArray, List.getElem_cons_zero, List.getElem_cons_succ]
              refine wpAnyH_done (by kernel_rfl) ?_ _
              try refine NoPanic.normal ?_
              go_wp2_with fail
              go_meet
              exact st.fin_
            · go_simp
              replace st := st.ad_ (n := w8.heap.size) (by simp)
              refine hK.out _ _ (hS _ st.1) (fun hHeld2 => ?_)
              clear hK K hHeld
              have hHeld := hHeld2
              clear hHeld2
              try simp only [Act.put, List.getElem_toArray, List.getElem_cons_zero, List.getElem_cons_succ, List.setIfInBounds_toArray, List.set_cons_zero, List.set_cons_succ]
              refine wpAnyH_ready (rs := [4]) (by kernel_rfl) (by simp) ?_
              refine AllReadyH.cons rfl (fun K hK => ?_) AllReadyH.nil
              go_simp
              replace st := st.ac_ (n := w8.heap.size + 1) (by simp)
              refine hK.out _ _ (hS _ st.1) (fun hHeld2 => ?_)
              clear hK K hHeld
              have hHeld := hHeld2
              clear hHeld2
              try simp only [Act.put, List.getElem_toArray, List.getElem_cons_zero, List.getElem_cons_succ, List.setIfInBounds_toArray, List.set_cons_zero, List.set_cons_succ]
              refine wpAnyH_ready (rs := [6]) (by kernel_rfl) (by simp) ?_
              refine AllReadyH.cons rfl (fun K hK => ?_) AllReadyH.nil
              refine step_store_rowV rfl _ _ _ rfl _ (atc a6) rfl rfl 37 zA9 st.oc (atc_info _) (atc_size _) (atc_one _) ?_
              refine hK.out _ _ (hS _ (st.b1_ _)) (fun hHeld2 => ?_)
              clear hK K hHeld
              have hHeld := hHeld2
              clear hHeld2
              try simp only [Act.put, List.getElem_toArray, List.getElem_cons_zero, List.getElem_cons_succ]
              refine wpAnyH_ready (rs := [7]) (by kernel_rfl) (by simp) ?_
              refine AllReadyH.cons rfl (fun K hK => ?_) AllReadyH.nil
              refine step_store_rowV rfl _ _ _ rfl _ (atc a8) rfl rfl 37 zA9 (st.od _) (atc_info _) (atc_size _) (atc_one _) ?_
              refine hK.out _ _ (hS _ (st.b2_ _ _)) (fun hHeld2 => ?_)
              clear hK K hHeld
              have hHeld := hHeld2
              clear hHeld2
              try simp only [Act.put, List.getElem_toArray, List.getElem_cons_zero, List.getElem_cons_succ]
              refine wpAnyH_done (by kernel_rfl) ?_ _
              try refine NoPanic.normal ?_
              go_wp2_with fail
              go_meet
              exact st.fin_
          · go_simp
            replace st := st.ac_ (n := w6.heap.size) (by simp)
            refine hK.out _ _ (hS _ st.1) (fun hHeld2 => ?_)
            clear hK K hHeld
            have hHeld := hHeld2
            clear hHeld2
            try simp only [Act.put, List.getElem_toArray, List.getElem_cons_zero, List.getElem_cons_succ, List.setIfInBounds_toArray, List.set_cons_zero, List.set_cons_succ]
            refine wpAnyH_ready (rs := [3, 5]) (by kernel_rfl) (by simp) ?_
            refine AllReadyH.cons rfl (fun K hK => ?_) (AllReadyH.cons rfl (fun K hK => ?_) AllReadyH.nil)
            · go_simp
              go_at_call 17
              refine (hCl.out _ (HB.out.trans (st.1.mono HB.out.size))).mono ?_
              rintro e w8 ⟨a8, t8, rfl, he8, hm8, hi8, hb8⟩
              replace st := st.d_ he8 hm8 hi8 hb8
              clear he8 hm8 hi8 hb8
              refine hK.out _ _ (hS _ st.1) (fun hHeld2 => ?_)
              clear hK K hHeld
              have hHeld := hHeld2
              clear hHeld2
              try simp only [Act.put, List.getElem_toArray, List.getElem_cons_zero, List.getElem_cons_succ, List.setIfInBounds_toArray, List.set_cons_zero, List.set_cons_succ]
              refine wpAnyH_ready (rs := [5]) (by kernel_rfl) (by simp) ?_
              refine AllReadyH.cons rfl (fun K hK => ?_) AllReadyH.nil
              go_simp
              replace st := st.ad_ (n := w8.heap.size) (by simp)
              refine hK.out _ _ (hS _ st.1) (fun hHeld2 => ?_)
              clear hK K hHeld
              have hHeld := hHeld2
              clear hHeld2
              try simp only [Act.put, List.getElem_toArray, List.getElem_cons_zero, List.getElem_cons_succ, List.setIfInBounds_toArray, List.set_cons_zero, List.set_cons_succ]
              refine wpAnyH_ready (rs := [6]) (by kernel_rfl) (by simp) ?_
              refine AllReadyH.cons rfl (fun K hK => ?_) AllReadyH.nil
              refine step_store_rowV rfl _ _ _ rfl _ (atc a6) rfl rfl 37 zA9 st.oc (atc_info _) (atc_size _) (atc_one _) ?_
              refine hK.out _ _ (hS _ (st.b1_ _)) (fun hHeld2 => ?_)
              clear hK K hHeld
              have hHeld := hHeld2
              clear hHeld2
              try simp only [Act.put, List.getElem_toArray, List.getElem_cons_zero, List.getElem_cons_succ]
              refine wpAnyH_ready (rs := [7]) (by kernel_rfl) (by simp) ?_
              refine AllReadyH.cons rfl (fun K hK => ?_) AllReadyH.nil
              refine step_store_rowV rfl _ _ _ rfl _ (atc a8) rfl rfl 37 zA9 (st.od _) (atc_info _) (atc_size _) (atc_one _) ?_
              refine hK.out _ _ (hS _ (st.b2_ _ _)) (fun hHeld2 => ?_)
              clear hK K hHeld
              have hHeld := hHeld2
              clear hHeld2
              try simp only [Act.put, List.getElem_toArray, List.getElem_cons_zero, List.getElem_cons_succ]
              refine wpAnyH_done (by kernel_rfl) ?_ _
              try refine NoPanic.normal ?_
              go_wp2_with fail
              go_meet
              exact st.fin_
            · go_simp
              replace st := st.ad_ (n := w6.heap.size + 1) (by simp)
              refine hK.out _ _ (hS _ st.1) (fun hHeld2 => ?_)
              clear hK K hHeld
              have hHeld := hHeld2
              clear hHeld2
              try simp only [Act.put, List.getElem_toArray, List.getElem_cons_zero, List.getElem_cons_succ, List.setIfInBounds_toArray, List.set_cons_zero, List.set_cons_succ]
              refine wpAnyH_ready (rs := [3]) (by kernel_rfl) (by simp) ?_
              refine AllReadyH.cons rfl (fun K hK => ?_) AllReadyH.nil
              go_simp
              go_at_call 17
              refine (hCl.out _ (HB.out.trans (st.1.mono HB.out.size))).mono ?_
              rintro e w8 ⟨a8, t8, rfl, he8, hm8, hi8, hb8⟩
              replace st := st.d_ he8 hm8 hi8 hb8
              clear he8 hm8 hi8 hb8
              refine hK.out _ _ (hS _ st.1) (fun hHeld2 => ?_)
              clear hK K hHeld
              have hHeld := hHeld2
              clear hHeld2
              try simp only [Act.put, List.getElem_toArray, List.getElem_cons_zero, List.getElem_cons_succ, List.setIfInBounds_toArray, List.set_cons_zero, List.set_cons_succ]
              refine wpAnyH_ready (rs := [6]) (by kernel_rfl) (by simp) ?_
              refine AllReadyH.cons rfl (fun K hK => ?_) AllReadyH.nil
              refine step_store_rowV rfl _ _ _ rfl _ (atc a6) rfl rfl 37 zA9 st.oc (atc_info _) (atc_size _) (atc_one _) ?_
              refine hK.out _ _ (hS _ (st.b1_ _)) (fun hHeld2 => ?_)
              clear hK K hHeld
              have hHeld := hHeld2
              clear hHeld2
              try simp only [Act.put, List.getElem_toArray, List.getElem_cons_zero, List.getElem_cons_succ]
              refine wpAnyH_ready (rs := [7]) (by kernel_rfl) (by simp) ?_
              refine AllReadyH.cons rfl (fun K hK => ?_) AllReadyH.nil
              refine step_store_rowV rfl _ _ _ rfl _ (atc a8) rfl rfl 37 zA9 (st.od _) (atc_info _) (atc_size _) (atc_one _) ?_
              refine hK.out _ _ (hS _ (st.b2_ _ _)) (fun hHeld2 => ?_)
              clear hK K hHeld
              have hHeld := hHeld2
              clear hHeld2
              try simp only [Act.put, List.getElem_toArray, List.getElem_cons_zero, List.getElem_cons_succ]
              refine wpAnyH_done (by kernel_rfl) ?_ _
              try refine NoPanic.normal ?_
              go_wp2_with fail
              go_meet
              exact st.fin_
          · go_simp
            replace st := st.ad_ (n := w6.heap.size) (by simp)
            refine hK.out _ _ (hS _ st.1) (fun hHeld2 => ?_)
            clear hK K hHeld
            have hHeld := hHeld2
            clear hHeld2
            try simp only [Act.put, List.getElem_toArray, List.getElem_cons_zero, List.getElem_cons_succ, List.setIfInBounds_toArray, List.set_cons_zero, List.set_cons_succ]
            refine wpAnyH_ready (rs := [3, 4]) (by kernel_rfl) (by simp) ?_
            refine AllReadyH.cons rfl (fun K hK => ?_) (AllReadyH.cons rfl (fun K hK => ?_) AllReadyH.nil)
            · go_simp
              go_at_call 17
              refine (hCl.out _ (HB.out.trans (st.1.mono HB.out.size))).mono ?_
              rintro e w8 ⟨a8, t8, rfl, he8, hm8, hi8, hb8⟩
              replace st := st.d_ he8 hm8 hi8 hb8
              clear he8 hm8 hi8 hb8
              refine hK.out _ _ (hS _ st.1) (fun hHeld2 => ?_)
              clear hK K hHeld
              have hHeld := hHeld2
              clear hHeld2
              try simp only [Act.put, List.getElem_toArray, List.getElem_cons_zero, List.getElem_cons_succ, List.setIfInBounds_toArray, List.set_cons_zero, List.set_cons_succ]
              refine wpAnyH_ready (rs := [4]) (by kernel_rfl) (by simp) ?_
              refine AllReadyH.cons rfl (fun K hK => ?_) AllReadyH.nil
              go_simp
              replace st := st.ac_ (n := w8.heap.size) (by simp)
              refine hK.out _ _ (hS _ st.1) (fun hHeld2 => ?_)
              clear hK K hHeld
              have hHeld := hHeld2
              clear hHeld2
              try simp only [Act.put, List.getElem_toArray, List.getElem_cons_zero, List.getElem_cons_succ, List.setIfInBounds_toArray, List.set_cons_zero, List.set_cons_succ]
              refine wpAnyH_ready (rs := [6]) (by kernel_rfl) (by simp) ?_
              refine AllReadyH.cons rfl (fun K hK => ?_) AllReadyH.nil
              refine step_store_rowV rfl _ _ _ rfl _ (atc a6) rfl rfl 37 zA9 st.oc (atc_info _) (atc_size _) (atc_one _) ?_
              refine hK.out _ _ (hS _ (st.b1_ _)) (fun hHeld2 => ?_)
              clear hK K hHeld
              have hHeld := hHeld2
              clear hHeld2
              try simp only [Act.put, List.getElem_toArray, List.getElem_cons_zero, List.getElem_cons_succ]
              refine wpAnyH_ready (rs := [7]) (by kernel_rfl) (by simp) ?_
              refine AllReadyH.cons rfl (fun K hK => ?_) AllReadyH.nil
              refine step_store_rowV rfl _ _ _ rfl _ (atc a8) rfl rfl 37 zA9 (st.od _) (atc_info _) (atc_size _) (atc_one _) ?_
              refine hK.out _ _ (hS _ (st.b2_ _ _)) (fun hHeld2 => ?_)
              clear hK K hHeld
              have hHeld := hHeld2
              clear hHeld2
              try simp only [Act.put, List.getElem_toArray, List.getElem_cons_zero, List.getElem_cons_succ]
              refine wpAnyH_done (by kernel_rfl) ?_ _
              try refine NoPanic.normal ?_
              go_wp2_with fail
              go_meet
              exact st.fin_
            · go_simp
              replace st := st.ac_ (n := w6.heap.size + 1) (by simp)
              refine hK.out _ _ (hS _ st.1) (fun hHeld2 => ?_)
              clear hK K hHeld
              have hHeld := hHeld2
              clear hHeld2
              try simp only [Act.put, List.getElem_toArray, List.getElem_cons_zero, List.getElem_cons_succ, List.setIfInBounds_toArray, List.set_cons_zero, List.set_cons_succ]
              refine wpAnyH_ready (rs := [3]) (by kernel_rfl) (by simp) ?_
              refine AllReadyH.cons rfl (fun K hK => ?_) AllReadyH.nil
              go_simp
              go_at_call 17
              refine (hCl.out _ (HB.out.trans (st.1.mono HB.out.size))).mono ?_
              rintro e w8 ⟨a8, t8, rfl, he8, hm8, hi8, hb8⟩
              replace st := st.d_ he8 hm8 hi8 hb8
              clear he8 hm8 hi8 hb8
              refine hK.out _ _ (hS _ st.1) (fun hHeld2 => ?_)
              clear hK K hHeld
              have hHeld := hHeld2
              clear hHeld2
              try simp only [Act.put, List.getElem_toArray, List.getElem_cons_zero, List.getElem_cons_succ, List.setIfInBounds_toArray, List.set_cons_zero, List.set_cons_succ]
              refine wpAnyH_ready (rs := [6]) (by kernel_rfl) (by simp) ?_
              refine AllReadyH.cons rfl (fun K hK => ?_) AllReadyH.nil
              refine step_store_rowV rfl _ _ _ rfl _ (atc a6) rfl rfl 37 zA9 st.oc (atc_info _) (atc_size _) (atc_one _) ?_
              refine hK.out _ _ (hS _ (st.b1_ _)) (fun hHeld2 => ?_)
              clear hK K hHeld
              have hHeld := hHeld2
              clear hHeld2
              try simp only [Act.put, List.getElem_toArray, List.getElem_cons_zero, List.getElem_cons_succ]
              refine wpAnyH_ready (rs := [7]) (by kernel_rfl) (by simp) ?_
              refine AllReadyH.cons rfl (fun K hK => ?_) AllReadyH.nil
              refine step_store_rowV rfl _ _ _ rfl _ (atc a8) rfl rfl 37 zA9 (st.od _) (atc_info _) (atc_size _) (atc_one _) ?_
              refine hK.out _ _ (hS _ (st.b2_ _ _)) (fun hHeld2 => ?_)
              clear hK K hHeld
              have hHeld := hHeld2
              clear hHeld2
              try simp only [Act.put, List.getElem_toArray, List.getElem_cons_zero, List.getElem_cons_succ]
              refine wpAnyH_done (by kernel_rfl) ?_ _
              try refine NoPanic.normal ?_
              go_wp2_with fail
              go_meet
              exact st.fin_
        · go_simp
          replace st := st.ac_ (n := w2.heap.size) (by simp)
          refine hK.out _ _ (hS _ st.1) (fun hHeld2 => ?_)
          clear hK K hHeld
          have hHeld := hHeld2
          clear hHeld2
          try simp only [Act.put, List.getElem_toArray, List.getElem_cons_zero, List.getElem_cons_succ, List.setIfInBounds_toArray, List.set_cons_zero, List.set_cons_succ]
          refine wpAnyH_ready (rs := [1, 5]) (by kernel_rfl) (by simp) ?_
          refine AllReadyH.cons rfl (fun K hK => ?_) (AllReadyH.cons rfl (fun K hK => ?_) AllReadyH.nil)
          · go_simp
            go_at_call 17
            refine (hCl.out _ (HB.out.trans (st.1.mono HB.out.size))).mono ?_
            rintro e w6 ⟨a6, t6, rfl, he6, hm6, hi6, hb6⟩
            replace st := st.c_ he6 hm6 hi6 hb6
            clear he6 hm6 hi6 hb6
            refine hK.out _ _ (hS _ st.1) (fun hHeld2 => ?_)
            clear hK K hHeld
            have hHeld := hHeld2
            clear hHeld2
            try simp only [Act.put, List.getElem_toArray, List.getElem_cons_zero, List.getElem_cons_succ, List.setIfInBounds_toArray, List.set_cons_zero, List.set_cons_succ]
            refine wpAnyH_ready (rs := [3, 5]) (by kernel_rfl) (by simp) ?_
            refine AllReadyH.cons rfl (fun K hK => ?_) (AllReadyH.cons rfl (fun K hK => ?_) AllReadyH.nil)
            · go_simp
              go_at_call 17
              refine (hCl.out _ (HB.out.trans (st.1.mono HB.out.size))).mono ?_
              rintro e w8 ⟨a8, t8, rfl, he8, hm8, hi8, hb8⟩
              replace st := st.d_ he8 hm8 hi8 hb8
              clear he8 hm8 hi8 hb8
              refine hK.out _ _ (hS _ st.1) (fun hHeld2 => ?_)
              clear hK K hHeld
              have hHeld := hHeld2
              clear hHeld2
              try simp only [Act.put, List.getElem_toArray, List.getElem_cons_zero, List.getElem_cons_succ, List.setIfInBounds_toArray, List.set_cons_zero, List.set_cons_succ]
              refine wpAnyH_ready (rs := [5]) (by kernel_rfl) (by simp) ?_
              refine AllReadyH.cons rfl (fun K hK => ?_) AllReadyH.nil
              go_simp
              replace st := st.ad_ (n := w8.heap.size) (by simp)
              refine hK.out _ _ (hS _ st.1) (fun hHeld2 => ?_)
              clear hK K hHeld
              have hHeld := hHeld2
              clear hHeld2
              try simp only [Act.put, List.getElem_toArray, List.getElem_cons_zero, List.getElem_cons_succ, List.setIfInBounds_toArray, List.set_cons_zero, List.set_cons_succ]
              refine wpAnyH_ready (rs := [6]) (by kernel_rfl) (by simp) ?_
              refine AllReadyH.cons rfl (fun K hK => ?_) AllReadyH.nil
              refine step_store_rowV rfl _ _ _ rfl _ (atc a6) rfl rfl 37 zA9 st.oc (atc_info _) (atc_size _) (atc_one _) ?_
              refine hK.out _ _ (hS _ (st.b1_ _)) (fun hHeld2 => ?_)
              clear hK K hHeld
              have hHeld := hHeld2
              clear hHeld2
              try simp only [Act.put, List.getElem_toArray, List.getElem_cons_zero, List.getElem_cons_succ]
              refine wpAnyH_ready (rs := [7]) (by kernel_rfl) (by simp) ?_
              refine AllReadyH.cons rfl (fun K hK => ?_) AllReadyH.nil
              refine step_store_rowV rfl _ _ _ rfl _ (atc a8) rfl rfl 37 zA9 (st.od _) (atc_info _) (atc_size _) (atc_one _) ?_
              refine hK.out _ _ (hS _ (st.b2_ _ _)) (fun hHeld2 => ?_)
              clear hK K hHeld
              have hHeld := hHeld2
              clear hHeld2
              try simp only [Act.put, List.getElem_toArray, List.getElem_cons_zero, List.getElem_cons_succ]
              refine wpAnyH_done (by kernel_rfl) ?_ _
              try refine NoPanic.normal ?_
              go_wp2_with fail
              go_meet
              exact st.fin_
            · go_simp
              replace st := st.ad_ (n := w6.heap.size) (by simp)
              refine hK.out _ _ (hS _ st.1) (fun hHeld2 => ?_)
              clear hK K hHeld
              have hHeld := hHeld2
              clear hHeld2
              try simp only [Act.put, List.getElem_toArray, List.getElem_cons_zero, List.getElem_cons_succ, List.setIfInBounds_toArray, List.set_cons_zero, List.set_cons_succ]
              refine wpAnyH_ready (rs := [3]) (by kernel_rfl) (by simp) ?_
              refine AllReadyH.cons rfl (fun K hK => ?_) AllReadyH.nil
              go_simp
              go_at_call 17
              refine (hCl.out _ (HB.out.trans (st.1.mono HB.out.size))).mono ?_
              rintro e w8 ⟨a8, t8, rfl, he8, hm8, hi8, hb8⟩
              replace st := st.d_ he8 hm8 hi8 hb8
              clear he8 hm8 hi8 hb8
              refine hK.out _ _ (hS _ st.1) (fun hHeld2 => ?_)
              clear hK K hHeld
              have hHeld := hHeld2
              clear hHeld2
              try simp only [Act.put, List.getElem_toArray, List.getElem_cons_zero, List.getElem_cons_succ, List.setIfInBounds_toArray, List.set_cons_zero, List.set_cons_succ]
              refine wpAnyH_ready (rs := [6]) (by kernel_rfl) (by simp) ?_
              refine AllReadyH.cons rfl (fun K hK => ?_) AllReadyH.nil
              refine step_store_rowV rfl _ _ _ rfl _ (atc a6) rfl rfl 37 zA9 st.oc (atc_info _) (atc_size _) (atc_one _) ?_
              refine hK.out _ _ (hS _ (st.b1_ _)) (fun hHeld2 => ?_)
              clear hK K hHeld
              have hHeld := hHeld2
              clear hHeld2
              try simp only [Act.put, List.getElem_toArray, List.getElem_cons_zero, List.getElem_cons_succ]
              refine wpAnyH_ready (rs := [7]) (by kernel_rfl) (by simp) ?_
              refine AllReadyH.cons rfl (fun K hK => ?_) AllReadyH.nil
              refine step_store_rowV rfl _ _ _ rfl _ (atc a8) rfl rfl 37 zA9 (st.od _) (atc_info _) (atc_size _) (atc_one _) ?_
              refine hK.out _ _ (hS _ (st.b2_ _ _)) (fun hHeld2 => ?_)
              clear hK K hHeld
              have hHeld := hHeld2
              clear hHeld2
              try simp only [Act.put, List.getElem_toArray, List.getElem_cons_zero, List.getElem_cons_succ]
              refine wpAnyH_done (by kernel_rfl) ?_ _
              try refine NoPanic.normal ?_
              go_wp2_with fail
              go_meet
              exact st.fin_
          · go_simp
            replace st := st.ad_ (n := w2.heap.size + 1) (by simp)
            refine hK.out _ _ (hS _ st.1) (fun hHeld2 => ?_)
            clear hK K hHeld
            have hHeld := hHeld2
            clear hHeld2
            try simp only [Act.put, List.getElem_toArray, List.getElem_cons_zero, List.getElem_cons_succ, List.setIfInBounds_toArray, List.set_cons_zero, List.set_cons_succ]
            refine wpAnyH_ready (rs := [1]) (by kernel_rfl) (by simp) ?_
            refine AllReadyH.cons rfl (fun K hK => ?_) AllReadyH.nil
            go_simp
            go_at_call 17
            refine (hCl.out _ (HB.out.trans (st.1.mono HB.out.size))).mono ?_
            rintro e w6 ⟨a6, t6, rfl, he6, hm6, hi6, hb6⟩
            replace st := st.c_ he6 hm6 hi6 hb6
            clear he6 hm6 hi6 hb6
            refine hK.out _ _ (hS _ st.1) (fun hHeld2 => ?_)
            clear hK K hHeld
            have hHeld := hHeld2
            clear hHeld2
            try simp only [Act.put, List.getElem_toArray, List.getElem_cons_zero, List.getElem_cons_succ, List.setIfInBounds_toArray, List.set_cons_zero, List.set_cons_succ]
            refine wpAnyH_ready (rs := [3]) (by kernel_rfl) (by simp) ?_
            refine AllReadyH.cons rfl (fun K hK => ?_) AllReadyH.nil
            go_simp
            go_at_call 17
            refine (hCl.out _ (HB.out.trans (st.1.mono HB.out.size))).mono ?_
            rintro e w8 ⟨a8, t8, rfl, he8, hm8, hi8, hb8⟩
            replace st := st.d_ he8 hm8 hi8 hb8
            clear he8 hm8 hi8 hb8
            refine hK.out _ _ (hS _ st.1) (fun hHeld2 => ?_)
            clear hK K hHeld
            have hHeld := hHeld2
            clear hHeld2
            try simp only [Act.put, List.getElem_toArray, List.getElem_cons_zero, List.getElem_cons_succ, List.setIfInBounds_toArray, List.set_cons_zero, List.set_cons_succ]
            refine wpAnyH_ready (rs := [6]) (by kernel_rfl) (by simp) ?_
            refine AllReadyH.cons rfl (fun K hK => ?_) AllReadyH.nil
            refine step_store_rowV rfl _ _ _ rfl _ (atc a6) rfl rfl 37 zA9 st.oc (atc_info _) (atc_size _) (atc_one _) ?_
            refine hK.out _ _ (hS _ (st.b1_ _)) (fun hHeld2 => ?_)
            clear hK K hHeld
            have hHeld := hHeld2
            clear hHeld2
            try simp only [Act.put, List.getElem_toArray, List.getElem_cons_zero, List.getElem_cons_succ]
            refine wpAnyH_ready (rs := [7]) (by kernel_rfl) (by simp) ?_
            refine AllReadyH.cons rfl (fun K hK => ?_) AllReadyH.nil
            refine step_store_rowV rfl _ _ _ rfl _ (atc a8) rfl rfl 37 zA9 (st.od _) (atc_info _) (atc_size _) (atc_one _) ?_
            refine hK.out _ _ (hS _ (st.b2_ _ _)) (fun hHeld2 => ?_)
            clear hK K hHeld
            have hHeld := hHeld2
            clear hHeld2
            try simp only [Act.put, List.getElem_toArray, List.getElem_cons_zero, List.getElem_cons_succ]
            refine wpAnyH_done (by kernel_rfl) ?_ _
            try refine NoPanic.normal ?_
            go_wp2_with fail
            go_meet
            exact st.fin_
        · go_simp
          replace st := st.ad_ (n := w2.heap.size) (by simp)
          refine hK.out _ _ (hS _ st.1) (fun hHeld2 => ?_)
          clear hK K hHeld
          have hHeld := hHeld2
          clear hHeld2
          try simp only [Act.put, List.getElem_toArray, List.getElem_cons_zero, List.getElem_cons_succ, List.setIfInBounds_toArray, List.set_cons_zero, List.set_cons_succ]
          refine wpAnyH_ready (rs := [1, 4]) (by kernel_rfl) (by simp) ?_
          refine AllReadyH.cons rfl (fun K hK => ?_) (AllReadyH.cons rfl (fun K hK => ?_) AllReadyH.nil)
          · go_simp
            go_at_call 17
            refine (hCl.out _ (HB.out.trans (st.1.mono HB.out.size))).mono ?_
            rintro e w6 ⟨a6, t6, rfl, he6, hm6, hi6, hb6⟩
            replace st := st.c_ he6 hm6 hi6 hb6
            clear he6 hm6 hi6 hb6
            refine hK.out _ _ (hS _ st.1) (fun hHeld2 => ?_)
            clear hK K hHeld
            have hHeld := hHeld2
            clear hHeld2
            try simp only [Act.put, List.getElem_toArray, List.getElem_cons_zero, List.getElem_cons_succ, List.setIfInBounds_toArray, List.set_cons_zero, List.set_cons_succ]
            refine wpAnyH_ready (rs := [3, 4]) (by kernel_rfl) (by simp) ?_
            refine AllReadyH.cons rfl (fun K hK => ?_) (AllReadyH.cons rfl (fun K hK => ?_) AllReadyH.nil)
            · go_simp
              go_at_call 17
              refine (hCl.out _ (HB.out.trans (st.1.mono HB.out.size))).mono ?_
              rintro e w8 ⟨a8, t8, rfl, he8, hm8, hi8, hb8⟩
              replace st := st.d_ he8 hm8 hi8 hb8
              clear he8 hm8 hi8 hb8
              refine hK.out _ _ (hS _ st.1) (fun hHeld2 => ?_)
              clear hK K hHeld
              have hHeld := hHeld2
              clear hHeld2
              try simp only [Act.put, List.getElem_toArray, List.getElem_cons_zero, List.getElem_cons_succ, List.setIfInBounds_toArray, List.set_cons_zero, List.set_cons_succ]
              refine wpAnyH_ready (rs := [4]) (by kernel_rfl) (by simp) ?_
              refine AllReadyH.cons rfl (fun K hK => ?_) AllReadyH.nil
              go_simp
              replace st := st.ac_ (n := w8.heap.size) (by simp)
              refine hK.out _ _ (hS _ st.1) (fun hHeld2 => ?_)
              clear hK K hHeld
              have hHeld := hHeld2
              clear hHeld2
              try simp only [Act.put, List.getElem_toArray, List.getElem_cons_zero, List.getElem_cons_succ, List.setIfInBounds_toArray, List.set_cons_zero, List.set_cons_succ]
              refine wpAnyH_ready (rs := [6]) (by kernel_rfl) (by simp) ?_
              refine AllReadyH.cons rfl (fun K hK => ?_) AllReadyH.nil
              refine step_store_rowV rfl _ _ _ rfl _ (atc a6) rfl rfl 37 zA9 st.oc (atc_info _) (atc_size _) (atc_one _) ?_
              refine hK.out _ _ (hS _ (st.b1_ _)) (fun hHeld2 => ?_)
              clear hK K hHeld
              have hHeld := hHeld2
              clear hHeld2
              try simp only [Act.put, List.getElem_toArray, List.getElem_cons_zero, List.getElem_cons_succ]
              refine wpAnyH_ready (rs := [7]) (by kernel_rfl) (by simp) ?_
              refine AllReadyH.cons rfl (fun K hK => ?_) AllReadyH.nil
              refine step_store_rowV rfl _ _ _ rfl _ (atc a8) rfl rfl 37 zA9 (st.od _) (atc_info _) (atc_size _) (atc_one _) ?_
              refine hK.out _ _ (hS _ (st.b2_ _ _)) (fun hHeld2 => ?_)
              clear hK K hHeld
              have hHeld := hHeld2
              clear hHeld2
              try simp only [Act.put, List.getElem_toArray, List.getElem_cons_zero, List.getElem_cons_succ]
              refine wpAnyH_done (by kernel_rfl) ?_ _
              try refine NoPanic.normal ?_
              go_wp2_with fail
              go_meet
              exact st.fin_
            · go_simp
              replace st := st.ac_ (n := w6.heap.size) (by simp)
              refine hK.out _ _ (hS _ st.1) (fun hHeld2 => ?_)
              clear hK K hHeld
              have hHeld := hHeld2
              clear hHeld2
              try simp only [Act.put, List.getElem_toArray, List.getElem_cons_zero, List.getElem_cons_succ, List.setIfInBounds_toArray, List.set_cons_zero, List.set_cons_succ]
              refine wpAnyH_ready (rs := [3]) (by kernel_rfl) (by simp) ?_
              refine AllReadyH.cons rfl (fun K hK => ?_) AllReadyH.nil
              go_simp
              go_at_call 17
              refine (hCl.out _ (HB.out.trans (st.1.mono HB.out.size))).mono ?_
              rintro e w8 ⟨a8, t8, rfl, he8, hm8, hi8, hb8⟩
              replace st := st.d_ he8 hm8 hi8 hb8
              clear he8 hm8 hi8 hb8
              refine hK.out _ _ (hS _ st.1) (fun hHeld2 => ?_)
              clear hK K hHeld
              have hHeld := hHeld2
              clear hHeld2
              try simp only [Act.put, List.getElem_toArray, List.getElem_cons_zero, List.getElem_cons_succ, List.setIfInBounds_toArray, List.set_cons_zero, List.set_cons_succ]
              refine wpAnyH_ready (rs := [6]) (by kernel_rfl) (by simp) ?_
              refine AllReadyH.cons rfl (fun K hK => ?_) AllReadyH.nil
              refine step_store_rowV rfl _ _ _ rfl _ (atc a6) rfl rfl 37 zA9 st.oc (atc_info _) (atc_size _) (atc_one _) ?_
              refine hK.out _ _ (hS _ (st.b1_ _)) (fun hHeld2 => ?_)
              clear hK K hHeld
              have hHeld := hHeld2
              clear hHeld2
              try simp only [Act.put, List.getElem_toArray, List.getElem_cons_zero, List.getElem_cons_succ]
              refine wpAnyH_ready (rs := [7]) (by kernel_rfl) (by simp) ?_
              refine AllReadyH.cons rfl (fun K hK => ?_) AllReadyH.nil
              refine step_store_rowV rfl _ _ _ rfl _ (atc a8) rfl rfl 37 zA9 (st.od _) (atc_info _) (atc_size _) (atc_one _) ?_
              refine hK.out _ _ (hS _ (st.b2_ _ _)) (fun hHeld2 => ?_)
              clear hK K hHeld
              have hHeld := hHeld2
              clear hHeld2
              try simp only [Act.put, List.getElem_toArray, List.getElem_cons_zero, List.getElem_cons_succ]
              refine wpAnyH_done (by kernel_rfl) ?_ _
              try refine NoPanic.normal ?_
              go_wp2_with fail
              go_meet
              exact st.fin_
          · go_simp
            replace st := st.ac_ (n := w2.heap.size + 1) (by simp)
            refine hK.out _ _ (hS _ st.1) (fun hHeld2 => ?_)
            clear hK K hHeld
            have hHeld := hHeld2
            clear hHeld2
            try simp only [Act.put, List.getElem_toArray, List.getElem_cons_zero, List.getElem_cons_succ, List.setIfInBounds_toArray, List.set_cons_zero, List.set_cons_succ]
            refine wpAnyH_ready (rs := [1]) (by kernel_rfl) (by simp) ?_
            refine AllReadyH.cons rfl (fun K hK => ?_) AllReadyH.nil
            go_simp
            go_at_call 17
            refine (hCl.out _ (HB.out.trans (st.1.mono HB.out.size))).mono ?_
            rintro e w6 ⟨a6, t6, rfl, he6, hm6, hi6, hb6⟩
            replace st := st.c_ he6 hm6 hi6 hb6
            clear he6 hm6 hi6 hb6
            refine hK.out _ _ (hS _ st.1) (fun hHeld2 => ?_)
            clear hK K hHeld
            have hHeld := hHeld2
            clear hHeld2
            try simp only [Act.put, List.getElem_toArray, List.getElem_cons_zero, List.getElem_cons_succ, List.setIfInBounds_toArray, List.set_cons_zero, List.set_cons_succ]
            refine wpAnyH_ready (rs := [3]) (by kernel_rfl) (by simp) ?_
            refine AllReadyH.cons rfl (fun K hK => ?_) AllReadyH.nil
            go_simp
            go_at_call 17
            refine (hCl.out _ (HB.out.trans (st.1.mono HB.out.size))).mono ?_
            rintro e w8 ⟨a8, t8, rfl, he8, hm8, hi8, hb8⟩
            replace st := st.d_ he8 hm8 hi8 hb8
            clear he8 hm8 hi8 hb8
            refine hK.out _ _ (hS _ st.1) (fun hHeld2 => ?_)
            clear hK K hHeld
            have hHeld := hHeld2
            clear hHeld2
            try simp only [Act.put, List.getElem_toArray, List.getElem_cons_zero, List.getElem_cons_succ, List.setIfInBounds_toArray, List.set_cons_zero, List.set_cons_succ]
            refine wpAnyH_ready (rs := [6]) (by kernel_rfl) (by simp) ?_
            refine AllReadyH.cons rfl (fun K hK => ?_) AllReadyH.nil
            refine step_store_rowV rfl _ _ _ rfl _ (atc a6) rfl rfl 37 zA9 st.oc (atc_info _) (atc_size _) (atc_one _) ?_
            refine hK.out _ _ (hS _ (st.b1_ _)) (fun hHeld2 => ?_)
            clear hK K hHeld
            have hHeld := hHeld2
            clear hHeld2
            try simp only [Act.put, List.getElem_toArray, List.getElem_cons_zero, List.getElem_cons_succ]
            refine wpAnyH_ready (rs := [7]) (by kernel_rfl) (by simp) ?_
            refine AllReadyH.cons rfl (fun K hK => ?_) AllReadyH.nil
            refine step_store_rowV rfl _ _ _ rfl _ (atc a8) rfl rfl 37 zA9 (st.od _) (atc_info _) (atc_size _) (atc_one _) ?_
            refine hK.out _ _ (hS _ (st.b2_ _ _)) (fun hHeld2 => ?_)
            clear hK K hHeld
            have hHeld := hHeld2
            clear hHeld2
            try simp only [Act.put, List.getElem_toArray, List.getElem_cons_zero, List.getElem_cons_succ]
            refine wpAnyH_done (by kernel_rfl) ?_ _
            try refine NoPanic.normal ?_
            go_wp2_with fail
            go_meet
            exact st.fin_
      case rest =>
        obtain ⟨b, v, a1, a2, t1, t2, lo, hi, lo2, hi2, rfl, rfl, p5, p6, K1, K2, hlh, hbo, hvo, hb5, hv6, hbx⟩ := hcut
        have b6 := HB.out.trans (hbx.mono HB.out.size)
        have oA := HU.out.1.step hbx
        have oB := HU.out.2.step hbx
        have HF1 := K1.atF h G1
        have hv1 := Lib.hid (rg_of (w := wc) (fun W hW => vsame13_any ⟨k, p, N, M, A1, n1, c1, A2, n2, c2, A3, n3, c3, f, A4, n4, c4⟩ ⟨kz, pz, Nz, Mz, A1z, n1z, c1z, A2z, n2z, c2z, A3z, n3z, c3z, fz, A4z, n4z, c4z⟩ ss ss' ls bs ls' bs' rs rs' W (h.at (bl_trans b6 hW)) (h'.at (bl_trans b6 hW)) G1 G2))
        have hv2 := Lib.hid (rg_of (w := wc) (fun W hW => rvsame13_any ⟨k, p, N, M, A1, n1, c1, A2, n2, c2, A3, n3, c3, f, A4, n4, c4⟩ ⟨kz, pz, Nz, Mz, A1z, n1z, c1z, A2z, n2z, c2z, A3z, n3z, c3z, fz, A4z, n4z, c4z⟩ ss ss' ls bs ls' bs' rs rs' W (h.at (bl_trans b6 hW)) (h'.at (bl_trans b6 hW)) G1 G2))
        have hv3 := Lib.hid (rg_of (w := wc) (fun W hW => vsame13_any ⟨k, p, N, M, A1, n1, c1, A2, n2, c2, A3, n3, c3, f, A4, n4, c4⟩ a1 ss t1 ls bs ls bs rs rs W (h.at (bl_trans b6 hW)) ((K1.step hW).atC h) G1 HF1))
        have hv4 := Lib.hid (rg_of (w := wc) (fun W hW => rvsame13_any ⟨k, p, N, M, A1, n1, c1, A2, n2, c2, A3, n3, c3, f, A4, n4, c4⟩ a1 ss t1 ls bs ls bs rs rs W (h.at (bl_trans b6 hW)) ((K1.step hW).atC h) G1 HF1))
        rw [K1.same] at hv3 hv4
        rw [show atc ⟨k, p, N, M, A1, n1, c1, A2, n2, c2, A3, n3, c3, f, A4, n4, c4⟩ = #[.int .i64 k, .bool p, .int .u32 N, .int .u32 M, .slice A1 n1 c1, .slice A2 n2 c2, .slice A3 n3 c3, .int .i64 f, .slice A4 n4 c4] from rfl] at hv1 hv2 hv3 hv4
        rw [show atc ⟨kz, pz, Nz, Mz, A1z, n1z, c1z, A2z, n2z, c2z, A3z, n3z, c3z, fz, A4z, n4z, c4z⟩ = #[.int .i64 kz, .bool pz, .int .u32 Nz, .int .u32 Mz, .slice A1z n1z c1z, .slice A2z n2z c2z, .slice A3z n3z c3z, .int .i64 fz, .slice A4z n4z c4z] from rfl] at hv1 hv2
        generalize sm13 ⟨k, p, N, M, A1, n1, c1, A2, n2, c2, A3, n3, c3, f, A4, n4, c4⟩ ss ls bs rs ⟨kz, pz, Nz, Mz, A1z, n1z, c1z, A2z, n2z, c2z, A3z, n3z, c3z, fz, A4z, n4z, c4z⟩ ss' ls' bs' rs' = V at *
        have hVV : (V != V) = false := by simp
        clear st hCl HU HB hS
        go_wp2_with fail
        refine wp_region_quiet_below (by kernel_rfl) (by kernel_rfl) ?_
        repeat (first
          | go_big_quiet_skip
          | (refine wpQuiet_load_row (by rfl) 37 _ rfl w.heap.size rfl 37 #[.int .i64 k, .bool p, .int .u32 N, .int .u32 M, .slice A1 n1 c1, .slice A2 n2 c2, .slice A3 n3 c3, .int .i64 f, .slice A4 n4 c4] (.struct (Tryz.prog.fieldsOf 37)) oA.rg (by kernel_rfl) rfl (by kernel_rfl) ?_; go_simp)
          | (refine wpQuiet_load_row (by rfl) 37 _ rfl (w.heap.size + 1) rfl 37 #[.int .i64 kz, .bool pz, .int .u32 Nz, .int .u32 Mz, .slice A1z n1z c1z, .slice A2z n2z c2z, .slice A3z n3z c3z, .int .i64 fz, .slice A4z n4z c4z] (.struct (Tryz.prog.fieldsOf 37)) oB.rg (by kernel_rfl) rfl (by kernel_rfl) ?_; go_simp)
          | (refine wpQuiet_load_row (by rfl) 37 _ rfl b rfl 37 (atc a1) (.struct (Tryz.prog.fieldsOf 37)) p5.rg (by kernel_rfl) rfl (atc_info a1) ?_; go_simp)
          | go_big_quiet_step (with_reducible first | exact hv1.out _ _ | exact hv2.out _ _ | exact hv3.out _ _ | exact hv4.out _ _))
        refine wpQuiet_nil ?_
        first | rintro w' ⟨⟨dq, osq⟩, rfl⟩ | rintro ⟨dq, osq⟩
        have hgw := below_regrown wc dq osq
        have b7 := bl_trans b6 hgw
        have K1b := K1.step hgw
        have K2b := K2.step hgw
        have p5b := p5.step hgw
        have p6b := p6.step hgw
        have oAb := oA.step hgw
        generalize grow (redrawn wc dq) osq = w3 at *
        clear hv1 hv2 hv3 hv4 hVV hgw b6 K1 K2 p5 p6 oA oB hbx
        have c4 := p5b.cell (i := 4) (v := .slice a1.A1 a1.n1 a1.c1) rfl
        have hn1 : a1.n1 ≤ 1000 := HF1.n1
        have hn2 : a1.n2 ≤ 1000 := HF1.n2
        have hn3 : a1.n3 ≤ 1000 := HF1.n3
        have hn4 : a1.n4 ≤ 1000 := HF1.n4
        go_wp2_with fail
        go_loopw [47] (fun i wr => ∃ j : Nat, j ≤ a1.n1 ∧ i = .int .i64 j ∧ MS lo hi w3 wr) (fun i _ => a1.n1 - (intOf i).toNat)
        case atStart => exact ⟨0, Nat.zero_le _, rfl, MS.refl _ _ _⟩
        case round =>
          obtain ⟨j, hj, rfl, hM⟩ := hrel
          by_cases hlt : j < a1.n1
          · obtain ⟨g, s, hA, hg1, hg2, hts, hsm, hfz, y0, y1⟩ := K1b.seg_at hlt
            have hsn : s.n ≤ 1000 := HF1.s s hsm
            have q4 : wr.cell? ⟨b, 4, none⟩ = some (.slice (some ⟨g, 0, none⟩) a1.n1 a1.c1) := by rw [← hA]; exact (hM.own p5b hbo).cell rfl
            obtain ⟨x, q0⟩ := hM.int y0
            have q1 := hM.slice y1
            have f0 := (hM.fz g (j * 2)).trans (hfz _)
            have hM2 := fun y => hM.store (y := y) y0 hg1 hg2
            have r4 : ∀ y, (wr.setCell ⟨g, j * 2, none⟩ (.int .i64 y)).cell? ⟨b, 4, none⟩ = some (.slice (some ⟨g, 0, none⟩) a1.n1 a1.c1) := fun y => by rw [← hA]; exact ((hM2 y).own p5b hbo).cell rfl
            have r1 : ∀ y, (wr.setCell ⟨g, j * 2, none⟩ (.int .i64 y)).cell? ⟨g, j * 2 + 1, none⟩ = some (.slice s.A s.n s.c) := fun y => (hM2 y).slice y1
            have hX := Lib.hid (K1b.i.x s hsm)
            have hUx := Lib.hid (K1b.u.x s hsm)
            clear c4
            go_wp2_with fail
            have hMi := hM2 (wrap64 (x + 1))
            generalize wr.setCell ⟨g, j * 2, none⟩ (.int .i64 (wrap64 (x + 1))) = W5 at hMi ⊢
            clear hM2 r4 r1 q0 q1 q4 f0 hM
            go_loopw [66] (fun i wi => ∃ q : Nat, q ≤ s.n ∧ i = .int .i64 q ∧ MS lo hi w3 wi) (fun i _ => s.n - (intOf i).toNat)
            case atStart => exact ⟨0, Nat.zero_le _, rfl, hMi⟩
            case round =>
              obtain ⟨q, hq, rfl, hN⟩ := hrel
              by_cases hltq : q < s.n
              · obtain ⟨g2, x2, hA2, h21, h22, hf2, y2⟩ := num_at hX.out hUx.out hltq
                have q4 : wr.cell? ⟨b, 4, none⟩ = some (.slice (some ⟨g, 0, none⟩) a1.n1 a1.c1) := by rw [← hA]; exact (hN.own p5b hbo).cell rfl
                have q1 : wr.cell? ⟨g, j * 2 + 1, none⟩ = some (.slice (some ⟨g2, 0, none⟩) s.n s.c) := by rw [← hA2]; exact hN.slice y1
                obtain ⟨x3, q2⟩ := hN.int y2
                have f2 := (hN.fz g2 q).trans hf2
                have hN2 := Lib.hid (fun y => hN.store (y := y) y2 h21 h22)
                clear y0 y1 y2 hA hA2 hMi
                go_wp2_with fail
                go_roundw
                case rel => exact ⟨q + 1, by omega, by go_num, hN2.out _⟩
                case measure => simp [intOf]; omega
              · clear y0 y1 hA hMi
                go_wp2_with fail
                go_roundw
                case rel => exact ⟨j + 1, by omega, by go_num, hN⟩
                case measure => simp [intOf]; omega
          · have c5 := (hM.own p5b hbo).cell (i := 5) (v := .slice a1.A2 a1.n2 a1.c2) rfl
            have hM3 := Lib.hid hM
            clear c4 hj
            go_wp2_with fail
            clear hlt hM
            go_loopw [85] (fun i wr => ∃ j : Nat, j ≤ a1.n2 ∧ i = .int .i64 j ∧ MS lo hi w3 wr) (fun i _ => a1.n2 - (intOf i).toNat)
            case atStart => exact ⟨0, Nat.zero_le _, rfl, hM3.out⟩
            case round =>
              clear hM3
              obtain ⟨j, hj, rfl, hM⟩ := hrel
              by_cases hlt : j < a1.n2
              · obtain ⟨g2, x2, hA2, h21, h22, hf2, y2⟩ := num_at K1b.i.l K1b.u.l hlt
                have q4 : wr.cell? ⟨b, 5, none⟩ = some (.slice (some ⟨g2, 0, none⟩) a1.n2 a1.c2) := by rw [← hA2]; exact (hM.own p5b hbo).cell rfl
                obtain ⟨x3, q2⟩ := hM.int y2
                have f2 := (hM.fz g2 (j)).trans hf2
                have hN2 := Lib.hid (fun y => hM.store (y := y) y2 h21 h22)
                clear y2 hA2
                go_wp2_with fail
                go_roundw
                case rel => exact ⟨j + 1, by omega, by go_num, hN2.out _⟩
                case measure => simp [intOf]; omega
              · have c5 := (hM.own p5b hbo).cell (i := 6) (v := .slice a1.A3 a1.n3 a1.c3) rfl
                have hM3 := Lib.hid hM
                clear hj
                go_wp2_with fail
                clear hlt hM
                go_loopw [99] (fun i wr => ∃ j : Nat, j ≤ a1.n3 ∧ i = .int .i64 j ∧ MS lo hi w3 wr) (fun i _ => a1.n3 - (intOf i).toNat)
                case atStart => exact ⟨0, Nat.zero_le _, rfl, hM3.out⟩
                case round =>
                  clear hM3
                  obtain ⟨j, hj, rfl, hM⟩ := hrel
                  by_cases hlt : j < a1.n3
                  · obtain ⟨g2, x2, hA2, h21, h22, hf2, y2⟩ := num_at K1b.i.b K1b.u.b hlt
                    have q4 : wr.cell? ⟨b, 6, none⟩ = some (.slice (some ⟨g2, 0, none⟩) a1.n3 a1.c3) := by rw [← hA2]; exact (hM.own p5b hbo).cell rfl
                    obtain ⟨x3, q2⟩ := hM.int y2
                    have f2 := (hM.fz g2 (j)).trans hf2
                    have hN2 := Lib.hid (fun y => hM.store (y := y) y2 h21 h22)
                    clear y2 hA2
                    go_wp2_with fail
                    go_roundw
                    case rel => exact ⟨j + 1, by omega, by go_num, hN2.out _⟩
                    case measure => simp [intOf]; omega
                  · have c5 := (hM.own p5b hbo).cell (i := 8) (v := .slice a1.A4 a1.n4 a1.c4) rfl
                    have hM3 := Lib.hid hM
                    clear hj
                    go_wp2_with fail
                    clear hlt hM
                    go_loopw [113] (fun i wr => ∃ j : Nat, j ≤ a1.n4 ∧ i = .int .i64 j ∧ MS lo hi w3 wr) (fun i _ => a1.n4 - (intOf i).toNat)
                    case atStart => exact ⟨0, Nat.zero_le _, rfl, hM3.out⟩
                    case round =>
                      clear hM3
                      obtain ⟨j, hj, rfl, hM⟩ := hrel
                      by_cases hlt : j < a1.n4
                      · obtain ⟨g2, x2, hA2, h21, h22, hf2, y2⟩ := rts_at K1b.i.r h.r.2.1 K1b.u.r hlt
                        have q4 : wr.cell? ⟨b, 8, none⟩ = some (.slice (some ⟨g2, 0, none⟩) a1.n4 a1.c4) := by rw [← hA2]; exact (hM.own p5b hbo).cell rfl
                        obtain ⟨x3, q2⟩ := hM.int y2
                        have f2 := (hM.fz g2 (j * 19)).trans hf2
                        have hN2 := Lib.hid (fun y => hM.store (y := y) y2 h21 h22)
                        clear y2 hA2
                        go_wp2_with fail
                        go_roundw
                        case rel => exact ⟨j + 1, by omega, by go_num, hN2.out _⟩
                        case measure => simp [intOf]; omega
                      · have hwl2 : w.heap.size < lo := by have := K1b.h1; omega
                        have oAr := hM.own oAb (.inl hwl2)
                        have oDr := hM.own p6b hvo
                        have b8 : Below w.heap.size w wr := hM.below b7 (by omega)
                        have K2r : CpOk w2 wr ⟨k, p, N, M, A1, n1, c1, A2, n2, c2, A3, n3, c3, f, A4, n4, c4⟩ ss ls bs rs a2 t2 hi hi2 := ⟨K2b.e, K2b.m, hM.mine (K2b.i.base hlh), K2b.u, by have := K1b.h1; have := K1b.h2; omega, by have := K2b.h2; omega, by rw [hM.size]; exact K2b.h3⟩
                        have HF2 := K2r.atF h G1
                        clear hM hj
                        go_wp2_with fail
                        refine (hAl.out _).mono ?_
                        rintro e w9 ⟨rfl, hb9⟩
                        have oA9 := oAr.step hb9
                        have oD9 := oDr.step hb9
                        have b9 := bl_trans b8 hb9
                        have K2z := K2r.step hb9
                        have hv := Lib.hid (rvsame13_any ⟨k, p, N, M, A1, n1, c1, A2, n2, c2, A3, n3, c3, f, A4, n4, c4⟩ a2 ss t2 ls bs ls bs rs rs w9 (h.at b9) (K2z.atC h) G1 HF2)
                        rw [K2z.same] at hv
                        rw [show atc ⟨k, p, N, M, A1, n1, c1, A2, n2, c2, A3, n3, c3, f, A4, n4, c4⟩ = #[.int .i64 k, .bool p, .int .u32 N, .int .u32 M, .slice A1 n1 c1, .slice A2 n2 c2, .slice A3 n3 c3, .int .i64 f, .slice A4 n4 c4] from rfl] at hv
                        rw [show atc a2 = #[.int .i64 a2.k, .bool a2.p, .int .u32 a2.N, .int .u32 a2.M, .slice a2.A1 a2.n1 a2.c1, .slice a2.A2 a2.n2 a2.c2, .slice a2.A3 a2.n3 a2.c3, .int .i64 a2.f, .slice a2.A4 a2.n4 a2.c4] from rfl] at hv oD9
                        obtain ⟨x0, x1, x2, x3, x4, x5, x6, x7, x8⟩ := at_cells oA9
                        obtain ⟨y0, y1, y2, y3, y4, y5, y6, y7, y8⟩ := at_cells oD9
                        clear oA9 oD9 oAr oDr K2z K2r hb9 b8
                        go_wp2_with fail
                        refine hv.out.mono ?_
                        rintro e w10 ⟨rfl, hb10⟩
                        go_wp2
                        go_ret
                        exact ⟨rfl, bl_trans b9 hb10⟩
end Go.Proofs.YtmcnpkfeipelgaaGreatDoor

/- an attribute that came in, with its routes -/
namespace Go.Proofs.YtmcnpkfeipelgaaGreatDoor
open Go.ChangeShapes Go.WideShapes Go.ChangeAt Go.RowKit Go.Deep
section
variable {P : Program} {w : World} {H : Type} {enc : TypeId × Value → H} {spare : Nat → Bool} {held : Bool}
instance : Inhabited Rt := ⟨rt0⟩
theorem open_routes2 {t e t4 t8 t1 : TypeId} {A : Option Addr} {n c : Nat} {d : DataW H} {p : List MemPlace} (ht : P.underlying t = some (.slice e)) (hc : P.cellsOf e = 19) (hi4 : P.underlying t4 = some (.int .u32)) (hi8 : P.underlying t8 = some (.int .i64)) (hi1 : P.underlying t1 = some (.int .u8))
    (h0 : leafAt P 5 e 0 = some t4) (h1 : leafAt P 5 e 1 = some t8) (h2 : leafAt P 5 e 2 = some t8) (hu : ∀ j, j < 16 → leafAt P 5 e (3 + j) = some t1) (h : DataW.Trod enc P w 0 spare held t (.slice A n c) d p) :
    ∃ l, Routes w w.heap.size A n l := by
  obtain ⟨fuel, hf⟩ := h
  rcases open_slice ht hf with ⟨hcs, _⟩ | ⟨a, len, cap, m, n', D, Pl, hcs, _, hl, hm, hmm, _, hx⟩
  · simp [Value.cells] at hcs
    obtain ⟨rfl, rfl, rfl⟩ := hcs
    exact ⟨[], rfl, by simp, .inl rfl⟩
  · simp [Value.cells] at hcs
    obtain ⟨rfl, rfl, rfl⟩ := hcs
    rw [hc] at hx
    have hmn : n ≤ m := by rw [hmm]; split <;> omega
    obtain ⟨l, hll, hlp⟩ := list_of (n := n) (p := fun i (z : Rt) => z.Ok ∧ ∀ j u, (rt z).toList[j]? = some u → w.cell? (a.add (i * 19 + j)) = some u) (fun i hin => by
      obtain ⟨cs', hcells, htr⟩ := hx i (by omega)
      obtain ⟨_, _, hat⟩ := World.cells?_some hcells
      obtain ⟨x, hx0, hw0⟩ := leaf_int h0 hi4 htr
      obtain ⟨y, hy0, hw1⟩ := leaf_int h1 hi8 htr
      obtain ⟨z, hz0, hw2⟩ := leaf_int h2 hi8 htr
      obtain ⟨us, hus, hup⟩ := list_of (n := 16) (p := fun j (q : Int) => cs'[3 + j]? = some (.int .u8 q) ∧ (Lit.int .u8 q).wf = true) (fun j hj => leaf_int (hu j hj) hi1 htr)
      have hur : ∀ q ∈ us, 0 ≤ q ∧ q ≤ 255 := fun q hq => by
        obtain ⟨j, hj⟩ := List.getElem?_of_mem hq
        exact wf_u8 (hup j q hj).2
      have hxr : 0 ≤ x ∧ x ≤ 4294967295 := by
        have := wf_u32 hw0
        omega
      refine ⟨⟨x, y, z, us⟩, ⟨⟨hus, hur⟩, hxr⟩, fun j u hj => ?_⟩
      have hjl : j < 19 := by
        have := (List.getElem?_eq_some_iff.1 hj).1
        rw [Array.length_toList, rt_size hus] at this
        exact this
      have hcj : cs'[j]? = some u := by
        rw [Array.getElem?_toList] at hj
        match j, hj with
        | 0, hj => rw [rt_0] at hj; rw [← hj]; exact hx0
        | 1, hj => rw [rt_1] at hj; rw [← hj]; exact hy0
        | 2, hj => rw [rt_2] at hj; rw [← hj]; exact hz0
        | j + 3, hj =>
          rw [show j + 3 = 1 + (2 + j) by omega, rt_at, pfx_at, arr_get (by show j < us.length; omega)] at hj
          rw [← hj, show j + 3 = 3 + j by omega]
          exact (hup j _ (nth_some (by omega))).1
      have g := (hat j (by omega)).trans hcj
      rw [Go.Deep.add_add] at g
      exact g)
    refine ⟨l, hll.symm, fun q hq => ?_, ?_⟩
    · obtain ⟨i, hi⟩ := List.getElem?_of_mem hq
      exact (hlp i q hi).1
    · rcases l with _ | ⟨z, l⟩
      · exact .inl rfl
      · right
        have hz := (hlp 0 z rfl).2 0 _ (by rw [Array.getElem?_toList]; exact rt_0 z)
        have hsp := World.cell?_spot hz
        have hlt := World.block_lt_of_cell? w _ hz
        obtain ⟨b, o, s⟩ := a
        have hs' : s = none := by simpa [Addr.add] using hsp
        subst hs'
        refine ⟨b, o, rfl, by simpa [Addr.add] using hlt, fun i q hi j u hu => ?_⟩
        have := (hlp i q hi).2 j u hu
        rw [Addr.add_lit, ← Nat.add_assoc] at this
        exact this
set_option maxRecDepth 100000 in
theorem open_atR {C : Array Value} {fuel : Nat} {x : DataW H × List MemPlace} (hz : C.size = Tryz.prog.cellsOf 37) (hx : DataW.trod enc Tryz.prog w 0 spare held fuel 37 C.toList = some x) (hsp : ∀ b, spare b = true) :
    ∃ (a : At) (rs : List Rt), C = atc a ∧ AtIn w a ∧ Routes w w.heap.size a.A4 a.n4 rs := by
  obtain ⟨a, rfl, ha⟩ := open_at hz hx hsp
  obtain ⟨fuel', y, t8⟩ := leaf_any (n := 5) (i := 8) (l := 35) (by kernel_rfl) hx (v := .slice a.A4 a.n4 a.c4) rfl
  obtain ⟨rs, hr⟩ := open_routes2 (t4 := 32) (t8 := 3) (t1 := 5) (d := y.1) (p := y.2) Tryz.underlying35 (by kernel_rfl) Tryz.underlying32 Tryz.underlying3 Tryz.underlying5 (by kernel_rfl) (by kernel_rfl) (by kernel_rfl) (of_decide_eq_true (by kernel_rfl)) ⟨fuel', t8.trans (by rfl)⟩
  exact ⟨a, rs, rfl, ha, hr⟩
end
end Go.Proofs.YtmcnpkfeipelgaaGreatDoor

/- ValueSame for attributes that came in -/
namespace Go.Proofs.YtmcnpkfeipelgaaGreatDoor
open Go.RowKit Go.Sort
set_option maxRecDepth 100000 in
theorem vsame_at (a a' : At) (rs rs' : List Rt) (w : World) (hin : AtIn w a) (hin' : AtIn w a') (hr : Routes w w.heap.size a.A4 a.n4 rs) (hr' : Routes w w.heap.size a'.A4 a'.n4 rs') :
    Calls Tryz.prog 4 #[.agg (atc a), .agg (atc a')] w fun e w' => e = .returned (.bool true) ∧ Below w.heap.size w w' := by
  obtain ⟨_, _, _, _, ⟨g1, g2, ss, g3⟩, ⟨_, _, ls, _, hl⟩, ⟨_, _, bs, hb⟩, _⟩ := hin
  obtain ⟨_, _, _, _, ⟨g1', g2', ss', g3'⟩, ⟨_, _, ls', _, hl'⟩, ⟨_, _, bs', hb'⟩, _⟩ := hin'
  exact vsame_walk a a' ss ss' ls bs ls' bs' rs rs' w ⟨g3, hl, hb, hr⟩ ⟨g3', hl', hb', hr'⟩ (Nat.le_trans g1 g2) (Nat.le_trans g1' g2')
end Go.Proofs.YtmcnpkfeipelgaaGreatDoor

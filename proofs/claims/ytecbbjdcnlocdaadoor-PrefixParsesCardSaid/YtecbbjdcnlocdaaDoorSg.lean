/- Segments of an attribute; an attribute that came in; peerageref06.Few -/
import Derived.Test.YtecbbjdcnlocdaaDoorAt
import Derived.Test.YtecbbjdcnlocdaaDoorLeaf
namespace Go.Proofs.YtecbbjdcnlocdaaDoor
open Go.ChangeShapes Go.WideShapes Go.ChangeAt Go.RowKit Go.Deep

/-- A segment with what its numbers are. -/
structure Sg where
  k : Int
  A : Option Addr
  n : Nat
  c : Nat
  xs : List Int
instance : Inhabited Sg := ⟨⟨0, none, 0, 0, []⟩⟩
def Segs (w : World) (B : Nat) (A : Option Addr) (n : Nat) (ss : List Sg) : Prop :=
  n = ss.length ∧ (∀ s ∈ ss, s.n ≤ s.c ∧ s.c ≤ maxLen ∧ (Lit.int .i64 s.k).wf = true ∧ (∀ x ∈ s.xs, 0 ≤ x ∧ x < 4294967296) ∧ U32s w B s.A s.n s.xs) ∧
  (ss = [] ∨ ∃ b o, A = some ⟨b, o, none⟩ ∧ b < B ∧ ∀ i s, ss[i]? = some s → w.cell? ⟨b, o + i * 2, none⟩ = some (.int .i64 s.k) ∧ w.cell? ⟨b, o + i * 2 + 1, none⟩ = some (.slice s.A s.n s.c))
def sgth (ss : List Sg) (k : Nat) : Sg := ss.getD k default
theorem sgth_some {ss : List Sg} {k : Nat} (h : k < ss.length) : ss[k]? = some (sgth ss k) := by simp [sgth, h]
theorem Segs.at_ {w : World} {B : Nat} {A : Option Addr} {n : Nat} {ss : List Sg} (h : Segs w B A n ss) {k : Nat} (hk : k < n) :
    ∃ b o, A = some ⟨b, o, none⟩ ∧ b < B ∧ w.cell? ⟨b, o + k * 2, none⟩ = some (.int .i64 (sgth ss k).k) ∧ w.cell? ⟨b, o + k * 2 + 1, none⟩ = some (.slice (sgth ss k).A (sgth ss k).n (sgth ss k).c) := by
  obtain ⟨hn, _, h0 | ⟨b, o, hA, hb, hc⟩⟩ := h
  · rw [h0] at hn; simp at hn; omega
  · exact ⟨b, o, hA, hb, hc k _ (sgth_some (by omega))⟩
theorem Segs.below {w w' : World} {B n : Nat} {A : Option Addr} {ss : List Sg} (h : Segs w B A n ss) (hb : Below B w w') : Segs w' B A n ss := by
  obtain ⟨hn, hs, h0⟩ := h
  refine ⟨hn, fun s m => ?_, ?_⟩
  · obtain ⟨a, b, c, d, e⟩ := hs s m
    exact ⟨a, b, c, d, e.below hb⟩
  · rcases h0 with h0 | ⟨b, o, hA, hB, hc⟩
    · exact .inl h0
    · refine .inr ⟨b, o, hA, hB, fun i s hi => ?_⟩
      have h2 := hc i s hi
      rw [hb.cell hB, hb.cell hB]
      exact h2
theorem Segs.more {w : World} {B B' n : Nat} {A : Option Addr} {ss : List Sg} (h : Segs w B A n ss) (hB : B ≤ B') : Segs w B' A n ss := by
  obtain ⟨hn, hs, h0⟩ := h
  refine ⟨hn, fun s m => ?_, ?_⟩
  · obtain ⟨a, b, c, d, e⟩ := hs s m
    exact ⟨a, b, c, d, e.more hB⟩
  · rcases h0 with h0 | ⟨b, o, hA, hb, hc⟩
    · exact .inl h0
    · exact .inr ⟨b, o, hA, by omega, hc⟩

section
variable {H : Type} {enc : TypeId × Value → H} {P : Program} {w : World} {spare : Nat → Bool} {held : Bool}
theorem u32s_of_trod {t e : TypeId} {v : Value} {fuel : Nat} {y : DataW H × List MemPlace} (ht : P.underlying t = some (.slice e)) (he : P.underlying e = some (.int .u32)) (hc : P.cellsOf e = 1)
    (h : DataW.trod enc P w 0 spare held fuel t [v] = some y) (hsp : ∀ b, spare b = true) : ∃ A n c xs, v = .slice A n c ∧ n ≤ c ∧ c ≤ maxLen ∧ (∀ x ∈ xs, 0 ≤ x ∧ x < 4294967296) ∧ U32s w w.heap.size A n xs := by
  rcases open_ints ht he hc h with ⟨hcs, _⟩ | ⟨a, len, cap, zs, hcs, _, hl, hm, hz, _, hcell, hwf⟩
  · simp at hcs
    subst hcs
    exact ⟨none, 0, 0, [], rfl, Nat.le_refl _, by unfold maxLen; omega, by simp, rfl, .inl rfl⟩
  · simp at hcs
    subst hcs
    rw [hsp, if_pos rfl] at hz
    refine ⟨_, _, _, zs.take len, rfl, hl, hm, fun x hx => wf_u32 (hwf x (List.mem_of_mem_take hx)), by simp; omega, ?_⟩
    refine shows_of_add fun i v hv => ?_
    rw [List.getElem?_map] at hv
    obtain ⟨x, hx, rfl⟩ := Option.map_eq_some_iff.1 hv
    rw [List.getElem?_take] at hx
    split at hx
    · have hi : i < zs.length := (List.getElem?_eq_some_iff.1 hx).1
      rw [hcell i hi]
      simp [List.getD, hx]
    · cases hx
theorem segs_of_trod {t e lt l2 q : TypeId} {v : Value} {fuel : Nat} {y : DataW H × List MemPlace} (ht : P.underlying t = some (.slice e)) (hc : P.cellsOf e = 2) (hi : P.underlying lt = some (.int .i64)) (hi2 : P.underlying l2 = some (.slice q)) (hq : P.underlying q = some (.int .u32)) (hcq : P.cellsOf q = 1)
    (h0 : leafAt P 3 e 0 = some lt) (h1 : leafAt P 3 e 1 = some l2) (h : DataW.trod enc P w 0 spare held fuel t [v] = some y) (hsp : ∀ b, spare b = true) :
    ∃ A n c ss, v = .slice A n c ∧ n ≤ c ∧ c ≤ maxLen ∧ Segs w w.heap.size A n ss := by
  rcases open_slice ht h with ⟨hcs, _⟩ | ⟨a, n, c, m, n', D, Pl, hcs, _, hl, hm, hmm, _, hx⟩
  · simp at hcs
    subst hcs
    exact ⟨none, 0, 0, [], rfl, Nat.le_refl _, by unfold maxLen; omega, rfl, by simp, .inl rfl⟩
  · simp at hcs
    subst hcs
    rw [hc] at hx
    have hmn : n ≤ m := by rw [hmm]; split <;> omega
    obtain ⟨l, hll, hlp⟩ := list_of (n := n) (p := fun i (z : Sg) => w.cell? (a.add (i * 2)) = some (.int .i64 z.k) ∧ w.cell? (a.add (i * 2 + 1)) = some (.slice z.A z.n z.c) ∧ z.n ≤ z.c ∧ z.c ≤ maxLen ∧ (Lit.int .i64 z.k).wf = true ∧ (∀ x ∈ z.xs, 0 ≤ x ∧ x < 4294967296) ∧ U32s w w.heap.size z.A z.n z.xs) (fun i hin => by
      obtain ⟨cs', hcells, htr⟩ := hx i (by omega)
      obtain ⟨hz2, _, hat⟩ := World.cells?_some hcells
      obtain ⟨x, hx0, hw0⟩ := leaf_int h0 hi htr
      have hlen : 1 < cs'.length := by first | omega | (have := (List.getElem?_eq_some_iff.1 hx0).1; omega)
      obtain ⟨f2, y2, hy2⟩ := leaf_any h1 htr (List.getElem?_eq_getElem hlen)
      obtain ⟨A, n2, c2, xs, hv, g1, g2, g3, g4⟩ := u32s_of_trod hi2 hq hcq hy2 hsp
      have hy0 : cs'[1]? = some (.slice A n2 c2) := by rw [List.getElem?_eq_getElem hlen, hv]
      have e0 := (hat 0 (by omega)).trans hx0
      have e1 := (hat 1 (by omega)).trans hy0
      rw [Go.Deep.add_add] at e0 e1
      exact ⟨⟨x, A, n2, c2, xs⟩, by simpa using e0, e1, g1, g2, hw0, g3, g4⟩)
    refine ⟨some a, n, c, l, rfl, hl, hm, hll.symm, fun s hs => ?_, ?_⟩
    · obtain ⟨i, hi⟩ := List.getElem?_of_mem hs
      exact (hlp i s hi).2.2
    · rcases l with _ | ⟨z, l⟩
      · exact .inl rfl
      · right
        have hz := (hlp 0 z rfl).1
        have hsp2 := World.cell?_spot hz
        have hlt := World.block_lt_of_cell? w _ hz
        obtain ⟨b, o, s⟩ := a
        have hs' : s = none := by simpa [Addr.add] using hsp2
        subst hs'
        refine ⟨b, o, rfl, by simpa [Addr.add] using hlt, fun i s hi => ?_⟩
        have := hlp i s hi
        rw [Addr.add_lit, Addr.add_lit] at this
        exact ⟨this.1, this.2.1⟩
theorem slice_of_trod {t e : TypeId} {v : Value} {fuel : Nat} {y : DataW H × List MemPlace} (ht : P.underlying t = some (.slice e)) (h : DataW.trod enc P w 0 spare held fuel t [v] = some y) : ∃ A n c, v = .slice A n c ∧ n ≤ c ∧ c ≤ maxLen := by
  rcases open_slice ht h with ⟨hcs, _⟩ | ⟨a, n, c, m, n', D, Pl, hcs, _, hl, hm, _⟩
  · simp at hcs
    exact ⟨none, 0, 0, hcs, Nat.le_refl _, by unfold maxLen; omega⟩
  · simp at hcs
    exact ⟨_, _, _, hcs, hl, hm⟩
theorem arr9 {C : Array Value} {x0 x1 x2 x3 x4 x5 x6 x7 x8 : Value} (h : C.size = 9) (h0 : C.toList[0]? = some x0) (h1 : C.toList[1]? = some x1) (h2 : C.toList[2]? = some x2) (h3 : C.toList[3]? = some x3) (h4 : C.toList[4]? = some x4) (h5 : C.toList[5]? = some x5) (h6 : C.toList[6]? = some x6) (h7 : C.toList[7]? = some x7) (h8 : C.toList[8]? = some x8) : C = #[x0, x1, x2, x3, x4, x5, x6, x7, x8] := by
  obtain ⟨l⟩ := C
  match l, h, h0, h1, h2, h3, h4, h5, h6, h7, h8 with
  | [a, b, c, d, e, f, g, i, j], _, h0, h1, h2, h3, h4, h5, h6, h7, h8 =>
    simp at h0 h1 h2 h3 h4 h5 h6 h7 h8
    subst h0 h1 h2 h3 h4 h5 h6 h7 h8
    rfl
/-- What is known of an attribute that came in. -/
def AtIn (w : World) (a : At) : Prop :=
  (Lit.int .i64 a.k).wf = true ∧ (0 ≤ a.N ∧ a.N < 4294967296) ∧ (0 ≤ a.M ∧ a.M < 4294967296) ∧ (Lit.int .i64 a.f).wf = true ∧
  (a.n1 ≤ a.c1 ∧ a.c1 ≤ maxLen ∧ ∃ ss, Segs w w.heap.size a.A1 a.n1 ss) ∧ (a.n2 ≤ a.c2 ∧ a.c2 ≤ maxLen ∧ ∃ xs, (∀ x ∈ xs, 0 ≤ x ∧ x < 4294967296) ∧ U32s w w.heap.size a.A2 a.n2 xs) ∧
  (a.n3 ≤ a.c3 ∧ a.c3 ≤ maxLen ∧ ∃ xs, Bytes w w.heap.size a.A3 a.n3 xs) ∧ (a.n4 ≤ a.c4 ∧ a.c4 ≤ maxLen)
set_option maxRecDepth 100000 in
theorem open_at {C : Array Value} {fuel : Nat} {x : DataW H × List MemPlace} (hz : C.size = Tryd.prog.cellsOf 55) (hx : DataW.trod enc Tryd.prog w 0 spare held fuel 55 C.toList = some x) (hsp : ∀ b, spare b = true) :
    ∃ a : At, C = atc a ∧ AtIn w a := by
  have hz9 : C.size = 9 := hz.trans (by kernel_rfl)
  have hll : ∀ i, i < 9 → ∃ v, C.toList[i]? = some v := fun i hi => ⟨C.toList[i]'(by rw [Array.length_toList]; omega), List.getElem?_eq_getElem _⟩
  obtain ⟨k, e0, w0⟩ := leaf_int (n := 5) (i := 0) (l := 3) (by kernel_rfl) Tryd.underlying3 hx
  obtain ⟨p, e1⟩ := leaf_bool (n := 5) (i := 1) (l := 4) (by kernel_rfl) Tryd.underlying4 hx
  obtain ⟨N, e2, w2⟩ := leaf_int (n := 5) (i := 2) (l := 51) (by kernel_rfl) Tryd.underlying51 hx
  obtain ⟨M, e3, w3⟩ := leaf_int (n := 5) (i := 3) (l := 51) (by kernel_rfl) Tryd.underlying51 hx
  obtain ⟨f, e7, w7⟩ := leaf_int (n := 5) (i := 7) (l := 3) (by kernel_rfl) Tryd.underlying3 hx
  obtain ⟨v4, e4⟩ := hll 4 (by omega)
  obtain ⟨v5, e5⟩ := hll 5 (by omega)
  obtain ⟨v6, e6⟩ := hll 6 (by omega)
  obtain ⟨v8, e8⟩ := hll 8 (by omega)
  obtain ⟨_, _, t4⟩ := leaf_any (n := 5) (i := 4) (l := 22) (by kernel_rfl) hx e4
  obtain ⟨_, _, t5⟩ := leaf_any (n := 5) (i := 5) (l := 52) (by kernel_rfl) hx e5
  obtain ⟨_, _, t6⟩ := leaf_any (n := 5) (i := 6) (l := 25) (by kernel_rfl) hx e6
  obtain ⟨_, _, t8⟩ := leaf_any (n := 5) (i := 8) (l := 53) (by kernel_rfl) hx e8
  obtain ⟨A1, n1, c1, ss, rfl, g1, g2, g3⟩ := segs_of_trod Tryd.underlying22 (by kernel_rfl) (lt := 3) Tryd.underlying3 (l2 := 52) Tryd.underlying52 Tryd.underlying51 (by kernel_rfl) (by kernel_rfl) (by kernel_rfl) t4 hsp
  obtain ⟨A2, n2, c2, ls, rfl, g4, g5, g6, g7⟩ := u32s_of_trod Tryd.underlying52 Tryd.underlying51 (by kernel_rfl) t5 hsp
  obtain ⟨A3, n3, c3, bs, rfl, g8, g9, g10⟩ := bytes_of_trod Tryd.underlying25 Tryd.underlying5 (by kernel_rfl) t6 hsp
  obtain ⟨A4, n4, c4, rfl, g11, g12⟩ := slice_of_trod Tryd.underlying53 t8
  exact ⟨⟨k, p, N, M, A1, n1, c1, A2, n2, c2, A3, n3, c3, f, A4, n4, c4⟩, arr9 hz9 e0 e1 e2 e3 e4 e5 e6 e7 e8, w0, wf_u32 w2, wf_u32 w3, w7, ⟨g1, g2, ss, g3⟩, ⟨g4, g5, ls, g6, g7⟩, ⟨g8, g9, bs, g10⟩, g11, g12⟩
end
end Go.Proofs.YtecbbjdcnlocdaaDoor

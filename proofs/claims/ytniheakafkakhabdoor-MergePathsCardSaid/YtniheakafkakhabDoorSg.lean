/- Segments of an attribute; an attribute that came in; peerageref06.Few -/
import Derived.Test.YtniheakafkakhabDoorAt
import Derived.Test.YtniheakafkakhabDoorLeaf
namespace Go.Proofs.YtniheakafkakhabDoor
open Go.ChangeShapes Go.WideShapes Go.ChangeAt Go.RowKit Go.Deep

/-- A segment with what its numbers are. -/
structure Sg where
  k : Int
  A : Option Addr
  n : Nat
  c : Nat
  xs : List Int
instance : Inhabited Sg := ⟨⟨0, none, 0, 0, []⟩⟩
def Segs (w : World) (B : Nat) (A : Option Addr) (n : Nat) (ss : List Sg) : Prop :=
  n = ss.length ∧ (∀ s ∈ ss, s.n ≤ s.c ∧ s.c ≤ maxLen ∧ (Lit.int .i64 s.k).wf = true ∧ (∀ x ∈ s.xs, 0 ≤ x ∧ x < 4294967296) ∧ U32s w B s.A s.n s.xs) ∧
  (ss = [] ∨ ∃ b o, A = some ⟨b, o, none⟩ ∧ b < B ∧ ∀ i s, ss[i]? = some s → w.cell? ⟨b, o + i * 2, none⟩ = some (.int .i64 s.k) ∧ w.cell? ⟨b, o + i * 2 + 1, none⟩ = some (.slice s.A s.n s.c))
def sgth (ss : List Sg) (k : Nat) : Sg := ss.getD k default
theorem sgth_some {ss : List Sg} {k : Nat} (h : k < ss.length) : ss[k]? = some (sgth ss k) := by simp [sgth, h]
theorem Segs.at_ {w : World} {B : Nat} {A : Option Addr} {n : Nat} {ss : List Sg} (h : Segs w B A n ss) {k : Nat} (hk : k < n) :
    ∃ b o, A = some ⟨b, o, none⟩ ∧ b < B ∧ w.cell? ⟨b, o + k * 2, none⟩ = some (.int .i64 (sgth ss k).k) ∧ w.cell? ⟨b, o + k * 2 + 1, none⟩ = some (.slice (sgth ss k).A (sgth ss k).n (sgth ss k).c) := by
  obtain ⟨hn, _, h0 | ⟨b, o, hA, hb, hc⟩⟩ := h
  · rw [h0] at hn; simp at hn; omega
  · exact ⟨b, o, hA, hb, hc k _ (sgth_some (by omega))⟩
theorem Segs.below {w w' : World} {B n : Nat} {A : Option Addr} {ss : List Sg} (h : Segs w B A n ss) (hb : Below B w w') : Segs w' B A n ss := by
  obtain ⟨hn, hs, h0⟩ := h
  refine ⟨hn, fun s m => ?_, ?_⟩
  · obtain ⟨a, b, c, d, e⟩ := hs s m
    exact ⟨a, b, c, d, e.below hb⟩
  · rcases h0 with h0 | ⟨b, o, hA, hB, hc⟩
    · exact .inl h0
    · refine .inr ⟨b, o, hA, hB, fun i s hi => ?_⟩
      have h2 := hc i s hi
      rw [hb.cell hB, hb.cell hB]
      exact h2
theorem Segs.more {w : World} {B B' n : Nat} {A : Option Addr} {ss : List Sg} (h : Segs w B A n ss) (hB : B ≤ B') : Segs w B' A n ss := by
  obtain ⟨hn, hs, h0⟩ := h
  refine ⟨hn, fun s m => ?_, ?_⟩
  · obtain ⟨a, b, c, d, e⟩ := hs s m
    exact ⟨a, b, c, d, e.more hB⟩
  · rcases h0 with h0 | ⟨b, o, hA, hb, hc⟩
    · exact .inl h0
    · exact .inr ⟨b, o, hA, by omega, hc⟩

section
variable {H : Type} {enc : TypeId × Value → H} {P : Program} {w : World} {spare : Nat → Bool} {held : Bool}
theorem u32s_of_trod {t e : TypeId} {v : Value} {fuel : Nat} {y : DataW H × List MemPlace} (ht : P.underlying t = some (.slice e)) (he : P.underlying e = some (.int .u32)) (hc : P.cellsOf e = 1)
    (h : DataW.trod enc P w 0 spare held fuel t [v] = some y) (hsp : ∀ b, spare b = true) : ∃ A n c xs, v = .slice A n c ∧ n ≤ c ∧ c ≤ maxLen ∧ (∀ x ∈ xs, 0 ≤ x ∧ x < 4294967296) ∧ U32s w w.heap.size A n xs := by
  rcases open_ints ht he hc h with ⟨hcs, _⟩ | ⟨a, len, cap, zs, hcs, _, hl, hm, hz, _, hcell, hwf⟩
  · simp at hcs
    subst hcs
    exact ⟨none, 0, 0, [], rfl, Nat.le_refl _, by unfold maxLen; omega, by simp, rfl, .inl rfl⟩
  · simp at hcs
    subst hcs
    rw [hsp, if_pos rfl] at hz
    refine ⟨_, _, _, zs.take len, rfl, hl, hm, fun x hx => wf_u32 (hwf x (List.mem_of_mem_take hx)), by simp; omega, ?_⟩
    refine shows_of_add fun i v hv => ?_
    rw [List.getElem?_map] at hv
    obtain ⟨x, hx, rfl⟩ := Option.map_eq_some_iff.1 hv
    rw [List.getElem?_take] at hx
    split at hx
    · have hi : i < zs.length := (List.getElem?_eq_some_iff.1 hx).1
      rw [hcell i hi]
      simp [List.getD, hx]
    · cases hx
theorem segs_of_trod {t e lt l2 q : TypeId} {v : Value} {fuel : Nat} {y : DataW H × List MemPlace} (ht : P.underlying t = some (.slice e)) (hc : P.cellsOf e = 2) (hi : P.underlying lt = some (.int .i64)) (hi2 : P.underlying l2 = some (.slice q)) (hq : P.underlying q = some (.int .u32)) (hcq : P.cellsOf q = 1)
    (h0 : leafAt P 3 e 0 = some lt) (h1 : leafAt P 3 e 1 = some l2) (h : DataW.trod enc P w 0 spare held fuel t [v] = some y) (hsp : ∀ b, spare b = true) :
    ∃ A n c ss, v = .slice A n c ∧ n ≤ c ∧ c ≤ maxLen ∧ Segs w w.heap.size A n ss := by
  rcases open_slice ht h with ⟨hcs, _⟩ | ⟨a, n, c, m, n', D, Pl, hcs, _, hl, hm, hmm, _, hx⟩
  · simp at hcs
    subst hcs
    exact ⟨none, 0, 0, [], rfl, Nat.le_refl _, by unfold maxLen; omega, rfl, by simp, .inl rfl⟩
  · simp at hcs
    subst hcs
    rw [hc] at hx
    have hmn : n ≤ m := by rw [hmm]; split <;> omega
    obtain ⟨l, hll, hlp⟩ := list_of (n := n) (p := fun i (z : Sg) => w.cell? (a.add (i * 2)) = some (.int .i64 z.k) ∧ w.cell? (a.add (i * 2 + 1)) = some (.slice z.A z.n z.c) ∧ z.n ≤ z.c ∧ z.c ≤ maxLen ∧ (Lit.int .i64 z.k).wf = true ∧ (∀ x ∈ z.xs, 0 ≤ x ∧ x < 4294967296) ∧ U32s w w.heap.size z.A z.n z.xs) (fun i hin => by
      obtain ⟨cs', hcells, htr⟩ := hx i (by omega)
      obtain ⟨hz2, _, hat⟩ := World.cells?_some hcells
      obtain ⟨x, hx0, hw0⟩ := leaf_int h0 hi htr
      have hlen : 1 < cs'.length := by first | omega | (have := (List.getElem?_eq_some_iff.1 hx0).1; omega)
      obtain ⟨f2, y2, hy2⟩ := leaf_any h1 htr (List.getElem?_eq_getElem hlen)
      obtain ⟨A, n2, c2, xs, hv, g1, g2, g3, g4⟩ := u32s_of_trod hi2 hq hcq hy2 hsp
      have hy0 : cs'[1]? = some (.slice A n2 c2) := by rw [List.getElem?_eq_getElem hlen, hv]
      have e0 := (hat 0 (by omega)).trans hx0
      have e1 := (hat 1 (by omega)).trans hy0
      rw [Go.Deep.add_add] at e0 e1
      exact ⟨⟨x, A, n2, c2, xs⟩, by simpa using e0, e1, g1, g2, hw0, g3, g4⟩)
    refine ⟨some a, n, c, l, rfl, hl, hm, hll.symm, fun s hs => ?_, ?_⟩
    · obtain ⟨i, hi⟩ := List.getElem?_of_mem hs
      exact (hlp i s hi).2.2
    · rcases l with _ | ⟨z, l⟩
      · exact .inl rfl
      · right
        have hz := (hlp 0 z rfl).1
        have hsp2 := World.cell?_spot hz
        have hlt := World.block_lt_of_cell? w _ hz
        obtain ⟨b, o, s⟩ := a
        have hs' : s = none := by simpa [Addr.add] using hsp2
        subst hs'
        refine ⟨b, o, rfl, by simpa [Addr.add] using hlt, fun i s hi => ?_⟩
        have := hlp i s hi
        rw [Addr.add_lit, Addr.add_lit] at this
        exact ⟨this.1, this.2.1⟩
theorem slice_of_trod {t e : TypeId} {v : Value} {fuel : Nat} {y : DataW H × List MemPlace} (ht : P.underlying t = some (.slice e)) (h : DataW.trod enc P w 0 spare held fuel t [v] = some y) : ∃ A n c, v = .slice A n c ∧ n ≤ c ∧ c ≤ maxLen := by
  rcases open_slice ht h with ⟨hcs, _⟩ | ⟨a, n, c, m, n', D, Pl, hcs, _, hl, hm, _⟩
  · simp at hcs
    exact ⟨none, 0, 0, hcs, Nat.le_refl _, by unfold maxLen; omega⟩
  · simp at hcs
    exact ⟨_, _, _, hcs, hl, hm⟩
theorem arr9 {C : Array Value} {x0 x1 x2 x3 x4 x5 x6 x7 x8 : Value} (h : C.size = 9) (h0 : C.toList[0]? = some x0) (h1 : C.toList[1]? = some x1) (h2 : C.toList[2]? = some x2) (h3 : C.toList[3]? = some x3) (h4 : C.toList[4]? = some x4) (h5 : C.toList[5]? = some x5) (h6 : C.toList[6]? = some x6) (h7 : C.toList[7]? = some x7) (h8 : C.toList[8]? = some x8) : C = #[x0, x1, x2, x3, x4, x5, x6, x7, x8] := by
  obtain ⟨l⟩ := C
  match l, h, h0, h1, h2, h3, h4, h5, h6, h7, h8 with
  | [a, b, c, d, e, f, g, i, j], _, h0, h1, h2, h3, h4, h5, h6, h7, h8 =>
    simp at h0 h1 h2 h3 h4 h5 h6 h7 h8
    subst h0 h1 h2 h3 h4 h5 h6 h7 h8
    rfl
/-- What is known of an attribute that came in. -/
def AtIn (w : World) (a : At) : Prop :=
  (Lit.int .i64 a.k).wf = true ∧ (0 ≤ a.N ∧ a.N < 4294967296) ∧ (0 ≤ a.M ∧ a.M < 4294967296) ∧ (Lit.int .i64 a.f).wf = true ∧
  (a.n1 ≤ a.c1 ∧ a.c1 ≤ maxLen ∧ ∃ ss, Segs w w.heap.size a.A1 a.n1 ss) ∧ (a.n2 ≤ a.c2 ∧ a.c2 ≤ maxLen ∧ ∃ xs, (∀ x ∈ xs, 0 ≤ x ∧ x < 4294967296) ∧ U32s w w.heap.size a.A2 a.n2 xs) ∧
  (a.n3 ≤ a.c3 ∧ a.c3 ≤ maxLen ∧ ∃ xs, Bytes w w.heap.size a.A3 a.n3 xs) ∧ (a.n4 ≤ a.c4 ∧ a.c4 ≤ maxLen)
end
end Go.Proofs.YtniheakafkakhabDoor

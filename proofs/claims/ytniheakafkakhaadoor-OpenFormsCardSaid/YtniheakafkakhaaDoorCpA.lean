/- capability: lists of capabilities in memory -/
import Derived.Test.YtniheakafkakhaaDoorLeaf
import Derived.Test.YtniheakafkakhaaDoorStructB
import Derived.Test.YtniheakafkakhaaDoorCat
import Derived.Test.YtniheakafkakhaaDoorApAt
namespace Go.Proofs.YtniheakafkakhaaDoor
open Go.ChangeShapes Go.WideShapes Go.ChangeAt Go.RowKit Go.Deep

/-- A capability with what its data are. -/
structure Cp where
  k : Int
  A : Option Addr
  n : Nat
  c : Nat
  xs : List Int
instance : Inhabited Cp := ⟨⟨0, none, 0, 0, []⟩⟩
def cpK (s : Cp) : Int × List Int := (s.k, s.xs)
def cpc (s : Cp) : Array Value := #[.int .i64 s.k, .slice s.A s.n s.c]
def Cp.Ok (w : World) (B : Nat) (s : Cp) : Prop := Bytes w B s.A s.n s.xs ∧ s.n ≤ s.c ∧ s.c ≤ maxLen
def Caps (w : World) (B : Nat) (A : Option Addr) (n : Nat) (ss : List Cp) : Prop :=
  n = ss.length ∧ (∀ s ∈ ss, s.Ok w B) ∧ (ss = [] ∨ ∃ b o, A = some ⟨b, o, none⟩ ∧ b < B ∧ ∀ i s, ss[i]? = some s → w.cell? ⟨b, o + i * 2, none⟩ = some (.int .i64 s.k) ∧ w.cell? ⟨b, o + i * 2 + 1, none⟩ = some (.slice s.A s.n s.c))
def cpth (ss : List Cp) (k : Nat) : Cp := ss.getD k default
theorem cpth_some {ss : List Cp} {k : Nat} (h : k < ss.length) : ss[k]? = some (cpth ss k) := by simp [cpth, h]
theorem cpth_mem {ss : List Cp} {k : Nat} (h : k < ss.length) : cpth ss k ∈ ss := List.mem_of_getElem? (cpth_some h)
theorem take_cpth {ss : List Cp} {k : Nat} (h : k < ss.length) : ss.take (k + 1) = ss.take k ++ [cpth ss k] := by rw [List.take_add_one, cpth_some h]; rfl
theorem Caps.at_ {w : World} {B : Nat} {A : Option Addr} {n : Nat} {ss : List Cp} (h : Caps w B A n ss) {k : Nat} (hk : k < n) :
    ∃ b o, A = some ⟨b, o, none⟩ ∧ b < B ∧ w.cell? ⟨b, o + k * 2, none⟩ = some (.int .i64 (cpth ss k).k) ∧ w.cell? ⟨b, o + k * 2 + 1, none⟩ = some (.slice (cpth ss k).A (cpth ss k).n (cpth ss k).c) := by
  obtain ⟨hn, _, h0 | ⟨b, o, hA, hb, hc⟩⟩ := h
  · rw [h0] at hn; simp at hn; omega
  · exact ⟨b, o, hA, hb, hc k _ (cpth_some (by omega))⟩
theorem Caps.ok {w : World} {B : Nat} {A : Option Addr} {n : Nat} {ss : List Cp} (h : Caps w B A n ss) {k : Nat} (hk : k < n) : (cpth ss k).Ok w B := h.2.1 _ (cpth_mem (by have := h.1; omega))
theorem Caps.below {w w' : World} {B n : Nat} {A : Option Addr} {ss : List Cp} (h : Caps w B A n ss) (hb : Below B w w') : Caps w' B A n ss := by
  obtain ⟨hn, hs, h0⟩ := h
  refine ⟨hn, fun s m => ⟨(hs s m).1.below hb, (hs s m).2⟩, ?_⟩
  rcases h0 with h0 | ⟨b, o, hA, hB, hc⟩
  · exact .inl h0
  · refine .inr ⟨b, o, hA, hB, fun i s hi => ?_⟩
    have h2 := hc i s hi
    rw [hb.cell hB, hb.cell hB]
    exact h2
theorem Caps.more {w : World} {B B' n : Nat} {A : Option Addr} {ss : List Cp} (h : Caps w B A n ss) (hB : B ≤ B') : Caps w B' A n ss := by
  obtain ⟨hn, hs, h0⟩ := h
  refine ⟨hn, fun s m => ⟨(hs s m).1.more hB, (hs s m).2⟩, ?_⟩
  rcases h0 with h0 | ⟨b, o, hA, hb, hc⟩
  · exact .inl h0
  · exact .inr ⟨b, o, hA, by omega, hc⟩
theorem Caps.step {w w' : World} {n : Nat} {A : Option Addr} {ss : List Cp} (h : Caps w w.heap.size A n ss) (hb : Below w.heap.size w w') : Caps w' w'.heap.size A n ss := (h.below hb).more hb.size
def cellsP (ss : List Cp) : List Value := ss.flatMap fun s => [.int .i64 s.k, .slice s.A s.n s.c]
theorem cellsP_get : ∀ {ss : List Cp} {i : Nat} {s : Cp}, ss[i]? = some s → (cellsP ss)[i * 2]? = some (.int .i64 s.k) ∧ (cellsP ss)[i * 2 + 1]? = some (.slice s.A s.n s.c)
  | [], i, s, h => by simp at h
  | x :: ss, 0, s, h => by
    simp only [List.getElem?_cons_zero, Option.some.injEq] at h
    subst h
    exact ⟨rfl, rfl⟩
  | x :: ss, i + 1, s, h => by
    rw [List.getElem?_cons_succ] at h
    obtain ⟨h1, h2⟩ := cellsP_get h
    have e : cellsP (x :: ss) = .int .i64 x.k :: .slice x.A x.n x.c :: cellsP ss := rfl
    rw [e, show (i + 1) * 2 = i * 2 + 1 + 1 by omega, List.getElem?_cons_succ, List.getElem?_cons_succ, List.getElem?_cons_succ, List.getElem?_cons_succ]
    exact ⟨h1, h2⟩
theorem cellsP_snoc (ss : List Cp) (s : Cp) : cellsP (ss ++ [s]) = cellsP ss ++ [.int .i64 s.k, .slice s.A s.n s.c] := by
  unfold cellsP
  rw [List.flatMap_append]; simp
theorem cellsP_take {ss : List Cp} {k : Nat} (h : k < ss.length) : cellsP (ss.take (k + 1)) = cellsP (ss.take k) ++ [.int .i64 (cpth ss k).k, .slice (cpth ss k).A (cpth ss k).n (cpth ss k).c] := by rw [take_cpth h, cellsP_snoc]
theorem oneP (k : Int) (A : Option Addr) (n c : Nat) : ∀ u ∈ [(.int .i64 k : Value), .slice A n c], u.oneCell' = true := by
  intro u hu
  simp only [List.mem_cons, List.not_mem_nil, or_false] at hu
  rcases hu with rfl | rfl <;> rfl
/-- A row that shows capabilities. -/
theorem caps_of_row {w : World} {base n c : Nat} {T : TypeId} {A : Option Addr} {ss : List Cp} (h : w.ownsRow base T 2 (.slice A n c) n (cellsP ss)) (hn : n = ss.length) (ho : ∀ s ∈ ss, s.Ok w w.heap.size) : Caps w w.heap.size A n ss := by
  refine ⟨hn, ho, ?_⟩
  rcases Shows.of_own h with h0 | ⟨b, o, hA, hb, hcell⟩
  · cases ss with
    | nil => exact .inl rfl
    | cons x r => simp [cellsP] at h0
  · exact .inr ⟨b, o, hA, hb, fun i s hi => ⟨hcell _ _ (cellsP_get hi).1, hcell _ _ (cellsP_get hi).2⟩⟩
set_option maxRecDepth 100000 in
theorem sl_cps : SliceOf Tryd.prog 25 83 2 32 := SliceOf.mk Tryd.underlying25 (z := .agg #[.int .i64 0, .slice none 0 0]) (by kernel_rfl) rfl (by decide)
set_option maxRecDepth 100000 in
theorem sl_rcps : SliceOf Tryd.prog 28 89 2 32 := SliceOf.mk Tryd.underlying28 (z := .agg #[.int .i64 0, .slice none 0 0]) (by kernel_rfl) rfl (by decide)
section
variable {H : Type} {enc : TypeId × Value → H} {w : World} {spare : Nat → Bool} {held : Bool}
theorem arr2p {C : Array Value} {x y : Value} (h : C.size = 2) (h0 : C.toList[0]? = some x) (h1 : C.toList[1]? = some y) : C = #[x, y] := by
  obtain ⟨l⟩ := C
  match l, h, h0, h1 with
  | [a, b], _, h0, h1 =>
    simp at h0 h1
    subst h0 h1
    rfl
set_option maxRecDepth 100000 in
theorem open_cp {C : Array Value} {fuel : Nat} {x : DataW H × List MemPlace} (hz : C.size = Tryd.prog.cellsOf 89) (hx : DataW.trod enc Tryd.prog w 0 spare held fuel 89 C.toList = some x) (hsp : ∀ b, spare b = true) :
    ∃ v : Cp, C = cpc v ∧ v.Ok w w.heap.size := by
  obtain ⟨k, e0, w0⟩ := leaf_int (n := 5) (i := 0) (l := 3) (by kernel_rfl) Tryd.underlying3 hx
  obtain ⟨A, n, cp, xs, e1, hl, hm, hb⟩ := leaf_bytes (n := 5) (i := 1) (l := 43) (by kernel_rfl) Tryd.underlying43 Tryd.underlying5 (by kernel_rfl) hx (by rw [Array.length_toList]; show 1 < C.size; rw [hz, show Tryd.prog.cellsOf 89 = 2 by kernel_rfl]; omega) hsp
  obtain rfl := arr2p (hz.trans (by kernel_rfl)) e0 e1
  exact ⟨⟨k, A, n, cp, xs⟩, rfl, hb, hl, hm⟩
set_option maxRecDepth 100000 in
theorem caps_of_trod {t : TypeId} {v : Value} {fuel : Nat} {y : DataW H × List MemPlace} (ht : Tryd.prog.underlying t = some (.slice 89)) (h : DataW.trod enc Tryd.prog w 0 spare held fuel t [v] = some y) (hsp : ∀ b, spare b = true) :
    ∃ A n c vs, v = .slice A n c ∧ n ≤ c ∧ c ≤ maxLen ∧ Caps w w.heap.size A n vs := by
  have hc : Tryd.prog.cellsOf 89 = 2 := by kernel_rfl
  rcases open_slice ht h with ⟨hcs, _⟩ | ⟨a, n, c, m, n', D, Pl, hcs, _, hl, hm, hmm, hyd, hx⟩
  · simp at hcs
    subst hcs
    exact ⟨none, 0, 0, [], rfl, Nat.le_refl _, by unfold maxLen; omega, ⟨rfl, by simp, .inl rfl⟩⟩
  · simp at hcs
    subst hcs
    rw [hc] at hx
    have hmn : n ≤ m := by rw [hmm]; split <;> omega
    obtain ⟨l, hll, hlp⟩ := list_of (n := n) (p := fun i (z : Cp) => (∀ j u, (cpc z).toList[j]? = some u → w.cell? ((a.add (i * 2)).add j) = some u) ∧ z.Ok w w.heap.size) (fun i hin => by
      obtain ⟨cs', hcells, htr⟩ := hx i (by omega)
      obtain ⟨_, hz2, hat⟩ := World.cells?_some hcells
      obtain ⟨z, hz, hi⟩ := open_cp (C := cs'.toArray) (by rw [hc]; simpa using hz2) htr hsp
      refine ⟨z, fun j u hu => ?_, hi⟩
      have e : (cpc z).toList = cs' := by rw [← hz]
      rw [e] at hu
      have hj : j < 2 := by have := (List.getElem?_eq_some_iff.1 hu).1; omega
      exact (hat j (by omega)).trans hu)
    refine ⟨some a, n, c, l, rfl, hl, hm, ⟨hll.symm, fun s hs => ?_, ?_⟩⟩
    · obtain ⟨i, hi⟩ := List.getElem?_of_mem hs
      exact (hlp i s hi).2
    · rcases l with _ | ⟨z, l⟩
      · exact .inl rfl
      · right
        have hz := (hlp 0 z rfl).1 0 _ rfl
        have hsp2 := World.cell?_spot hz
        have hlt := World.block_lt_of_cell? w _ hz
        obtain ⟨b, o, s⟩ := a
        have hs' : s = none := by simpa [Addr.add] using hsp2
        subst hs'
        refine ⟨b, o, rfl, by simpa [Addr.add] using hlt, fun i s hi => ?_⟩
        have h1 := (hlp i s hi).1 0 _ rfl
        have h2 := (hlp i s hi).1 1 _ rfl
        rw [Addr.add_lit, Addr.add_lit] at h1 h2
        exact ⟨h1, h2⟩
set_option maxRecDepth 100000 in
theorem open_caps {b0 : Nat} {r : Reach} {v : Value} {d : DataW H} {p : List MemPlace} (hv : Value.okWide Tryd.prog w r b0 28 v) (h : DataW.Trod enc Tryd.prog w 0 spare held 28 v d p) (hsp : ∀ b, spare b = true) :
    ∃ A n c ss, v = .slice A n c ∧ n ≤ c ∧ c ≤ maxLen ∧ Caps w w.heap.size A n ss := by
  obtain ⟨A, n, c, rfl⟩ := okWide_slice Tryd.underlying28 hv
  obtain ⟨fuel, hf⟩ := h
  exact caps_of_trod Tryd.underlying28 hf hsp
end
end Go.Proofs.YtniheakafkakhaaDoor

/- FrameMatches: operations that come in; the first loop's row of parts -/
import Derived.Test.YtgahjchngmojlabDoorFrMd
import Derived.Test.YtgahjchngmojlabDoorStructB
import Derived.Test.YtgahjchngmojlabDoorLeaf
namespace Go.Proofs.YtgahjchngmojlabDoor
open Go.ChangeShapes Go.WideShapes Go.ChangeAt Go.RowKit Go.Deep

/-- An operation. -/
structure Fop where
  k : Int
  A : Option Addr
  n : Nat
  c : Nat
  xs : List Int
  o : O6
def fop0 : Fop := ⟨0, none, 0, 0, [], o60⟩
instance : Inhabited Fop := ⟨fop0⟩
def fopc (p : Fop) : Array Value := #[.int .i64 p.k, .slice p.A p.n p.c, .bool p.o.a0, .bool p.o.a1, .bool p.o.a2, .bool p.o.a3, .bool p.o.a4, .bool p.o.a5]
def Fop.part (p : Fop) : Part := ⟨p.A, p.n, p.c, p.xs⟩
def Fop.Ok (w : World) (B : Nat) (p : Fop) : Prop := Bytes w B p.A p.n p.xs ∧ p.n ≤ p.c ∧ p.c ≤ maxLen
theorem Fop.Ok.below {w w' : World} {B : Nat} {v : Fop} (h : v.Ok w B) (hb : Below B w w') : v.Ok w' B := ⟨h.1.below hb, h.2⟩
theorem Fop.Ok.more {w : World} {B B' : Nat} {v : Fop} (h : v.Ok w B) (hB : B ≤ B') : v.Ok w B' := ⟨h.1.more hB, h.2⟩
/-- A list of operations. -/
def Fops (w : World) (B : Nat) (A : Option Addr) (n : Nat) (vs : List Fop) : Prop :=
  n = vs.length ∧ (∀ v ∈ vs, v.Ok w B) ∧ (vs = [] ∨ ∃ b o, A = some ⟨b, o, none⟩ ∧ b < B ∧ ∀ i v, vs[i]? = some v → w.rangeAt b (o + i * 8) (fopc v).toList)
theorem Fops.below {w w' : World} {B : Nat} {A : Option Addr} {n : Nat} {vs : List Fop} (h : Fops w B A n vs) (hb : Below B w w') : Fops w' B A n vs := by
  obtain ⟨hn, ho, hr⟩ := h
  refine ⟨hn, fun v hv => (ho v hv).below hb, ?_⟩
  rcases hr with h0 | ⟨b, o, rfl, hlt, hc⟩
  · exact .inl h0
  · exact .inr ⟨b, o, rfl, hlt, fun i v hi j u hu => (World.cell?_of_block (a := ⟨b, _, none⟩) (hb.block b hlt)).trans (hc i v hi j u hu)⟩
def nthO (vs : List Fop) (i : Nat) : Fop := vs.getD i fop0
theorem nthO_some {vs : List Fop} {i : Nat} (h : i < vs.length) : vs[i]? = some (nthO vs i) := by
  unfold nthO
  rw [List.getD_eq_getElem?_getD, List.getElem?_eq_getElem h]; rfl
theorem nthO_mem {vs : List Fop} {i : Nat} (h : i < vs.length) : nthO vs i ∈ vs := List.mem_of_getElem? (nthO_some h)
theorem take_nthO {vs : List Fop} {i : Nat} (h : i < vs.length) : vs.take (i + 1) = vs.take i ++ [nthO vs i] := by
  rw [List.take_add_one, nthO_some h]; rfl
theorem range8 {w : World} {b o : Nat} {v : Fop} (h : w.rangeAt b o (fopc v).toList) : w.cell? ⟨b, o, none⟩ = some (.int .i64 v.k) ∧ w.cell? ⟨b, o + 1, none⟩ = some (.slice v.A v.n v.c) ∧ w.cell? ⟨b, o + 2, none⟩ = some (.bool v.o.a0) ∧ w.cell? ⟨b, o + 3, none⟩ = some (.bool v.o.a1) ∧ w.cell? ⟨b, o + 4, none⟩ = some (.bool v.o.a2) ∧ w.cell? ⟨b, o + 5, none⟩ = some (.bool v.o.a3) ∧ w.cell? ⟨b, o + 6, none⟩ = some (.bool v.o.a4) ∧ w.cell? ⟨b, o + 7, none⟩ = some (.bool v.o.a5) :=
  ⟨h 0 _ rfl, h 1 _ rfl, h 2 _ rfl, h 3 _ rfl, h 4 _ rfl, h 5 _ rfl, h 6 _ rfl, h 7 _ rfl⟩
theorem Fops.at_ {w : World} {B : Nat} {A : Option Addr} {n : Nat} {vs : List Fop} (h : Fops w B A n vs) {i : Nat} (hi : i < n) :
    ∃ b o, A = some ⟨b, o, none⟩ ∧ b < B ∧ (nthO vs i).Ok w B ∧ w.rangeAt b (o + i * 8) (fopc (nthO vs i)).toList := by
  obtain ⟨hn, ho, h0 | ⟨b, o, hA, hb, hc⟩⟩ := h
  · subst h0; simp at hn; omega
  · have hi' : i < vs.length := by omega
    exact ⟨b, o, hA, hb, ho _ (nthO_mem hi'), hc i _ (nthO_some hi')⟩
theorem arr8 {C : Array Value} {x y z u v t r s : Value} (h : C.size = 8) (h0 : C.toList[0]? = some x) (h1 : C.toList[1]? = some y) (h2 : C.toList[2]? = some z) (h3 : C.toList[3]? = some u) (h4 : C.toList[4]? = some v) (h5 : C.toList[5]? = some t) (h6 : C.toList[6]? = some r) (h7 : C.toList[7]? = some s) : C = #[x, y, z, u, v, t, r, s] := by
  obtain ⟨l⟩ := C
  match l, h, h0, h1, h2, h3, h4, h5, h6, h7 with
  | [a, b, c, d, e, f, g, i], _, h0, h1, h2, h3, h4, h5, h6, h7 =>
    simp at h0 h1 h2 h3 h4 h5 h6 h7
    subst h0 h1 h2 h3 h4 h5 h6 h7
    rfl
section
variable {H : Type} {enc : TypeId × Value → H} {w : World} {spare : Nat → Bool} {held : Bool}
set_option maxRecDepth 100000 in
theorem open_fop {C : Array Value} {fuel : Nat} {x : DataW H × List MemPlace} (hz : C.size = Tryd.prog.cellsOf 28) (hx : DataW.trod enc Tryd.prog w 0 spare held fuel 28 C.toList = some x) (hsp : ∀ b, spare b = true) :
    ∃ v : Fop, C = fopc v ∧ v.Ok w w.heap.size := by
  obtain ⟨k, e0, w0⟩ := leaf_int (n := 5) (i := 0) (l := 3) (by kernel_rfl) Tryd.underlying3 hx
  obtain ⟨A, n, cp, xs, e1, hl, hm, hb⟩ := leaf_bytes (n := 5) (i := 1) (l := 26) (by kernel_rfl) Tryd.underlying26 Tryd.underlying5 (by kernel_rfl) hx (by rw [Array.length_toList]; show 1 < C.size; rw [hz, show Tryd.prog.cellsOf 28 = 8 by kernel_rfl]; omega) hsp
  obtain ⟨a0, e2⟩ := leaf_bool (n := 5) (i := 2) (l := 4) (by kernel_rfl) Tryd.underlying4 hx
  obtain ⟨a1, e3⟩ := leaf_bool (n := 5) (i := 3) (l := 4) (by kernel_rfl) Tryd.underlying4 hx
  obtain ⟨a2, e4⟩ := leaf_bool (n := 5) (i := 4) (l := 4) (by kernel_rfl) Tryd.underlying4 hx
  obtain ⟨a3, e5⟩ := leaf_bool (n := 5) (i := 5) (l := 4) (by kernel_rfl) Tryd.underlying4 hx
  obtain ⟨a4, e6⟩ := leaf_bool (n := 5) (i := 6) (l := 4) (by kernel_rfl) Tryd.underlying4 hx
  obtain ⟨a5, e7⟩ := leaf_bool (n := 5) (i := 7) (l := 4) (by kernel_rfl) Tryd.underlying4 hx
  obtain rfl := arr8 (hz.trans (by kernel_rfl)) e0 e1 e2 e3 e4 e5 e6 e7
  exact ⟨⟨k, A, n, cp, xs, ⟨a0, a1, a2, a3, a4, a5⟩⟩, rfl, hb, hl, hm⟩
set_option maxRecDepth 100000 in
theorem fops_of_trod {t : TypeId} {v : Value} {fuel : Nat} {y : DataW H × List MemPlace} (ht : Tryd.prog.underlying t = some (.slice 28)) (h : DataW.trod enc Tryd.prog w 0 spare held fuel t [v] = some y) (hsp : ∀ b, spare b = true) :
    ∃ A n c vs, v = .slice A n c ∧ n ≤ c ∧ c ≤ maxLen ∧ Fops w w.heap.size A n vs ∧ (n = 0 ∨ ∃ el sp, y.1 = .slice el sp ∧ el.length = n) := by
  have hc : Tryd.prog.cellsOf 28 = 8 := by kernel_rfl
  rcases open_slice ht h with ⟨hcs, _⟩ | ⟨a, n, c, m, n', D, Pl, hcs, _, hl, hm, hmm, hyd, hx⟩
  · simp at hcs
    subst hcs
    exact ⟨none, 0, 0, [], rfl, Nat.le_refl _, by unfold maxLen; omega, ⟨rfl, by simp, .inl rfl⟩, .inl rfl⟩
  · simp at hcs
    subst hcs
    rw [hc] at hx
    have hmn : n ≤ m := by rw [hmm]; split <;> omega
    obtain ⟨l, hll, hlp⟩ := list_of (n := n) (p := fun i (z : Fop) => (∀ j u, (fopc z).toList[j]? = some u → w.cell? ((a.add (i * 8)).add j) = some u) ∧ z.Ok w w.heap.size) (fun i hin => by
      obtain ⟨cs', hcells, htr⟩ := hx i (by omega)
      obtain ⟨_, hz2, hat⟩ := World.cells?_some hcells
      obtain ⟨z, hz, hi⟩ := open_fop (C := cs'.toArray) (by rw [hc]; simpa using hz2) htr hsp
      refine ⟨z, fun j u hu => ?_, hi⟩
      have e : (fopc z).toList = cs' := by rw [← hz]
      rw [e] at hu
      have hj : j < 8 := by have := (List.getElem?_eq_some_iff.1 hu).1; omega
      exact (hat j (by omega)).trans hu)
    refine ⟨some a, n, c, l, rfl, hl, hm, ⟨hll.symm, fun s hs => ?_, ?_⟩, .inr ⟨_, _, by rw [hyd], by simp⟩⟩
    · obtain ⟨i, hi⟩ := List.getElem?_of_mem hs
      exact (hlp i s hi).2
    · rcases l with _ | ⟨z, l⟩
      · exact .inl rfl
      · right
        have hz := (hlp 0 z rfl).1 0 _ rfl
        have hsp2 := World.cell?_spot hz
        have hlt := World.block_lt_of_cell? w _ hz
        obtain ⟨b, o, s⟩ := a
        have hs' : s = none := by simpa [Addr.add] using hsp2
        subst hs'
        refine ⟨b, o, rfl, by simpa [Addr.add] using hlt, fun i s hi j u hu => ?_⟩
        have := (hlp i s hi).1 j u hu
        rwa [Addr.add_lit, Addr.add_lit] at this
set_option maxRecDepth 100000 in
theorem open_fops {b0 : Nat} {r : Reach} {v : Value} {d : DataW H} {p : List MemPlace} (hv : Value.okWide Tryd.prog w r b0 24 v) (h : DataW.Trod enc Tryd.prog w 0 spare held 24 v d p) (hsp : ∀ b, spare b = true) :
    ∃ A n c ss, v = .slice A n c ∧ n ≤ c ∧ c ≤ maxLen ∧ Fops w w.heap.size A n ss ∧ (n = 0 ∨ ∃ el sp, d = .slice el sp ∧ el.length = n) := by
  obtain ⟨A, n, c, rfl⟩ := okWide_slice Tryd.underlying24 hv
  obtain ⟨fuel, hf⟩ := h
  exact fops_of_trod Tryd.underlying24 hf hsp
end
set_option maxRecDepth 100000 in
theorem sl_partsF : SliceOf Tryd.prog 25 26 1 24 := SliceOf.mk Tryd.underlying25 (z := .slice none 0 0) (by kernel_rfl) rfl (by decide)
def fpv (vs : List Fop) : List Value := vs.map (fun v => v.part.v)
/-- The row that the first loop makes shows the parts. -/
theorem parts_of_row {w : World} {base n c : Nat} {T : TypeId} {A : Option Addr} {vs : List Fop} (h : w.ownsRow base T 1 (.slice A n c) n (fpv vs)) (hn : n = vs.length) (ho : ∀ v ∈ vs, v.Ok w w.heap.size) : Parts w w.heap.size A n (vs.map Fop.part) := by
  refine ⟨by rw [List.length_map]; exact hn, fun p hp => ?_, ?_⟩
  · obtain ⟨v, hv, rfl⟩ := List.mem_map.1 hp
    exact (ho v hv).1
  · rw [List.map_map]
    exact Shows.of_own h
end Go.Proofs.YtgahjchngmojlabDoor

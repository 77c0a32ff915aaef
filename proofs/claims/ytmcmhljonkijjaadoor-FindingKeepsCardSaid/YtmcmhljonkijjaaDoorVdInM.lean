/- structs of a row, a verdict and verdicts as they come in (three texts in one, for a claim of many files) -/
import Derived.Test.YtmcmhljonkijjaaDoorLeaf
import Derived.Lib.SmallJoins
import Derived.Test.YtmcmhljonkijjaaDoorVd
namespace Go.Proofs.YtmcmhljonkijjaaDoor
open Go.ChangeShapes Go.WideShapes Go.ChangeAt Go.RowKit Go.Deep

theorem arr3 {C : Array Value} {x y z : Value} (h : C.size = 3) (h0 : C.toList[0]? = some x) (h1 : C.toList[1]? = some y) (h2 : C.toList[2]? = some z) : C = #[x, y, z] := by
  obtain ⟨l⟩ := C
  match l, h, h0, h1, h2 with
  | [a, b, c], _, h0, h1, h2 =>
    simp at h0 h1 h2
    subst h0 h1 h2
    rfl
theorem arr6 {C : Array Value} {x y z u v t : Value} (h : C.size = 6) (h0 : C.toList[0]? = some x) (h1 : C.toList[1]? = some y) (h2 : C.toList[2]? = some z) (h3 : C.toList[3]? = some u) (h4 : C.toList[4]? = some v) (h5 : C.toList[5]? = some t) : C = #[x, y, z, u, v, t] := by
  obtain ⟨l⟩ := C
  match l, h, h0, h1, h2, h3, h4, h5 with
  | [a, b, c, d, e, f], _, h0, h1, h2, h3, h4, h5 =>
    simp at h0 h1 h2 h3 h4 h5
    subst h0 h1 h2 h3 h4 h5
    rfl
end Go.Proofs.YtmcmhljonkijjaaDoor
namespace Go.Proofs.YtmcmhljonkijjaaDoor
open Go.ChangeShapes Go.WideShapes Go.ChangeAt Go.RowKit Go.Deep

section
variable {H : Type} {enc : TypeId × Value → H} {P : Program} {w : World} {spare : Nat → Bool} {held : Bool}
theorem leaf_bytes {n : Nat} {t : TypeId} {i : Nat} {l q : TypeId} (hl : leafAt P n t i = some l) (he : P.underlying l = some (.slice q)) (hq : P.underlying q = some (.int .u8)) (hc : P.cellsOf q = 1) {fuel : Nat} {cs : List Value} {x : DataW H × List MemPlace}
    (hx : DataW.trod enc P w 0 spare held fuel t cs = some x) (hi : i < cs.length) (hsp : ∀ b, spare b = true) :
    ∃ A n c xs, cs[i]? = some (.slice A n c) ∧ n ≤ c ∧ c ≤ maxLen ∧ Bytes w w.heap.size A n xs := by
  obtain ⟨f, y, hy⟩ := leaf_any hl hx (List.getElem?_eq_getElem hi)
  obtain ⟨A, n, c, xs, hv, h1, h2, h3⟩ := bytes_of_trod he hq hc hy hsp
  exact ⟨A, n, c, xs, by rw [List.getElem?_eq_getElem hi, hv], h1, h2, h3⟩
end
theorem arr5 {C : Array Value} {x y z u v : Value} (h : C.size = 5) (h0 : C.toList[0]? = some x) (h1 : C.toList[1]? = some y) (h2 : C.toList[2]? = some z) (h3 : C.toList[3]? = some u) (h4 : C.toList[4]? = some v) : C = #[x, y, z, u, v] := by
  obtain ⟨l⟩ := C
  match l, h, h0, h1, h2, h3, h4 with
  | [a, b, c, d, e], _, h0, h1, h2, h3, h4 =>
    simp at h0 h1 h2 h3 h4
    subst h0 h1 h2 h3 h4
    rfl
end Go.Proofs.YtmcmhljonkijjaaDoor
namespace Go.Proofs.YtmcmhljonkijjaaDoor
open Go.ChangeShapes Go.WideShapes Go.ChangeAt Go.RowKit Go.Deep

instance : Inhabited Vd := ⟨vd0⟩
section
variable {H : Type} {enc : TypeId × Value → H} {w : World} {spare : Nat → Bool} {held : Bool}
set_option maxRecDepth 100000 in
theorem open_vd {C : Array Value} {fuel : Nat} {x : DataW H × List MemPlace} (hz : C.size = Tryd.prog.cellsOf 40) (hx : DataW.trod enc Tryd.prog w 0 spare held fuel 40 C.toList = some x) (hsp : ∀ b, spare b = true) :
    ∃ v : Vd, C = vdc v ∧ v.Ok w w.heap.size := by
  obtain ⟨k, e0, w0⟩ := leaf_int (n := 5) (i := 0) (l := 3) (by kernel_rfl) Tryd.underlying3 hx
  obtain ⟨c, e1, w1⟩ := leaf_int (n := 5) (i := 1) (l := 3) (by kernel_rfl) Tryd.underlying3 hx
  obtain ⟨s, e2, w2⟩ := leaf_int (n := 5) (i := 2) (l := 3) (by kernel_rfl) Tryd.underlying3 hx
  obtain ⟨t, e4, w4⟩ := leaf_int (n := 5) (i := 4) (l := 3) (by kernel_rfl) Tryd.underlying3 hx
  obtain ⟨A, n, cp, xs, e3, hl, hm, hb⟩ := leaf_bytes (n := 5) (i := 3) (l := 38) (by kernel_rfl) Tryd.underlying38 Tryd.underlying5 (by kernel_rfl) hx (by rw [Array.length_toList]; show 3 < C.size; rw [hz, show Tryd.prog.cellsOf 40 = 5 by kernel_rfl]; omega) hsp
  obtain rfl := arr5 (hz.trans (by kernel_rfl)) e0 e1 e2 e3 e4
  exact ⟨⟨k, c, s, A, n, cp, xs, t⟩, rfl, hb, Nat.le_trans hl hm, (wf_i64 w4).2⟩
set_option maxRecDepth 100000 in
theorem vds_of_trod {t : TypeId} {v : Value} {fuel : Nat} {y : DataW H × List MemPlace} (ht : Tryd.prog.underlying t = some (.slice 40)) (h : DataW.trod enc Tryd.prog w 0 spare held fuel t [v] = some y) (hsp : ∀ b, spare b = true) :
    ∃ A n c vs, v = .slice A n c ∧ n ≤ c ∧ c ≤ maxLen ∧ Vds w w.heap.size A n vs := by
  have hc : Tryd.prog.cellsOf 40 = 5 := by kernel_rfl
  rcases open_slice ht h with ⟨hcs, _⟩ | ⟨a, n, c, m, n', D, Pl, hcs, _, hl, hm, hmm, _, hx⟩
  · simp at hcs
    subst hcs
    exact ⟨none, 0, 0, [], rfl, Nat.le_refl _, by unfold maxLen; omega, rfl, by simp, .inl rfl⟩
  · simp at hcs
    subst hcs
    rw [hc] at hx
    have hmn : n ≤ m := by rw [hmm]; split <;> omega
    obtain ⟨l, hll, hlp⟩ := list_of (n := n) (p := fun i (z : Vd) => (∀ j u, (vdc z).toList[j]? = some u → w.cell? ((a.add (i * 5)).add j) = some u) ∧ z.Ok w w.heap.size) (fun i hin => by
      obtain ⟨cs', hcells, htr⟩ := hx i (by omega)
      obtain ⟨_, hz2, hat⟩ := World.cells?_some hcells
      obtain ⟨z, hz, hi⟩ := open_vd (C := cs'.toArray) (by rw [hc]; simpa using hz2) htr hsp
      refine ⟨z, fun j u hu => ?_, hi⟩
      have e : (vdc z).toList = cs' := by rw [← hz]
      rw [e] at hu
      have hj : j < 5 := by have := (List.getElem?_eq_some_iff.1 hu).1; omega
      exact (hat j (by omega)).trans hu)
    refine ⟨some a, n, c, l, rfl, hl, hm, hll.symm, fun s hs => ?_, ?_⟩
    · obtain ⟨i, hi⟩ := List.getElem?_of_mem hs
      exact (hlp i s hi).2
    · rcases l with _ | ⟨z, l⟩
      · exact .inl rfl
      · right
        have hz := (hlp 0 z rfl).1 0 _ rfl
        have hsp2 := World.cell?_spot hz
        have hlt := World.block_lt_of_cell? w _ hz
        obtain ⟨b, o, s⟩ := a
        have hs' : s = none := by simpa [Addr.add] using hsp2
        subst hs'
        refine ⟨b, o, rfl, by simpa [Addr.add] using hlt, fun i s hi j u hu => ?_⟩
        have := (hlp i s hi).1 j u hu
        rwa [Addr.add_lit, Addr.add_lit] at this
end
end Go.Proofs.YtmcmhljonkijjaaDoor

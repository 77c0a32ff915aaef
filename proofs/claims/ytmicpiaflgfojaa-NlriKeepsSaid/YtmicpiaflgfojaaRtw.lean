/- the leaf of a list of routes whose numbers are numbers of their types -/
import Derived.Test.YtmicpiaflgfojaaLeaf
import Derived.Test.YtmicpiaflgfojaaRk
namespace Go.Proofs.Ytmicpiaflgfojaa
open Go.ChangeShapes Go.WideShapes Go.ChangeAt Go.RowKit Go.Deep
variable {P : Program} {w : World} {H : Type} {enc : TypeId × Value → H} {spare : Nat → Bool} {held : Bool}
instance : Inhabited Rt := ⟨rt0⟩
theorem open_routesW {t e t4 t8 t1 : TypeId} {b0 : Nat} {r : Reach} {v : Value} {d : DataW H} {p : List MemPlace} (ht : P.underlying t = some (.slice e)) (hc : P.cellsOf e = 19) (hi4 : P.underlying t4 = some (.int .u32)) (hi8 : P.underlying t8 = some (.int .i64)) (hi1 : P.underlying t1 = some (.int .u8))
    (h0 : leafAt P 5 e 0 = some t4) (h1 : leafAt P 5 e 1 = some t8) (h2 : leafAt P 5 e 2 = some t8) (hu : ∀ j, j < 16 → leafAt P 5 e (3 + j) = some t1) (hv : Value.okWide P w r b0 t v) (h : DataW.Trod enc P w 0 spare held t v d p) :
    ∃ A n c l, v = .slice A n c ∧ n ≤ c ∧ c ≤ maxLen ∧ Routes w w.heap.size A n l ∧ ∀ q ∈ l, KR q := by
  obtain ⟨A, n, c, rfl⟩ := okWide_slice ht hv
  obtain ⟨fuel, hf⟩ := h
  rcases open_slice ht hf with ⟨hcs, _⟩ | ⟨a, len, cap, m, n', D, Pl, hcs, _, hl, hm, hmm, _, hx⟩
  · simp [Value.cells] at hcs
    obtain ⟨rfl, rfl, rfl⟩ := hcs
    exact ⟨none, 0, 0, [], rfl, Nat.le_refl _, by unfold maxLen; omega, ⟨rfl, by simp, .inl rfl⟩, by simp⟩
  · simp [Value.cells] at hcs
    obtain ⟨rfl, rfl, rfl⟩ := hcs
    rw [hc] at hx
    have hmn : n ≤ m := by rw [hmm]; split <;> omega
    obtain ⟨l, hll, hlp⟩ := list_of (n := n) (p := fun i (z : Rt) => (z.Ok ∧ KR z) ∧ ∀ j u, (rt z).toList[j]? = some u → w.cell? (a.add (i * 19 + j)) = some u) (fun i hin => by
      obtain ⟨cs', hcells, htr⟩ := hx i (by omega)
      obtain ⟨_, _, hat⟩ := World.cells?_some hcells
      obtain ⟨x, hx0, hw0⟩ := leaf_int h0 hi4 htr
      obtain ⟨y, hy0, hw1⟩ := leaf_int h1 hi8 htr
      obtain ⟨z, hz0, hw2⟩ := leaf_int h2 hi8 htr
      obtain ⟨us, hus, hup⟩ := list_of (n := 16) (p := fun j (q : Int) => cs'[3 + j]? = some (.int .u8 q) ∧ (Lit.int .u8 q).wf = true) (fun j hj => leaf_int (hu j hj) hi1 htr)
      have hur : ∀ q ∈ us, 0 ≤ q ∧ q ≤ 255 := fun q hq => by
        obtain ⟨j, hj⟩ := List.getElem?_of_mem hq
        exact wf_u8 (hup j q hj).2
      have hxr : 0 ≤ x ∧ x ≤ 4294967295 := by
        have := wf_u32 hw0
        omega
      refine ⟨⟨x, y, z, us⟩, ⟨⟨⟨hus, hur⟩, hxr⟩, hw1, hw2⟩, fun j u hj => ?_⟩
      have hjl : j < 19 := by
        have := (List.getElem?_eq_some_iff.1 hj).1
        rw [Array.length_toList, rt_size hus] at this
        exact this
      have hcj : cs'[j]? = some u := by
        rw [Array.getElem?_toList] at hj
        match j, hj with
        | 0, hj => rw [rt_0] at hj; rw [← hj]; exact hx0
        | 1, hj => rw [rt_1] at hj; rw [← hj]; exact hy0
        | 2, hj => rw [rt_2] at hj; rw [← hj]; exact hz0
        | j + 3, hj =>
          rw [show j + 3 = 1 + (2 + j) by omega, rt_at, pfx_at, arr_get (by show j < us.length; omega)] at hj
          rw [← hj, show j + 3 = 3 + j by omega]
          exact (hup j _ (nth_some (by omega))).1
      have g := (hat j (by omega)).trans hcj
      rw [Go.Deep.add_add] at g
      exact g)
    refine ⟨some a, n, c, l, rfl, hl, hm, ⟨hll.symm, fun q hq => ?_, ?_⟩, fun q hq => ?_⟩
    · obtain ⟨i, hi⟩ := List.getElem?_of_mem hq
      exact (hlp i q hi).1.1
    · rcases l with _ | ⟨z, l⟩
      · exact .inl rfl
      · right
        have hz := (hlp 0 z rfl).2 0 _ (by rw [Array.getElem?_toList]; exact rt_0 z)
        have hsp := World.cell?_spot hz
        have hlt := World.block_lt_of_cell? w _ hz
        obtain ⟨b, o, s⟩ := a
        have hs' : s = none := by simpa [Addr.add] using hsp
        subst hs'
        refine ⟨b, o, rfl, by simpa [Addr.add] using hlt, fun i q hi j u hu => ?_⟩
        have := (hlp i q hi).2 j u hu
        rw [Addr.add_lit, ← Nat.add_assoc] at this
        exact this
    · obtain ⟨i, hi⟩ := List.getElem?_of_mem hq
      exact (hlp i q hi).1.2
end Go.Proofs.Ytmicpiaflgfojaa

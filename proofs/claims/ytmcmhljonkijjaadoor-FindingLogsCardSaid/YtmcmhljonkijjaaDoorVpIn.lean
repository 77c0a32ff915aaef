/- Lists of lists of verdicts that came in -/
import Derived.Test.YtmcmhljonkijjaaDoorVdInM
import Derived.Test.YtmcmhljonkijjaaDoorFoE
namespace Go.Proofs.YtmcmhljonkijjaaDoor
open Go.ChangeShapes Go.WideShapes Go.ChangeAt Go.RowKit Go.Deep

instance : Inhabited VPart := ⟨⟨none, 0, 0, []⟩⟩
section
variable {H : Type} {enc : TypeId × Value → H} {w : World} {spare : Nat → Bool} {held : Bool}
set_option maxRecDepth 100000 in
theorem open_vparts {b0 : Nat} {r : Reach} {v : Value} {d : DataW H} {p : List MemPlace} (hv : Value.okWide Tryd.prog w r b0 31 v) (h : DataW.Trod enc Tryd.prog w 0 spare held 31 v d p) (hsp : ∀ b, spare b = true) :
    ∃ A n c ps, v = .slice A n c ∧ n ≤ c ∧ c ≤ maxLen ∧ VParts w w.heap.size A n ps ∧ ∀ p ∈ ps, p.n ≤ p.c ∧ p.c ≤ maxLen := by
  obtain ⟨A, n, c, rfl⟩ := okWide_slice Tryd.underlying31 hv
  obtain ⟨fuel, hf⟩ := h
  rcases open_slice1 Tryd.underlying31 (by kernel_rfl) hf with ⟨hcs, _⟩ | ⟨a, len, cap, m, n', V, D, Pl, hcs, _, hl, hm, hmm, _, hx⟩
  · simp [Value.cells] at hcs
    obtain ⟨rfl, rfl, rfl⟩ := hcs
    exact ⟨none, 0, 0, [], rfl, Nat.le_refl _, by unfold maxLen; omega, ⟨rfl, by simp, .inl rfl⟩, by simp⟩
  · simp [Value.cells] at hcs
    obtain ⟨rfl, rfl, rfl⟩ := hcs
    have hmn : n ≤ m := by rw [hmm]; split <;> omega
    obtain ⟨l, hll, hlp⟩ := list_of (n := n) (p := fun i (z : VPart) => w.cell? (a.add i) = some z.v ∧ z.n ≤ z.c ∧ z.c ≤ maxLen ∧ z.ok w w.heap.size) (fun i hin => by
      obtain ⟨hcell, htr⟩ := hx i (by omega)
      obtain ⟨A, n, c, xs, hv, h1, h2, h3⟩ := vds_of_trod Tryd.underlying34 htr hsp
      exact ⟨⟨A, n, c, xs⟩, by rw [hcell, hv]; rfl, h1, h2, h3⟩)
    refine ⟨some a, n, c, l, rfl, hl, hm, ⟨hll.symm, fun p hp => ?_, shows_of_add fun i v hv => ?_⟩, fun p hp => ?_⟩
    · obtain ⟨i, hi⟩ := List.getElem?_of_mem hp
      exact (hlp i p hi).2.2.2
    · rw [List.getElem?_map] at hv
      obtain ⟨x, hx, rfl⟩ := Option.map_eq_some_iff.1 hv
      exact (hlp i x hx).1
    · obtain ⟨i, hi⟩ := List.getElem?_of_mem hp
      exact ⟨(hlp i p hi).2.1, (hlp i p hi).2.2.1⟩
end
end Go.Proofs.YtmcmhljonkijjaaDoor

/- What a tied row's condition gives the walks that write numbers and look into the table of flag's names; a list of integers that comes in -/
import Derived.Test.YtngeldgohijheaaDoorTiedT
import Derived.Test.YtngeldgohijheaaDoorFnL
import Derived.Test.YtngeldgohijheaaDoorLeaf
import Derived.Test.YtngeldgohijheaaDoorOpen
namespace Go.Proofs.YtngeldgohijheaaDoor
open Go.ChangeShapes Go.WideShapes Go.ChangeAt Go.RowKit Go.Deep

set_option maxRecDepth 100000 in
theorem fnames_of {l : List (String × DataW Unit)} {W : World} (h : laidMetH Tryd.prog l W) (hp : (l.all fun x => x.2.handleName?.isNone) = true) (hm : ("peerage/flag.names", Rows.laid_peerage_flag_names) ∈ l) : FNames W := by
  rw [MakeChecks.laidMetH_plain _ _ _ hp] at h
  have hc := laid_cells h hm (g := 0) (t := 81) (by kernel_rfl) (by kernel_rfl) 5 (vals := FNT.map Value.string) (by kernel_rfl)
  refine ⟨fun k hk => ?_, World.block_lt_of_cell? W _ (hc 0 _ rfl)⟩
  refine hc k _ ?_
  have hl : FNT.length = 33 := by decide +kernel
  rw [List.getElem?_map, List.getElem?_eq_getElem (by rw [hl]; exact hk), Option.map_some]
  unfold fnAt
  simp [List.getD, List.getElem?_eq_getElem (show k < FNT.length by rw [hl]; exact hk)]
set_option maxRecDepth 100000 in
theorem fn_of {l : List (String × DataW Unit)} {W : World} (h : laidMetH Tryd.prog l W) (hp : (l.all fun x => x.2.handleName?.isNone) = true) (hm : ("internal/strconv.uint64pow10", Rows.laid_internal_strconv_uint64pow10) ∈ l) (hn : ("peerage/flag.names", Rows.laid_peerage_flag_names) ∈ l) : Tens W ∧ FNames W :=
  ⟨tens_of h hp hm, fnames_of h hp hn⟩
section
variable {H : Type} {enc : TypeId × Value → H} {P : Program} {w : World} {spare : Nat → Bool} {held : Bool}
theorem i64s_of_trod {t e : TypeId} {v : Value} {fuel : Nat} {y : DataW H × List MemPlace} (ht : P.underlying t = some (.slice e)) (he : P.underlying e = some (.int .i64)) (hc : P.cellsOf e = 1)
    (h : DataW.trod enc P w 0 spare held fuel t [v] = some y) (hsp : ∀ b, spare b = true) : ∃ A n c xs, v = .slice A n c ∧ n ≤ c ∧ c ≤ maxLen ∧ I64s w w.heap.size A n xs := by
  rcases open_ints ht he hc h with ⟨hcs, _⟩ | ⟨a, len, cap, zs, hcs, _, hl, hm, hz, _, hcell, hwf⟩
  · simp at hcs
    subst hcs
    exact ⟨none, 0, 0, [], rfl, Nat.le_refl _, by unfold maxLen; omega, rfl, .inl rfl⟩
  · simp at hcs
    subst hcs
    rw [hsp, if_pos rfl] at hz
    refine ⟨_, _, _, zs.take len, rfl, hl, hm, by simp; omega, ?_⟩
    refine shows_of_add fun i v hv => ?_
    rw [List.getElem?_map] at hv
    obtain ⟨x, hx, rfl⟩ := Option.map_eq_some_iff.1 hv
    rw [List.getElem?_take] at hx
    split at hx
    · have hi : i < zs.length := (List.getElem?_eq_some_iff.1 hx).1
      rw [hcell i hi]
      simp [List.getD, hx]
    · cases hx
end
end Go.Proofs.YtngeldgohijheaaDoor

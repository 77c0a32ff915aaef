/- What a tied row's condition gives the walks of layer 6; segments that come in -/
import Derived.Test.YtecbbjdcnlocdaaDoorTiedTM
import Derived.Test.YtecbbjdcnlocdaaDoorSgD
namespace Go.Proofs.YtecbbjdcnlocdaaDoor
open Go.ChangeShapes Go.WideShapes Go.RowKit

set_option maxRecDepth 100000 in
theorem tb_of {l : List (String × DataW Unit)} {W : World} (h : laidMetH Tryd.prog l W) (hp : (l.all fun x => x.2.handleName?.isNone) = true) (h1 : ("internal/strconv.uint64pow10", Rows.laid_internal_strconv_uint64pow10) ∈ l) (hm : ("peerage/segment.brackets", Rows.laid_peerage_segment_brackets) ∈ l) : Tens W ∧ Brk W := by
  refine ⟨tens_of h hp h1, ?_⟩
  rw [MakeChecks.laidMetH_plain _ _ _ hp] at h
  have hc := laid_cells h hm (g := 0) (t := 70) (by kernel_rfl) (by kernel_rfl) 5 (vals := [.string ⟨#[]⟩, .string ⟨#[123, 125]⟩, .string ⟨#[91, 93]⟩]) (by kernel_rfl)
  have h0 := hc 1 _ rfl
  exact ⟨h0, hc 2 _ rfl, World.block_lt_of_cell? W _ h0⟩
section
variable {H : Type} {enc : TypeId × Value → H} {w : World} {spare : Nat → Bool} {held : Bool}
set_option maxRecDepth 100000 in
theorem open_segs {b0 : Nat} {r : Reach} {v : Value} {d : DataW H} {p : List MemPlace} (hv : Value.okWide Tryd.prog w r b0 22 v) (h : DataW.Trod enc Tryd.prog w 0 spare held 22 v d p) (hsp : ∀ b, spare b = true) :
    ∃ A n c ss, v = .slice A n c ∧ n ≤ c ∧ c ≤ maxLen ∧ Segs w w.heap.size A n ss := by
  obtain ⟨A, n, c, rfl⟩ := okWide_slice Tryd.underlying22 hv
  obtain ⟨fuel, hf⟩ := h
  exact segs_of_trod Tryd.underlying22 (by kernel_rfl) Tryd.underlying3 Tryd.underlying52 Tryd.underlying51 (by kernel_rfl) (by kernel_rfl) (by kernel_rfl) hf hsp
end
end Go.Proofs.YtecbbjdcnlocdaaDoor

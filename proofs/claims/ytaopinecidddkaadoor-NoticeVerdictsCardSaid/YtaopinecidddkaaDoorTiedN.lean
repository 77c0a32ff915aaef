/- What a tied row's condition gives the walks that write numbers and look into the table of names -/
import Derived.Test.YtaopinecidddkaaDoorTiedT
import Derived.Test.YtaopinecidddkaaDoorNtF
namespace Go.Proofs.YtaopinecidddkaaDoor
open Go.ChangeShapes Go.WideShapes Go.RowKit

set_option maxRecDepth 100000 in
theorem names_of {l : List (String × DataW Unit)} {W : World} (h : laidMetH Tryd.prog l W) (hp : (l.all fun x => x.2.handleName?.isNone) = true) (hm : ("peerage/notice.names", Rows.laid_peerage_notice_names) ∈ l) : NNames W := by
  rw [MakeChecks.laidMetH_plain _ _ _ hp] at h
  have hc := laid_cells h hm (g := 3) (t := 153) (by kernel_rfl) (by kernel_rfl) 5 (vals := NT.flatten.map Value.string) (by kernel_rfl)
  have hk : ∀ (c : Fin 7) (j : Fin 12), NT.flatten[c.val * 12 + j.val]? = (NT.getD c.val [])[j.val]? := by decide +kernel
  have hlen : ∀ c : Fin 7, (NT.getD c.val []).length = 12 := by decide +kernel
  refine ⟨fun c h7 j u hu => ?_, World.block_lt_of_cell? W _ (hc 0 _ rfl)⟩
  have hj : j < 12 := by
    have := (List.getElem?_eq_some_iff.1 hu).1
    rw [List.length_map, hlen ⟨c, h7⟩] at this
    exact this
  have e := hk ⟨c, h7⟩ ⟨j, hj⟩
  refine hc (c * 12 + j) u ?_
  rw [List.getElem?_map] at hu ⊢
  rw [e]
  exact hu
set_option maxRecDepth 100000 in
theorem tn_of {l : List (String × DataW Unit)} {W : World} (h : laidMetH Tryd.prog l W) (hp : (l.all fun x => x.2.handleName?.isNone) = true) (hm : ("internal/strconv.uint64pow10", Rows.laid_internal_strconv_uint64pow10) ∈ l) (hn : ("peerage/notice.names", Rows.laid_peerage_notice_names) ∈ l) : Tens W ∧ NNames W :=
  ⟨tens_of h hp hm, names_of h hp hn⟩
end Go.Proofs.YtaopinecidddkaaDoor

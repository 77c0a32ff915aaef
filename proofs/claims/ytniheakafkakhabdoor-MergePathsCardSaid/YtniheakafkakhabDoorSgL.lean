/- The example of layer 6 -/
import Derived.Test.YtniheakafkakhabDoorSgT
import Derived.Test.YtniheakafkakhabDoorSgE
namespace Go.Proofs.YtniheakafkakhabDoor
open Go.RowKit Go.Sort

theorem segs_two {w : World} {g g1 g2 : Nat} (h : Own w g 31 #[.int .i64 2, .slice (some ⟨g1, 0, none⟩) 2 2, .int .i64 1, .slice (some ⟨g2, 0, none⟩) 1 1]) (h1 : Own w g1 40 #[.int .u32 1, .int .u32 2]) (h2 : Own w g2 40 #[.int .u32 3]) :
    Segs w w.heap.size (some ⟨g, 0, none⟩) 2 [⟨2, some ⟨g1, 0, none⟩, 2, 2, [1, 2]⟩, ⟨1, some ⟨g2, 0, none⟩, 1, 1, [3]⟩] := by
  refine ⟨rfl, ?_, .inr ⟨g, 0, rfl, h.lt, ?_⟩⟩
  · intro s hs
    simp only [List.mem_cons, List.not_mem_nil, or_false] at hs
    rcases hs with rfl | rfl
    · exact ⟨Nat.le_refl _, by dsimp only; unfold maxLen; omega, rfl, by simp, rfl, Shows.of_owned (xs := [1, 2].map (Value.int .u32)) h1 h1.lt⟩
    · exact ⟨Nat.le_refl _, by dsimp only; unfold maxLen; omega, rfl, by simp, rfl, Shows.of_owned (xs := [3].map (Value.int .u32)) h2 h2.lt⟩
  · intro i s hi
    match i, hi with
    | 0, hi => cases hi; exact ⟨h.cell rfl, h.cell rfl⟩
    | 1, hi => cases hi; exact ⟨h.cell rfl, h.cell rfl⟩
    | i + 2, hi => simp at hi
theorem dd1 : Lib.decDigits 1 = [49] := by rw [Lib.decDigits, dif_pos (by decide)]; rfl
theorem dd2 : Lib.decDigits 2 = [50] := by rw [Lib.decDigits, dif_pos (by decide)]; rfl
theorem dd3 : Lib.decDigits 3 = [51] := by rw [Lib.decDigits, dif_pos (by decide)]; rfl
theorem ex_txt (g1 g2 : Option Addr) : sgsTxt [⟨2, g1, 2, 2, [1, 2]⟩, ⟨1, g2, 1, 1, [3]⟩] = ⟨#[91, 49, 32, 50, 93, 32, 123, 51, 125]⟩ := by
  apply ByteArray.ext
  apply Array.ext'
  rw [sgsTxt_list, sgTxt_list, if_neg (show ¬ (2 : Int) = 1 by decide), segJ_list]
  unfold segTail
  simp only [List.map_cons, List.map_nil, List.flatten_cons, List.flatten_nil]
  rw [sgTxt_list, if_pos rfl, segJ_list]
  unfold numTail
  simp only [List.map_cons, List.map_nil]
  rw [show (1 : Int).toNat = 1 from rfl, show (2 : Int).toNat = 2 from rfl, show (3 : Int).toNat = 3 from rfl, dd1, dd2, dd3]
  rfl
end Go.Proofs.YtniheakafkakhabDoor

/- The example of layer 6 -/
import Derived.Test.YtecbbjdcnlocdaaDoorSgT
import Derived.Test.YtecbbjdcnlocdaaDoorSgE
namespace Go.Proofs.YtecbbjdcnlocdaaDoor
open Go.RowKit Go.Sort

theorem segs_two {w : World} {g g1 g2 : Nat} (h : Own w g 61 #[.int .i64 2, .slice (some ⟨g1, 0, none⟩) 2 2, .int .i64 1, .slice (some ⟨g2, 0, none⟩) 1 1]) (h1 : Own w g1 51 #[.int .u32 1, .int .u32 2]) (h2 : Own w g2 51 #[.int .u32 3]) :
    Segs w w.heap.size (some ⟨g, 0, none⟩) 2 [⟨2, some ⟨g1, 0, none⟩, 2, 2, [1, 2]⟩, ⟨1, some ⟨g2, 0, none⟩, 1, 1, [3]⟩] := by
  refine ⟨rfl, ?_, .inr ⟨g, 0, rfl, h.lt, ?_⟩⟩
  · intro s hs
    simp only [List.mem_cons, List.not_mem_nil, or_false] at hs
    rcases hs with rfl | rfl
    · exact ⟨Nat.le_refl _, by dsimp only; unfold maxLen; omega, rfl, by simp, rfl, Shows.of_owned (xs := [1, 2].map (Value.int .u32)) h1 h1.lt⟩
    · exact ⟨Nat.le_refl _, by dsimp only; unfold maxLen; omega, rfl, by simp, rfl, Shows.of_owned (xs := [3].map (Value.int .u32)) h2 h2.lt⟩
  · intro i s hi
    match i, hi with
    | 0, hi => cases hi; exact ⟨h.cell rfl, h.cell rfl⟩
    | 1, hi => cases hi; exact ⟨h.cell rfl, h.cell rfl⟩
    | i + 2, hi => simp at hi
theorem dd1 : Lib.decDigits 1 = [49] := by rw [Lib.decDigits, dif_pos (by decide)]; rfl
theorem dd2 : Lib.decDigits 2 = [50] := by rw [Lib.decDigits, dif_pos (by decide)]; rfl
theorem dd3 : Lib.decDigits 3 = [51] := by rw [Lib.decDigits, dif_pos (by decide)]; rfl
theorem ex_txt (g1 g2 : Option Addr) : sgsTxt [⟨2, g1, 2, 2, [1, 2]⟩, ⟨1, g2, 1, 1, [3]⟩] = ⟨#[91, 49, 32, 50, 93, 32, 123, 51, 125]⟩ := by
  apply ByteArray.ext
  apply Array.ext'
  rw [sgsTxt_list, sgTxt_list, if_neg (show ¬ (2 : Int) = 1 by decide), segJ_list]
  unfold segTail
  simp only [List.map_cons, List.map_nil, List.flatten_cons, List.flatten_nil]
  rw [sgTxt_list, if_pos rfl, segJ_list]
  unfold numTail
  simp only [List.map_cons, List.map_nil]
  rw [show (1 : Int).toNat = 1 from rfl, show (2 : Int).toNat = 2 from rfl, show (3 : Int).toNat = 3 from rfl, dd1, dd2, dd3]
  rfl
set_option maxRecDepth 100000 in
set_option maxHeartbeats 1600000 in
theorem alive06_any (w : World) (ht : Tens w) (hb : Brk w) : Calls Tryd.prog 9 #[] w fun e w' => e = .returned (.bool true) ∧ Below w.heap.size w w' := by
  have hb1 := bl_alloc (bl_alloc (bl_alloc (bl_refl w) (.cells #[.int .u32 1, .int .u32 2] 51)) (.cells #[.int .u32 3] 51)) (.cells #[.int .i64 2, .slice (some ⟨w.heap.size, 0, none⟩) 2 2, .int .i64 1, .slice (some ⟨w.heap.size + 1, 0, none⟩) 1 1] 61)
  have o1 := ((Own.new w 51 #[.int .u32 1, .int .u32 2]).alloc (.cells #[.int .u32 3] 51)).alloc (.cells #[.int .i64 2, .slice (some ⟨w.heap.size, 0, none⟩) 2 2, .int .i64 1, .slice (some ⟨w.heap.size + 1, 0, none⟩) 1 1] 61)
  have o2 := (Own.new (w.alloc (.cells #[.int .u32 1, .int .u32 2] 51)) 51 #[.int .u32 3]).alloc (.cells #[.int .i64 2, .slice (some ⟨w.heap.size, 0, none⟩) 2 2, .int .i64 1, .slice (some ⟨w.heap.size + 1, 0, none⟩) 1 1] 61)
  have o3 := Own.new ((w.alloc (.cells #[.int .u32 1, .int .u32 2] 51)).alloc (.cells #[.int .u32 3] 51)) 61 #[.int .i64 2, .slice (some ⟨w.heap.size, 0, none⟩) 2 2, .int .i64 1, .slice (some ⟨w.heap.size + 1, 0, none⟩) 1 1]
  rw [show (w.alloc (.cells #[.int .u32 1, .int .u32 2] 51)).heap.size = w.heap.size + 1 by simp] at o2
  rw [show ((w.alloc (.cells #[.int .u32 1, .int .u32 2] 51)).alloc (.cells #[.int .u32 3] 51)).heap.size = w.heap.size + 1 + 1 by simp] at o3
  have hS := segs_two o3 o1 o2
  have hT := Lib.hid (stext_yes _ 2 2 _ _ (ht.below hb1) (hb.below hb1) hS (by omega) rfl)
  rw [ex_txt] at hT
  have HS := Lib.hid hS
  clear o1 o2 o3 hS ht hb
  go_enter Tryd.func9, Tryd.ntmps9
  go_wp2_with fail
  refine hT.out.mono ?_
  rintro e w2 ⟨rfl, hb2⟩
  have hL := Lib.hid (slength_any _ 2 2 _ w2 ((HS.out.below hb2).more hb2.size) (by omega) (by intro s hs; simp only [List.mem_cons, List.not_mem_nil, or_false] at hs; rcases hs with rfl | rfl <;> first | exact (by decide : (2 : Nat) ≤ 1000) | exact (by decide : (1 : Nat) ≤ 1000)))
  have hb3 := bl_trans hb1 hb2
  go_wp2_with fail
  refine hL.out.mono ?_
  rintro e w3 ⟨rfl, hb4⟩
  have hb5 := bl_trans hb3 hb4
  have e3 : lenS [⟨2, some ⟨w.heap.size, 0, none⟩, 2, 2, [1, 2]⟩, ⟨1, some ⟨w.heap.size + 1, 0, none⟩, 1, 1, [3]⟩] 2 = 3 := rfl
  rw [e3]
  go_wp2
  go_ret
  exact ⟨rfl, hb5⟩
end Go.Proofs.YtecbbjdcnlocdaaDoor

/- capability: alive -/
import Derived.Test.YtniheakafkakhaaDoorCpC
namespace Go.Proofs.YtniheakafkakhaaDoor
open Go.RowKit

set_option maxRecDepth 100000 in
set_option maxHeartbeats 1600000 in
theorem alive16_any (w : World) : Calls Tryd.prog 17 #[] w fun e w' => e = .returned (.bool true) ∧ Below w.heap.size w w' := by
  have o1 := Own.new w 83 #[.int .i64 2, .slice none 0 0]
  have hb1 := bl_alloc (bl_refl w) (.cells #[.int .i64 2, .slice none 0 0] 83)
  have hcaps : Caps (w.alloc (.cells #[.int .i64 2, .slice none 0 0] 83)) (w.alloc (.cells #[.int .i64 2, .slice none 0 0] 83)).heap.size (some ⟨w.heap.size, 0, none⟩) 1 [⟨2, none, 0, 0, []⟩] :=
    ⟨rfl, (fun s hs => by
      rw [List.mem_singleton] at hs
      subst hs
      exact ⟨Bytes.nil _ _ _, Nat.le_refl _, show 0 ≤ maxLen by unfold maxLen; omega⟩), .inr ⟨w.heap.size, 0, rfl, o1.lt, fun i s hi => by
      rcases i with _ | i
      · cases hi
        exact ⟨o1.cell (i := 0) rfl, o1.cell (i := 1) rfl⟩
      · simp at hi⟩⟩
  have HC := Lib.hid (cbytes_any (some ⟨w.heap.size, 0, none⟩) 1 1 _ _ hcaps (by omega) (by simp))
  clear o1 hcaps
  go_enter Tryd.func17, Tryd.ntmps17
  go_wp2_with fail
  refine HC.out.mono ?_
  rintro e w2 ⟨A', n', c', rfl, hB, hc, hb2⟩
  have e1 : ([⟨2, none, 0, 0, []⟩] : List Cp).all cpOk = true := by decide
  rw [if_pos e1] at hB
  have hB : Bytes w2 w2.heap.size A' n' [2, 0] := hB
  obtain rfl : n' = 2 := hB.1
  obtain ⟨b, o, rfl, hlt, h0, _, _⟩ := hB.at_ (k := 0) (by omega)
  obtain ⟨b', o', hA, _, h1, _, _⟩ := hB.at_ (k := 1) (by omega)
  cases hA
  have h0 : w2.cell? ⟨b, o, none⟩ = some (.int .u8 2) := h0
  have h1 : w2.cell? ⟨b, o + 1, none⟩ = some (.int .u8 0) := h1
  have hb3 := bl_trans hb1 hb2
  rw [e1]
  clear hB
  go_wp2
  go_ret
  exact ⟨rfl, hb3⟩
end Go.Proofs.YtniheakafkakhaaDoor

/- peerageref05.list, and Valid of both sides (a part of OpC, for texts that need no Both) -/
import Derived.Test.YtaopinecidddkaaDoorOpA
namespace Go.Proofs.YtaopinecidddkaaDoor
open Go.RowKit Go.Sort

set_option maxRecDepth 100000 in
theorem rlist_any (a0 a1 a2 a3 a4 a5 : Bool) (w : World) : Calls Tryd.prog 64 #[.agg #[.bool a0, .bool a1, .bool a2, .bool a3, .bool a4, .bool a5]] w fun e w' => ∃ g, e = .returned (.slice (some ⟨g, 0, none⟩) 6 6) ∧ w.heap.size ≤ g ∧ Own w' g 4 #[.bool a0, .bool a1, .bool a2, .bool a3, .bool a4, .bool a5] ∧ Below w.heap.size w w' := by
  have hb0 := bl_alloc (bl_alloc (bl_refl w) (.cells #[.bool a0, .bool a1, .bool a2, .bool a3, .bool a4, .bool a5] 23)) (.cells #[.bool a0, .bool a1, .bool a2, .bool a3, .bool a4, .bool a5] 4)
  have o := Own.new (w.alloc (.cells #[.bool a0, .bool a1, .bool a2, .bool a3, .bool a4, .bool a5] 23)) 4 #[.bool a0, .bool a1, .bool a2, .bool a3, .bool a4, .bool a5]
  rw [show (w.alloc (.cells #[.bool a0, .bool a1, .bool a2, .bool a3, .bool a4, .bool a5] 23)).heap.size = w.heap.size + 1 by simp] at o
  go_enter Tryd.func64, Tryd.ntmps64
  go_wp2
  go_ret
  exact ⟨_, rfl, by omega, o, hb0⟩
set_option maxRecDepth 100000 in
theorem ovalid_any (a0 a1 a2 a3 a4 a5 : Bool) (w : World) : Calls Tryd.prog 27 #[.agg #[.bool a0, .bool a1, .bool a2, .bool a3, .bool a4, .bool a5]] w fun e w' => e = .returned (.bool (a3 || !a5)) ∧ Below w.heap.size w w' := by
  have hb0 := bl_alloc (bl_refl w) (.cells #[.bool a0, .bool a1, .bool a2, .bool a3, .bool a4, .bool a5] 23)
  cases a3
  all_goals
    go_enter Tryd.func27, Tryd.ntmps27
    go_wp2
    go_ret
    exact ⟨by simp, hb0⟩
set_option maxRecDepth 100000 in
theorem rovalid_any (a0 a1 a2 a3 a4 a5 : Bool) (w : World) : Calls Tryd.prog 28 #[.agg #[.bool a0, .bool a1, .bool a2, .bool a3, .bool a4, .bool a5]] w fun e w' => e = .returned (.bool (a3 || !a5)) ∧ Below w.heap.size w w' := by
  have hb0 := bl_alloc (bl_refl w) (.cells #[.bool a0, .bool a1, .bool a2, .bool a3, .bool a4, .bool a5] 23)
  cases a3
  all_goals
    go_enter Tryd.func28, Tryd.ntmps28
    go_wp2
    go_ret
    exact ⟨by simp, hb0⟩
end Go.Proofs.YtaopinecidddkaaDoor

/- peerageref05.list, and Valid of both sides (a part of OpC, for texts that need no Both) -/
import Derived.Test.YtmcmhljonkijjaaDoorOpA
namespace Go.Proofs.YtmcmhljonkijjaaDoor
open Go.RowKit Go.Sort

set_option maxRecDepth 100000 in
theorem rlist_any (a0 a1 a2 a3 a4 a5 : Bool) (w : World) : Calls Tryd.prog 88 #[.agg #[.bool a0, .bool a1, .bool a2, .bool a3, .bool a4, .bool a5]] w fun e w' => ∃ g, e = .returned (.slice (some ⟨g, 0, none⟩) 6 6) ∧ w.heap.size ≤ g ∧ Own w' g 4 #[.bool a0, .bool a1, .bool a2, .bool a3, .bool a4, .bool a5] ∧ Below w.heap.size w w' := by
  have hb0 := bl_alloc (bl_alloc (bl_refl w) (.cells #[.bool a0, .bool a1, .bool a2, .bool a3, .bool a4, .bool a5] 50)) (.cells #[.bool a0, .bool a1, .bool a2, .bool a3, .bool a4, .bool a5] 4)
  have o := Own.new (w.alloc (.cells #[.bool a0, .bool a1, .bool a2, .bool a3, .bool a4, .bool a5] 50)) 4 #[.bool a0, .bool a1, .bool a2, .bool a3, .bool a4, .bool a5]
  rw [show (w.alloc (.cells #[.bool a0, .bool a1, .bool a2, .bool a3, .bool a4, .bool a5] 50)).heap.size = w.heap.size + 1 by simp] at o
  go_enter Tryd.func88, Tryd.ntmps88
  go_wp2
  go_ret
  exact ⟨_, rfl, by omega, o, hb0⟩
end Go.Proofs.YtmcmhljonkijjaaDoor

/- peerageref05.Both, Valid, Width, Add; option.Valid, Width, MP, Add -/
import Derived.Test.YtmcmhljonkijjaaDoorOpA
namespace Go.Proofs.YtmcmhljonkijjaaDoor
open Go.RowKit Go.Sort

set_option maxRecDepth 100000 in
theorem rlist_any (a0 a1 a2 a3 a4 a5 : Bool) (w : World) : Calls Tryd.prog 88 #[.agg #[.bool a0, .bool a1, .bool a2, .bool a3, .bool a4, .bool a5]] w fun e w' => ∃ g, e = .returned (.slice (some ⟨g, 0, none⟩) 6 6) ∧ w.heap.size ≤ g ∧ Own w' g 4 #[.bool a0, .bool a1, .bool a2, .bool a3, .bool a4, .bool a5] ∧ Below w.heap.size w w' := by
  have hb0 := bl_alloc (bl_alloc (bl_refl w) (.cells #[.bool a0, .bool a1, .bool a2, .bool a3, .bool a4, .bool a5] 50)) (.cells #[.bool a0, .bool a1, .bool a2, .bool a3, .bool a4, .bool a5] 4)
  have o := Own.new (w.alloc (.cells #[.bool a0, .bool a1, .bool a2, .bool a3, .bool a4, .bool a5] 50)) 4 #[.bool a0, .bool a1, .bool a2, .bool a3, .bool a4, .bool a5]
  rw [show (w.alloc (.cells #[.bool a0, .bool a1, .bool a2, .bool a3, .bool a4, .bool a5] 50)).heap.size = w.heap.size + 1 by simp] at o
  go_enter Tryd.func88, Tryd.ntmps88
  go_wp2
  go_ret
  exact ⟨_, rfl, by omega, o, hb0⟩
theorem op_oneR (a b c d e f : Bool) : (#[Value.bool a, .bool b, .bool c, .bool d, .bool e, .bool f] : Array Value).all (·.oneCell') = true := by simp [Value.oneCell']
set_option maxRecDepth 100000 in
set_option maxHeartbeats 800000 in
theorem rof5_any (g : Nat) (a0 a1 a2 a3 a4 a5 : Bool) (w : World) (h : Own w g 4 #[.bool a0, .bool a1, .bool a2, .bool a3, .bool a4, .bool a5]) : Calls Tryd.prog 53 #[.slice (some ⟨g, 0, none⟩) 6 6] w fun e w' => e = .returned (.agg #[.bool a0, .bool a1, .bool a2, .bool a3, .bool a4, .bool a5]) ∧ Below w.heap.size w w' := by
  have oz := Own.new w 50 #[.bool false, .bool false, .bool false, .bool false, .bool false, .bool false]
  have hb0 := bl_alloc (bl_refl w) (.cells #[.bool false, .bool false, .bool false, .bool false, .bool false, .bool false] 50)
  have ho := h.alloc (.cells #[.bool false, .bool false, .bool false, .bool false, .bool false, .bool false] 50)
  obtain ⟨c0, c1, c2, c3, c4, c5⟩ : (w.alloc (.cells #[.bool false, .bool false, .bool false, .bool false, .bool false, .bool false] 50)).cell? ⟨g, 0, none⟩ = some (.bool a0) ∧ (w.alloc (.cells #[.bool false, .bool false, .bool false, .bool false, .bool false, .bool false] 50)).cell? ⟨g, 1, none⟩ = some (.bool a1) ∧ (w.alloc (.cells #[.bool false, .bool false, .bool false, .bool false, .bool false, .bool false] 50)).cell? ⟨g, 2, none⟩ = some (.bool a2) ∧ (w.alloc (.cells #[.bool false, .bool false, .bool false, .bool false, .bool false, .bool false] 50)).cell? ⟨g, 3, none⟩ = some (.bool a3) ∧ (w.alloc (.cells #[.bool false, .bool false, .bool false, .bool false, .bool false, .bool false] 50)).cell? ⟨g, 4, none⟩ = some (.bool a4) ∧ (w.alloc (.cells #[.bool false, .bool false, .bool false, .bool false, .bool false, .bool false] 50)).cell? ⟨g, 5, none⟩ = some (.bool a5) := ⟨ho.cell (i := 0) rfl, ho.cell (i := 1) rfl, ho.cell (i := 2) rfl, ho.cell (i := 3) rfl, ho.cell (i := 4) rfl, ho.cell (i := 5) rfl⟩
  go_enter Tryd.func53, Tryd.ntmps53
  go_wp2_with fail
  generalize w.alloc (.cells #[.bool false, .bool false, .bool false, .bool false, .bool false, .bool false] 50) = W at *
  refine wp_region_still_tail 19 (by kernel_rfl) (by kernel_rfl) ?_
  simp only [List.take_succ_cons, List.take_zero, List.drop_succ_cons, List.drop_zero]
  repeat still_step
  refine wpStill_nil ?_
  change wpList _ _ _ _ _ W.drew
  have oD := oz.drew
  have hbD := hb0.drew
  generalize W.drew = X at *
  go_wp2_with (refine wpList_store_row rfl 50 _ _ rfl w.heap.size #[.bool a0, .bool a1, .bool a2, .bool a3, .bool a4, .bool a5] rfl rfl 50 #[.bool false, .bool false, .bool false, .bool false, .bool false, .bool false] oD (op_info _ _ _ _ _ _) rfl (op_oneR _ _ _ _ _ _) ?_)
  exact bodyPost_ret (results_cell1 (p := 2) (fn := Tryd.f53) rfl _ _ w.heap.size 50 #[.bool a0, .bool a1, .bool a2, .bool a3, .bool a4, .bool a5] _ rfl oD.setRow op_desc rfl (op_info _ _ _ _ _ _)) rfl ⟨rfl, bl_setRow hbD (Nat.le_refl _)⟩
def mixB (a0 a1 a2 a3 a4 a5 b0 b1 b2 b3 b4 b5 : Bool) : Nat → Array Value
  | 0 => #[.bool a0, .bool a1, .bool a2, .bool a3, .bool a4, .bool a5]
  | 1 => #[.bool (a0 && b0), .bool a1, .bool a2, .bool a3, .bool a4, .bool a5]
  | 2 => #[.bool (a0 && b0), .bool (a1 && b1), .bool a2, .bool a3, .bool a4, .bool a5]
  | 3 => #[.bool (a0 && b0), .bool (a1 && b1), .bool (a2 && b2), .bool a3, .bool a4, .bool a5]
  | 4 => #[.bool (a0 && b0), .bool (a1 && b1), .bool (a2 && b2), .bool (a3 && b3), .bool a4, .bool a5]
  | 5 => #[.bool (a0 && b0), .bool (a1 && b1), .bool (a2 && b2), .bool (a3 && b3), .bool (a4 && b4), .bool a5]
  | _ => #[.bool (a0 && b0), .bool (a1 && b1), .bool (a2 && b2), .bool (a3 && b3), .bool (a4 && b4), .bool (a5 && b5)]
theorem set_mix {w : World} {g : Nat} {T : TypeId} {cs ds : Array Value} {i : Nat} {v : Value} (h : Own w g T cs) (e : cs.setIfInBounds i v = ds) : Own (w.setCell ⟨g, i, none⟩ v) g T ds := by
  rw [← e]
  exact h.set_ i v
def bothW (a0 a1 a2 a3 a4 a5 b0 b1 b2 b3 b4 b5 : Bool) : Array Value := #[.bool (a0 && b0), .bool (a1 && b1), .bool (a2 && b2), .bool (a3 && b3), .bool (a4 && b4), .bool ((a5 && b5) && (a3 && b3))]
end Go.Proofs.YtmcmhljonkijjaaDoor

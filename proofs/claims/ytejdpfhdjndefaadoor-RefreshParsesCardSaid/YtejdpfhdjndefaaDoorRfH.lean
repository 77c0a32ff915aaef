/- RefreshUseful: the walk -/
import Derived.Test.YtejdpfhdjndefaaDoorRfG
namespace Go.Proofs.YtejdpfhdjndefaaDoor
open Go.RowKit Extern.Stop

set_option maxRecDepth 100000 in
theorem useful_agg (a0 a1 a2 a3 a4 a5 : Bool) (a b c : Int) (w : World) (ht : Fams w) :
    Calls Tryd.prog 32 #[.agg #[.bool a0, .bool a1, .bool a2, .bool a3, .bool a4, .bool a5], .agg #[.int .i64 a, .int .i64 b, .int .i64 c]] w fun e w' => e = .returned (.bool (rfUse a3 a b c)) ∧ Below w.heap.size w w' := useful_any a0 a1 a2 a3 a4 a5 a b c w ht
set_option maxRecDepth 100000 in
theorem ruseful_agg (a0 a1 a2 a3 a4 a5 : Bool) (a b c : Int) (w : World) :
    Calls Tryd.prog 35 #[.agg #[.bool a0, .bool a1, .bool a2, .bool a3, .bool a4, .bool a5], .agg #[.int .i64 a, .int .i64 b, .int .i64 c]] w fun e w' => e = .returned (.bool (rfUse a3 a b c)) ∧ Below w.heap.size w w' := ruseful_any a0 a1 a2 a3 a4 a5 a b c w
set_option maxRecDepth 100000 in
set_option maxHeartbeats 1600000 in
theorem rfuseful_all (a0 a1 a2 a3 a4 a5 : Bool) (a b c : Int) (w : World) (ht : Fams w) :
    Calls Tryd.prog 9 #[.agg #[.bool a0, .bool a1, .bool a2, .bool a3, .bool a4, .bool a5], .agg #[.int .i64 a, .int .i64 b, .int .i64 c]] w fun e w' => e = .returned (.bool true) ∧ Below w.heap.size w w' := by
  have hb0 := bl_alloc (bl_alloc (bl_refl w) (.cells #[.bool a0, .bool a1, .bool a2, .bool a3, .bool a4, .bool a5] 23)) (.cells #[.int .i64 a, .int .i64 b, .int .i64 c] 55)
  have o1 := (Own.new w 23 #[.bool a0, .bool a1, .bool a2, .bool a3, .bool a4, .bool a5]).alloc (.cells #[.int .i64 a, .int .i64 b, .int .i64 c] 55)
  have o2 := Own.new (w.alloc (.cells #[.bool a0, .bool a1, .bool a2, .bool a3, .bool a4, .bool a5] 23)) 55 #[.int .i64 a, .int .i64 b, .int .i64 c]
  rw [show (w.alloc (.cells #[.bool a0, .bool a1, .bool a2, .bool a3, .bool a4, .bool a5] 23)).heap.size = w.heap.size + 1 by simp] at o2
  have ht1 := (ht.alloc (.cells #[.bool a0, .bool a1, .bool a2, .bool a3, .bool a4, .bool a5] 23)).alloc (.cells #[.int .i64 a, .int .i64 b, .int .i64 c] 55)
  go_enter Tryd.func9, Tryd.ntmps9
  go_wp2_with fail
  generalize (w.alloc (.cells #[.bool a0, .bool a1, .bool a2, .bool a3, .bool a4, .bool a5] 23)).alloc (.cells #[.int .i64 a, .int .i64 b, .int .i64 c] 55) = V at o1 o2 ht1 hb0 ⊢
  have HS0 := own_nine o1.drew o2.drew
  have hU : ∃ R, rfUse a3 a b c = R := ⟨_, rfl⟩
  obtain ⟨R, hU⟩ := hU
  have HU := Lib.hid hU
  clear hU
  have hRR : (R == R) = true := by simp
  go_region_held3 (fun W => W.cell? ⟨w.heap.size, 0, none⟩ = some (.bool a0) ∧ W.cell? ⟨w.heap.size, 1, none⟩ = some (.bool a1) ∧ W.cell? ⟨w.heap.size, 2, none⟩ = some (.bool a2) ∧ W.cell? ⟨w.heap.size, 3, none⟩ = some (.bool a3) ∧ W.cell? ⟨w.heap.size, 4, none⟩ = some (.bool a4) ∧ W.cell? ⟨w.heap.size, 5, none⟩ = some (.bool a5) ∧ W.cell? ⟨w.heap.size + 1, 0, none⟩ = some (.int .i64 a) ∧ W.cell? ⟨w.heap.size + 1, 1, none⟩ = some (.int .i64 b) ∧ W.cell? ⟨w.heap.size + 1, 2, none⟩ = some (.int .i64 c)) (with_reducible first | exact HS0 | exact HS1 | exact HS2 | exact HS3) ((first
    | (go_at_call 31; (with_reducible refine (alive19_any _ ht1.drew).mono ?_); rintro e w1 ⟨rfl, hb1⟩; have g1 := o1.drew.step hb1; have g2 := o2.drew.step hb1; have ht2 := Fams.below (w := V.drew) ht1 hb1; have hb2 := bl_trans hb0.drew hb1; have HS1 := own_nine g1 g2)
    | (go_at_call 32; (with_reducible refine (useful_agg a0 a1 a2 a3 a4 a5 a b c _ (by first | exact ht2 | exact ht3)).mono ?_); rw [HU.out]; rintro e w2 ⟨rfl, hb3⟩; first | (have k1 := m1.step hb3; have k2 := m2.step hb3; have hb4 := bl_trans hb6 hb3; have HS2 := own_nine k1 k2) | (have k1 := g1.step hb3; have k2 := g2.step hb3; have ht3 := ht2.below hb3; have hb4 := bl_trans hb2 hb3; have HS2 := own_nine k1 k2))
    | (go_at_call 35; (with_reducible refine (ruseful_agg a0 a1 a2 a3 a4 a5 a b c _).mono ?_); rw [HU.out]; rintro e w3 ⟨rfl, hb5⟩; first | (have m1 := k1.step hb5; have m2 := k2.step hb5; have hb6 := bl_trans hb4 hb5; have HS3 := own_nine m1 m2) | (have m1 := g1.step hb5; have m2 := g2.step hb5; have ht3 := ht2.below hb5; have hb6 := bl_trans hb2 hb5; have HS3 := own_nine m1 m2))))
  all_goals go_wp2
  all_goals go_ret
  all_goals first | exact ⟨rfl, hb6⟩ | exact ⟨rfl, hb4⟩
end Go.Proofs.YtejdpfhdjndefaaDoor

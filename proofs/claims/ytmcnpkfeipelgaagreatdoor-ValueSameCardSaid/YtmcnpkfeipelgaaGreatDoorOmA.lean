/- option.MP, option.Add -/
import Derived.Test.YtmcnpkfeipelgaaGreatDoorOwn
import Derived.Test.YtmcnpkfeipelgaaGreatDoorRows
namespace Go.Proofs.YtmcnpkfeipelgaaGreatDoor
open Go.RowKit

set_option maxRecDepth 100000 in
theorem ompA_any (a0 a1 a2 a3 a4 a5 : Bool) (f : Int) (w : World) : Calls Tryz.prog 90 #[.agg #[.bool a0, .bool a1, .bool a2, .bool a3, .bool a4, .bool a5], .int .i64 f] w fun e w' => e = .returned (.bool (decide (f = 1) && a2 || decide (f = 2) && a3)) ∧ Below w.heap.size w w' := by
  have hb0 := bl_alloc (bl_refl w) (.cells #[.bool a0, .bool a1, .bool a2, .bool a3, .bool a4, .bool a5] 23)
  have o0 := Own.new w 23 #[.bool a0, .bool a1, .bool a2, .bool a3, .bool a4, .bool a5]
  by_cases h1 : f = 1
  · subst h1
    cases a2
    all_goals
      go_enter Tryz.func90, Tryz.ntmps90
      go_wp2
      go_ret
      exact ⟨by simp, hb0⟩
  · by_cases h2 : f = 2
    · subst h2
      go_enter Tryz.func90, Tryz.ntmps90
      go_wp2
      go_ret
      exact ⟨by simp, hb0⟩
    · have q1 : (f == 1) = false := by simpa using h1
      have q2 : (f == 2) = false := by simpa using h2
      have HD := Lib.hid (show (decide (f = 1) && a2 || decide (f = 2) && a3) = false by simp [h1, h2])
      clear h1 h2
      go_enter Tryz.func90, Tryz.ntmps90
      go_wp2
      go_ret
      exact ⟨by rw [HD.out]; rfl, hb0⟩
set_option maxRecDepth 100000 in
theorem oaddA_any (a0 a1 a2 a3 a4 a5 : Bool) (f : Int) (w : World) : Calls Tryz.prog 95 #[.agg #[.bool a0, .bool a1, .bool a2, .bool a3, .bool a4, .bool a5], .int .i64 f] w fun e w' => e = .returned (.bool (decide (f = 1) && a4 || decide (f = 2) && a5)) ∧ Below w.heap.size w w' := by
  have hb0 := bl_alloc (bl_refl w) (.cells #[.bool a0, .bool a1, .bool a2, .bool a3, .bool a4, .bool a5] 23)
  have o0 := Own.new w 23 #[.bool a0, .bool a1, .bool a2, .bool a3, .bool a4, .bool a5]
  by_cases h1 : f = 1
  · subst h1
    cases a4
    all_goals
      go_enter Tryz.func95, Tryz.ntmps95
      go_wp2
      go_ret
      exact ⟨by simp, hb0⟩
  · by_cases h2 : f = 2
    · subst h2
      go_enter Tryz.func95, Tryz.ntmps95
      go_wp2
      go_ret
      exact ⟨by simp, hb0⟩
    · have q1 : (f == 1) = false := by simpa using h1
      have q2 : (f == 2) = false := by simpa using h2
      have HD := Lib.hid (show (decide (f = 1) && a4 || decide (f = 2) && a5) = false by simp [h1, h2])
      clear h1 h2
      go_enter Tryz.func95, Tryz.ntmps95
      go_wp2
      go_ret
      exact ⟨by rw [HD.out]; rfl, hb0⟩
end Go.Proofs.YtmcnpkfeipelgaaGreatDoor

/- peerageref05.Both, Valid, Width, Add; option.Valid, Width, MP, Add -/
import Derived.Test.YtmcnpkfeipelgaaGreatDoorOpA
import Derived.Test.YtmcnpkfeipelgaaGreatDoorOmA
namespace Go.Proofs.YtmcnpkfeipelgaaGreatDoor
open Go.RowKit Go.Sort

theorem op_oneR (a b c d e f : Bool) : (#[Value.bool a, .bool b, .bool c, .bool d, .bool e, .bool f] : Array Value).all (·.oneCell') = true := by simp [Value.oneCell']
def mixB (a0 a1 a2 a3 a4 a5 b0 b1 b2 b3 b4 b5 : Bool) : Nat → Array Value
  | 0 => #[.bool a0, .bool a1, .bool a2, .bool a3, .bool a4, .bool a5]
  | 1 => #[.bool (a0 && b0), .bool a1, .bool a2, .bool a3, .bool a4, .bool a5]
  | 2 => #[.bool (a0 && b0), .bool (a1 && b1), .bool a2, .bool a3, .bool a4, .bool a5]
  | 3 => #[.bool (a0 && b0), .bool (a1 && b1), .bool (a2 && b2), .bool a3, .bool a4, .bool a5]
  | 4 => #[.bool (a0 && b0), .bool (a1 && b1), .bool (a2 && b2), .bool (a3 && b3), .bool a4, .bool a5]
  | 5 => #[.bool (a0 && b0), .bool (a1 && b1), .bool (a2 && b2), .bool (a3 && b3), .bool (a4 && b4), .bool a5]
  | _ => #[.bool (a0 && b0), .bool (a1 && b1), .bool (a2 && b2), .bool (a3 && b3), .bool (a4 && b4), .bool (a5 && b5)]
theorem set_mix {w : World} {g : Nat} {T : TypeId} {cs ds : Array Value} {i : Nat} {v : Value} (h : Own w g T cs) (e : cs.setIfInBounds i v = ds) : Own (w.setCell ⟨g, i, none⟩ v) g T ds := by
  rw [← e]
  exact h.set_ i v
def bothW (a0 a1 a2 a3 a4 a5 b0 b1 b2 b3 b4 b5 : Bool) : Array Value := #[.bool (a0 && b0), .bool (a1 && b1), .bool (a2 && b2), .bool (a3 && b3), .bool (a4 && b4), .bool ((a5 && b5) && (a3 && b3))]
set_option maxRecDepth 100000 in
theorem owidth_any (a0 a1 a2 a3 a4 a5 : Bool) (w : World) : Calls Tryz.prog 238 #[.agg #[.bool a0, .bool a1, .bool a2, .bool a3, .bool a4, .bool a5]] w fun e w' => e = .returned (.int .i64 (if a0 then 4 else 2)) ∧ Below w.heap.size w w' := by
  have hb0 := bl_alloc (bl_refl w) (.cells #[.bool a0, .bool a1, .bool a2, .bool a3, .bool a4, .bool a5] 23)
  cases a0
  all_goals
    go_enter Tryz.func238, Tryz.ntmps238
    go_wp2
    go_ret
    exact ⟨rfl, hb0⟩
set_option maxRecDepth 100000 in
theorem rowidth_any (a0 a1 a2 a3 a4 a5 : Bool) (w : World) : Calls Tryz.prog 59 #[.agg #[.bool a0, .bool a1, .bool a2, .bool a3, .bool a4, .bool a5]] w fun e w' => e = .returned (.int .i64 (if a0 then 4 else 2)) ∧ Below w.heap.size w w' := by
  have hb0 := bl_alloc (bl_refl w) (.cells #[.bool a0, .bool a1, .bool a2, .bool a3, .bool a4, .bool a5] 23)
  cases a0
  all_goals
    go_enter Tryz.func59, Tryz.ntmps59
    go_wp2
    go_ret
    exact ⟨rfl, hb0⟩
set_option maxRecDepth 100000 in
theorem rompA_any (a0 a1 a2 a3 a4 a5 : Bool) (f : Int) (w : World) : Calls Tryz.prog 112 #[.agg #[.bool a0, .bool a1, .bool a2, .bool a3, .bool a4, .bool a5], .int .i64 f] w fun e w' => e = .returned (.bool (decide (f = 1) && a2 || decide (f = 2) && a3)) ∧ Below w.heap.size w w' := by
  have hb0 := bl_alloc (bl_refl w) (.cells #[.bool a0, .bool a1, .bool a2, .bool a3, .bool a4, .bool a5] 23)
  have o0 := Own.new w 23 #[.bool a0, .bool a1, .bool a2, .bool a3, .bool a4, .bool a5]
  by_cases h1 : f = 1
  · subst h1
    cases a2
    all_goals
      go_enter Tryz.func112, Tryz.ntmps112
      go_wp2
      go_ret
      exact ⟨by simp, hb0⟩
  · by_cases h2 : f = 2
    · subst h2
      go_enter Tryz.func112, Tryz.ntmps112
      go_wp2
      go_ret
      exact ⟨by simp, hb0⟩
    · have q1 : (f == 1) = false := by simpa using h1
      have q2 : (f == 2) = false := by simpa using h2
      have HD := Lib.hid (show (decide (f = 1) && a2 || decide (f = 2) && a3) = false by simp [h1, h2])
      clear h1 h2
      go_enter Tryz.func112, Tryz.ntmps112
      go_wp2
      go_ret
      exact ⟨by rw [HD.out]; rfl, hb0⟩
set_option maxRecDepth 100000 in
theorem roaddA_any (a0 a1 a2 a3 a4 a5 : Bool) (f : Int) (w : World) : Calls Tryz.prog 114 #[.agg #[.bool a0, .bool a1, .bool a2, .bool a3, .bool a4, .bool a5], .int .i64 f] w fun e w' => e = .returned (.bool (decide (f = 1) && a4 || decide (f = 2) && a5)) ∧ Below w.heap.size w w' := by
  have hb0 := bl_alloc (bl_refl w) (.cells #[.bool a0, .bool a1, .bool a2, .bool a3, .bool a4, .bool a5] 23)
  have o0 := Own.new w 23 #[.bool a0, .bool a1, .bool a2, .bool a3, .bool a4, .bool a5]
  by_cases h1 : f = 1
  · subst h1
    cases a4
    all_goals
      go_enter Tryz.func114, Tryz.ntmps114
      go_wp2
      go_ret
      exact ⟨by simp, hb0⟩
  · by_cases h2 : f = 2
    · subst h2
      go_enter Tryz.func114, Tryz.ntmps114
      go_wp2
      go_ret
      exact ⟨by simp, hb0⟩
    · have q1 : (f == 1) = false := by simpa using h1
      have q2 : (f == 2) = false := by simpa using h2
      have HD := Lib.hid (show (decide (f = 1) && a4 || decide (f = 2) && a5) = false by simp [h1, h2])
      clear h1 h2
      go_enter Tryz.func114, Tryz.ntmps114
      go_wp2
      go_ret
      exact ⟨by rw [HD.out]; rfl, hb0⟩
end Go.Proofs.YtmcnpkfeipelgaaGreatDoor

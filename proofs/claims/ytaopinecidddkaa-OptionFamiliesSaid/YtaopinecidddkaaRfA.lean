/- option.Families, peerageref05.MP, peerageref19.Make -/
import Derived.Test.YtaopinecidddkaaPut
namespace Go.Proofs.Ytaopinecidddkaa
open Go.RowKit

def opts (a0 a1 a2 a3 a4 a5 : Bool) : Value := .agg #[.bool a0, .bool a1, .bool a2, .bool a3, .bool a4, .bool a5]
def famsOf (a3 : Bool) : List Int := if a3 then [1, 2] else [1]
set_option maxRecDepth 100000 in
theorem ofamilies_any (a0 a1 a2 a3 a4 a5 : Bool) (w : World) :
    Calls Try.prog 27 #[opts a0 a1 a2 a3 a4 a5] w fun e w' => e = .returned (.slice (some ⟨w.heap.size + 1, 0, none⟩) (famsOf a3).length (famsOf a3).length) ∧ Own w' (w.heap.size + 1) 3 ((famsOf a3).map (Value.int .i64)).toArray ∧ Below w.heap.size w w' := by
  have hb0 := bl_alloc (bl_refl w) (.cells #[.bool a0, .bool a1, .bool a2, .bool a3, .bool a4, .bool a5] 43)
  have hsz : (w.alloc (.cells #[.bool a0, .bool a1, .bool a2, .bool a3, .bool a4, .bool a5] 43)).heap.size = w.heap.size + 1 := by simp
  unfold opts
  cases a3
  · have o1 := Own.new (w.alloc (.cells #[.bool a0, .bool a1, .bool a2, .bool false, .bool a4, .bool a5] 43)) 3 #[.int .i64 1]
    rw [hsz] at o1
    go_enter Try.func27, Try.ntmps27
    go_wp2
    go_ret
    exact ⟨rfl, o1, bl_alloc hb0 _⟩
  · have o1 := Own.new (w.alloc (.cells #[.bool a0, .bool a1, .bool a2, .bool true, .bool a4, .bool a5] 43)) 3 #[.int .i64 1, .int .i64 2]
    rw [hsz] at o1
    go_enter Try.func27, Try.ntmps27
    go_wp2
    go_ret
    exact ⟨rfl, o1, bl_alloc hb0 _⟩
set_option maxRecDepth 100000 in
theorem rMP_any (a0 a1 a2 a3 a4 a5 : Bool) (f : Int) (w : World) :
    Calls Try.prog 19 #[opts a0 a1 a2 a3 a4 a5, .int .i64 f] w fun e w' => e = .returned (.bool (decide (f = 1) && a2 || (decide (f = 2) && a3))) ∧ Below w.heap.size w w' := by
  have hb0 := bl_alloc (bl_refl w) (.cells #[.bool a0, .bool a1, .bool a2, .bool a3, .bool a4, .bool a5] 43)
  unfold opts
  by_cases h1 : f = 1
  · subst h1
    cases a2
    · go_enter Try.func19, Try.ntmps19
      go_wp2
      go_ret
      exact ⟨rfl, hb0⟩
    · go_enter Try.func19, Try.ntmps19
      go_wp2
      go_ret
      exact ⟨rfl, hb0⟩
  · by_cases h2 : f = 2
    · subst h2
      go_enter Try.func19, Try.ntmps19
      go_wp2
      go_ret
      exact ⟨rfl, hb0⟩
    · have hd1 : decide (f = 1) = false := decide_eq_false h1
      have hd2 : decide (f = 2) = false := decide_eq_false h2
      rw [hd1, hd2]
      have hq1 : (f == 1) = false := by simpa using h1
      have hq2 : (f == 2) = false := by simpa using h2
      go_enter Try.func19, Try.ntmps19
      go_wp2
      go_ret
      exact ⟨rfl, hb0⟩
end Go.Proofs.Ytaopinecidddkaa

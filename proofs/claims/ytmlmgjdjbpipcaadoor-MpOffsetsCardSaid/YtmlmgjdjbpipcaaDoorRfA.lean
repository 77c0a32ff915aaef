/- option.Families, peerageref05.MP, peerageref19.Make -/
import Derived.Test.YtmlmgjdjbpipcaaDoorPut
namespace Go.Proofs.YtmlmgjdjbpipcaaDoor
open Go.RowKit

def opts (a0 a1 a2 a3 a4 a5 : Bool) : Value := .agg #[.bool a0, .bool a1, .bool a2, .bool a3, .bool a4, .bool a5]
def famsOf (a3 : Bool) : List Int := if a3 then [1, 2] else [1]
set_option maxRecDepth 100000 in
theorem rMP_any (a0 a1 a2 a3 a4 a5 : Bool) (f : Int) (w : World) :
    Calls Tryd.prog 24 #[opts a0 a1 a2 a3 a4 a5, .int .i64 f] w fun e w' => e = .returned (.bool (decide (f = 1) && a2 || (decide (f = 2) && a3))) ∧ Below w.heap.size w w' := by
  have hb0 := bl_alloc (bl_refl w) (.cells #[.bool a0, .bool a1, .bool a2, .bool a3, .bool a4, .bool a5] 23)
  unfold opts
  by_cases h1 : f = 1
  · subst h1
    cases a2
    · go_enter Tryd.func24, Tryd.ntmps24
      go_wp2
      go_ret
      exact ⟨rfl, hb0⟩
    · go_enter Tryd.func24, Tryd.ntmps24
      go_wp2
      go_ret
      exact ⟨rfl, hb0⟩
  · by_cases h2 : f = 2
    · subst h2
      go_enter Tryd.func24, Tryd.ntmps24
      go_wp2
      go_ret
      exact ⟨rfl, hb0⟩
    · have hd1 : decide (f = 1) = false := decide_eq_false h1
      have hd2 : decide (f = 2) = false := decide_eq_false h2
      rw [hd1, hd2]
      have hq1 : (f == 1) = false := by simpa using h1
      have hq2 : (f == 2) = false := by simpa using h2
      go_enter Tryd.func24, Tryd.ntmps24
      go_wp2
      go_ret
      exact ⟨rfl, hb0⟩
end Go.Proofs.YtmlmgjdjbpipcaaDoor

/- mp's table of families: its two numbers; mp.Family, mp.Codes, the families of a refresh; slices.Contains at one or two ints -/
import Derived.Test.YtniheakafkakhaaDoorRfC
import Derived.Test.YtniheakafkakhaaDoorCat
import Derived.Test.YtniheakafkakhaaDoorOctC
import Derived.Test.YtniheakafkakhaaDoorEq
namespace Go.Proofs.YtniheakafkakhaaDoor
open Go.RowKit Extern.Stop

/-- What the walks ask of the table of families. -/
def Fams (w : World) : Prop := w.cell? ⟨0, 3, none⟩ = some (.int .u32 1) ∧ w.cell? ⟨0, 5, none⟩ = some (.int .u32 2) ∧ 0 < w.heap.size
theorem Fams.below {w w' : World} (h : Fams w) (hb : Below w.heap.size w w') : Fams w' :=
  ⟨(hb.cell (by exact h.2.2)).trans h.1, (hb.cell (by exact h.2.2)).trans h.2.1, Nat.lt_of_lt_of_le h.2.2 hb.size⟩
theorem Fams.alloc {w : World} (h : Fams w) (o : Obj) : Fams (w.alloc o) := h.below (bl_alloc (bl_refl w) o)
theorem Fams.drew {w : World} (h : Fams w) : Fams w.drew := h
theorem Fams.drewN {w : World} (h : Fams w) (n : Nat) : Fams (w.drewN n) := h
/-- The family of two numbers. -/
def famOf (a c : Int) : Int := if c = 1 ∧ (a = 1 ∨ a = 2) then a else 0
set_option maxRecDepth 100000 in
theorem mfamily_any (a c : Int) (w : World) (hf : Fams w) :
    Calls Tryd.prog 105 #[.int .u32 a, .int .u32 c] w fun e w' => e = .returned (.int .i64 (famOf a c)) ∧ w = w' := by
  obtain ⟨f1, f2, _⟩ := hf
  by_cases hc : c = 1
  · by_cases h1 : a = 1
    · subst hc h1
      go_enter Tryd.func105, Tryd.ntmps105
      go_wp2
      go_rounds 1
      go_ret
      exact ⟨rfl, rfl⟩
    · by_cases h2 : a = 2
      · subst hc h2
        go_enter Tryd.func105, Tryd.ntmps105
        go_wp2
        go_rounds 2
        go_ret
        exact ⟨rfl, rfl⟩
      · have e1 : (1 == a) = false := by simpa using fun h => h1 h.symm
        have e2 : (2 == a) = false := by simpa using fun h => h2 h.symm
        have HV := Lib.hid (show famOf a c = 0 by unfold famOf; rw [if_neg]; omega)
        go_enter Tryd.func105, Tryd.ntmps105
        go_wp2
        go_rounds 3
        go_ret
        exact ⟨by rw [HV.out]; rfl, rfl⟩
  · have e0 : (c == 1) = false := by simpa using hc
    have HV := Lib.hid (show famOf a c = 0 by unfold famOf; rw [if_neg]; omega)
    by_cases h1 : a = 1
    · subst h1
      go_enter Tryd.func105, Tryd.ntmps105
      go_wp2
      go_rounds 3
      go_ret
      exact ⟨by rw [HV.out]; rfl, rfl⟩
    · by_cases h2 : a = 2
      · subst h2
        go_enter Tryd.func105, Tryd.ntmps105
        go_wp2
        go_rounds 3
        go_ret
        exact ⟨by rw [HV.out]; rfl, rfl⟩
      · have e1 : (1 == a) = false := by simpa using fun h => h1 h.symm
        have e2 : (2 == a) = false := by simpa using fun h => h2 h.symm
        go_enter Tryd.func105, Tryd.ntmps105
        go_wp2
        go_rounds 3
        go_ret
        exact ⟨by rw [HV.out]; rfl, rfl⟩
set_option maxRecDepth 100000 in
theorem rmfamily_any (a c : Int) (h0 : 0 ≤ a) (h4 : a < 4294967296) (w : World) :
    Calls Tryd.prog 127 #[.int .u32 a, .int .u32 c] w fun e w' => e = .returned (.int .i64 (famOf a c)) ∧ w = w' := by
  have hw : IntKind.i64.wrap a = a := by rw [IntKind.wrap_i64]; omega
  by_cases hc : c = 1
  · by_cases h1 : a = 1
    · subst hc h1
      go_enter Tryd.func127, Tryd.ntmps127
      go_wp2
      go_ret
      exact ⟨rfl, rfl⟩
    · by_cases h2 : a = 2
      · subst hc h2
        go_enter Tryd.func127, Tryd.ntmps127
        go_wp2
        go_ret
        exact ⟨rfl, rfl⟩
      · have HV := Lib.hid (show famOf a c = 0 by unfold famOf; rw [if_neg]; omega)
        have e1 : (a == 1) = false := by simpa using h1
        have e2 : (a == 2) = false := by simpa using h2
        subst hc
        go_enter Tryd.func127, Tryd.ntmps127
        go_wp2
        go_ret
        exact ⟨by rw [HV.out]; rfl, rfl⟩
  · have HV := Lib.hid (show famOf a c = 0 by unfold famOf; rw [if_neg]; omega)
    have e0 : (c == 1) = false := by simpa using hc
    go_enter Tryd.func127, Tryd.ntmps127
    go_wp2
    go_ret
    exact ⟨by rw [HV.out]; rfl, rfl⟩
/-- Whether a family is among those of a session. -/
def famIn (a3 : Bool) (x : Int) : Bool := decide (x = 1) || (decide (x = 2) && a3)
end Go.Proofs.YtniheakafkakhaaDoor

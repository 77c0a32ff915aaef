/- refresh.Useful, peerageref19.Useful -/
import Derived.Test.YtiehbmhekncbhaaDoorRfE
namespace Go.Proofs.YtiehbmhekncbhaaDoor
open Go.RowKit Extern.Stop

theorem and_nine {W : World} {a b c d e f g h i : Addr} {x y z t u v q r s : Value} (h1 : W.cell? a = some x) (h2 : W.cell? b = some y) (h3 : W.cell? c = some z) (h4 : W.cell? d = some t) (h5 : W.cell? e = some u) (h6 : W.cell? f = some v) (h7 : W.cell? g = some q) (h8 : W.cell? h = some r) (h9 : W.cell? i = some s) :
    W.cell? a = some x ∧ W.cell? b = some y ∧ W.cell? c = some z ∧ W.cell? d = some t ∧ W.cell? e = some u ∧ W.cell? f = some v ∧ W.cell? g = some q ∧ W.cell? h = some r ∧ W.cell? i = some s := ⟨h1, h2, h3, h4, h5, h6, h7, h8, h9⟩
/-- The cells of options in one block and of three ints in another. -/
theorem own_nine {W : World} {g k : Nat} {T U : TypeId} {a0 a1 a2 a3 a4 a5 : Bool} {a b c : Int} (o : Own W g T #[.bool a0, .bool a1, .bool a2, .bool a3, .bool a4, .bool a5]) (p : Own W k U #[.int .i64 a, .int .i64 b, .int .i64 c]) :
    W.cell? ⟨g, 0, none⟩ = some (.bool a0) ∧ W.cell? ⟨g, 1, none⟩ = some (.bool a1) ∧ W.cell? ⟨g, 2, none⟩ = some (.bool a2) ∧ W.cell? ⟨g, 3, none⟩ = some (.bool a3) ∧ W.cell? ⟨g, 4, none⟩ = some (.bool a4) ∧ W.cell? ⟨g, 5, none⟩ = some (.bool a5) ∧ W.cell? ⟨k, 0, none⟩ = some (.int .i64 a) ∧ W.cell? ⟨k, 1, none⟩ = some (.int .i64 b) ∧ W.cell? ⟨k, 2, none⟩ = some (.int .i64 c) :=
  ⟨o.cell rfl, o.cell rfl, o.cell rfl, o.cell rfl, o.cell rfl, o.cell rfl, p.cell rfl, p.cell rfl, p.cell rfl⟩
/-- Whether a refresh is useful. -/
def rfUse (a3 : Bool) (a b c : Int) : Bool := rfOk a b c && decide (b ≤ 2) && famIn a3 (famOf a c)
theorem rfOk_bounds {a b c : Int} (h : rfOk a b c = true) : 0 ≤ a ∧ a ≤ 65535 ∧ 0 ≤ b ∧ b ≤ 255 ∧ 0 ≤ c ∧ c ≤ 255 := by
  simp only [rfOk, Bool.and_eq_true, decide_eq_true_eq] at h
  omega
theorem famOf_cases (a c : Int) : famOf a c = 0 ∨ famOf a c = 1 ∨ famOf a c = 2 := by
  unfold famOf
  split
  · omega
  · exact .inl rfl
end Go.Proofs.YtiehbmhekncbhaaDoor

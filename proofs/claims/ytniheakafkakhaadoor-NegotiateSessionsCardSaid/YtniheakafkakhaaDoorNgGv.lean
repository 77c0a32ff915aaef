/- layer 22: both OPENs are made: what the region leaves -/
import Derived.Test.YtniheakafkakhaaDoorNgM2
import Derived.Deep.DeepCutAuto
namespace Go.Proofs.YtniheakafkakhaaDoor
open Go.RowKit Go.Sort
def sets4 (w : World) (g : Nat) (a b c d : Value) : World := (((w.setCell ⟨g, 0, none⟩ a).setCell ⟨g, 1, none⟩ b).setCell ⟨g, 2, none⟩ c).setCell ⟨g, 3, none⟩ d
section
variable {w : World} {g : Nat} {a b c d : Value}
theorem sets4_own {T : TypeId} {x0 x1 x2 x3 : Value} (h : Own w g T #[x0, x1, x2, x3]) : Own (sets4 w g a b c d) g T #[a, b, c, d] := (((h.set_ 0 a).set_ 1 b).set_ 2 c).set_ 3 d
theorem sets4_far {k : Nat} {T : TypeId} {cs : Array Value} (h : Own w k T cs) (hk : k ≠ g) : Own (sets4 w g a b c d) k T cs := (((h.far (p := ⟨g, 0, none⟩) hk a).far (p := ⟨g, 1, none⟩) hk b).far (p := ⟨g, 2, none⟩) hk c).far (p := ⟨g, 3, none⟩) hk d
theorem sets4_below {w0 : World} {B : Nat} (h : Below B w0 w) (hg : B ≤ g) : Below B w0 (sets4 w g a b c d) := (((h.setCell (p := ⟨g, 0, none⟩) hg a).setCell (p := ⟨g, 1, none⟩) hg b).setCell (p := ⟨g, 2, none⟩) hg c).setCell (p := ⟨g, 3, none⟩) hg d
end
theorem sets4_size {w : World} {g : Nat} {a b c d : Value} : (sets4 w g a b c d).heap.size = w.heap.size := by simp [sets4]
theorem sets4_caps {w : World} {g n : Nat} {A : Option Addr} {ss : List Cp} {T : TypeId} {p q r : Int} {v : Value} (h : Caps w w.heap.size A n ss) (ho : Own w g T #[.int .u32 0, .int .i64 0, .int .u32 0, .slice none 0 0]) : Caps (sets4 w g (.int .u32 p) (.int .i64 q) (.int .u32 r) v) (sets4 w g (.int .u32 p) (.int .i64 q) (.int .u32 r) v).heap.size A n ss := by
  rw [sets4_size]
  exact (((h.otherW ho (noCap_open 0 0 0 _ (by simp) (by simp)) 0 (.int .u32 p)).otherW (ho.set_ 0 (.int .u32 p)) (noCap_open p 0 0 _ (by simp) (by simp)) 1 (.int .i64 q)).otherW ((ho.set_ 0 (.int .u32 p)).set_ 1 (.int .i64 q)) (noCap_open p q 0 _ (by simp) (by simp)) 2 (.int .u32 r)).otherW (((ho.set_ 0 (.int .u32 p)).set_ 1 (.int .i64 q)).set_ 2 (.int .u32 r)) (noCap_open p q r _ (by simp) (by simp)) 3 v
/-- What the region leaves that makes both OPENs. -/
def GivX (w2 : World) (p q r : Int) (n : Nat) (p' q' r' : Int) (n' : Nat) (ss ts : List Cp) (v5 v6 : Value) (wx : World) : Prop := ∃ g5 g6 A1 c1 A3 c3, v5 = .pointer (some ⟨g5, 0, none⟩) ∧ v6 = .pointer (some ⟨g6, 0, none⟩) ∧ Own wx g5 47 #[.int .u32 p, .int .i64 q, .int .u32 r, .slice A1 n c1] ∧ Own wx g6 47 #[.int .u32 p', .int .i64 q', .int .u32 r', .slice A3 n' c3] ∧ Caps wx wx.heap.size A1 n ss ∧ Caps wx wx.heap.size A3 n' ts ∧ Below w2.heap.size w2 wx
end Go.Proofs.YtniheakafkakhaaDoor

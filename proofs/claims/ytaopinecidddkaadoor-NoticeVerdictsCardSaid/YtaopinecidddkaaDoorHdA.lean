/- The table of kinds; header.find, Limit, Least, Name, allows; peerageref04.Limit, Least -/
import Derived.Test.YtaopinecidddkaaDoorPfxB
namespace Go.Proofs.YtaopinecidddkaaDoor
open Go.RowKit

def hName (k : Int) : ByteArray := if k = 1 then ⟨#[79, 80, 69, 78]⟩ else if k = 2 then ⟨#[85, 80, 68, 65, 84, 69]⟩ else if k = 3 then ⟨#[78, 79, 84, 73, 70, 73, 67, 65, 84, 73, 79, 78]⟩ else if k = 4 then ⟨#[75, 69, 69, 80, 65, 76, 73, 86, 69]⟩ else if k = 5 then ⟨#[82, 79, 85, 84, 69, 45, 82, 69, 70, 82, 69, 83, 72]⟩ else ⟨#[]⟩
def hLeast (k : Int) : Int := if k = 1 then 29 else if k = 2 then 23 else if k = 3 then 21 else if k = 4 then 19 else if k = 5 then 23 else 0
def hPlain (k : Int) : Int := if k = 1 then 4096 else if k = 2 then 4096 else if k = 3 then 4096 else if k = 4 then 19 else if k = 5 then 23 else 0
def hExt (k : Int) : Int := if k = 1 then 4096 else if k = 2 then 65535 else if k = 3 then 65535 else if k = 4 then 19 else if k = 5 then 23 else 0
def hLim (x : Bool) (k : Int) : Int := if x then hExt k else hPlain k
theorem hKinds (k : Int) : k = 1 ∨ k = 2 ∨ k = 3 ∨ k = 4 ∨ k = 5 ∨ (hName k = ⟨#[]⟩ ∧ hLeast k = 0 ∧ hPlain k = 0 ∧ hExt k = 0 ∧ k ≠ 1 ∧ k ≠ 2 ∧ k ≠ 3 ∧ k ≠ 4 ∧ k ≠ 5) := by
  by_cases h1 : k = 1
  · exact .inl h1
  by_cases h2 : k = 2
  · exact .inr (.inl h2)
  by_cases h3 : k = 3
  · exact .inr (.inr (.inl h3))
  by_cases h4 : k = 4
  · exact .inr (.inr (.inr (.inl h4)))
  by_cases h5 : k = 5
  · exact .inr (.inr (.inr (.inr (.inl h5))))
  exact .inr (.inr (.inr (.inr (.inr ⟨by simp [hName, h1, h2, h3, h4, h5], by simp [hLeast, h1, h2, h3, h4, h5], by simp [hPlain, h1, h2, h3, h4, h5], by simp [hExt, h1, h2, h3, h4, h5], h1, h2, h3, h4, h5⟩))))
/-- The row of a kind. -/
def hRow (k : Int) : Array Value := #[.string (hName k), .int .i64 (hLeast k), .int .i64 (hPlain k), .int .i64 (hExt k)]
theorem own_four {w : World} {g : Nat} {t : TypeId} {a b c d : Value} (h : Own w g t #[a, b, c, d]) (x y z u : Value) :
    Own ((((w.setCell ⟨g, 0, none⟩ x).setCell ⟨g, 1, none⟩ y).setCell ⟨g, 2, none⟩ z).setCell ⟨g, 3, none⟩ u) g t #[x, y, z, u] := by
  have h2 := (((h.set_ 0 x).set_ 1 y).set_ 2 z).set_ 3 u
  simpa using h2
/-- Whether messages of a kind may have a length. -/
def hAllow (x : Bool) (k n : Int) : Bool := decide (hLeast k ≤ n) && decide (n ≤ hLim x k)
end Go.Proofs.YtaopinecidddkaaDoor

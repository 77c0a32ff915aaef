/- nlri.Read: the walk -/
import Derived.Test.YtngeldgohijheaaDoorNd
namespace Go.Proofs.YtngeldgohijheaaDoor
open Go.RowKit

theorem gr_row {a b c : World} {g : Nat} {row : Option Nat} (h : a.grownBy b (some g)) (k : b.grownBy c row) (hr : ∀ j, row = some j → a.heap.size ≤ j) : a.grownBy c (some g) :=
  ⟨k.os.trans h.os, k.tape.trans h.tape, k.output.trans h.output, Nat.le_trans h.size k.size, fun i hi hne => (k.block i (Nat.lt_of_lt_of_le hi h.size) (fun e => by have := hr i e.symm; omega)).trans (h.block i hi hne)⟩
theorem RdrB.row {B : Nat} {w w' : World} {g : Nat} {xs : List Int} {p : Nat} {row : Option Nat} (h : RdrB B w g xs p) (k : w.grownBy w' row) (hr : ∀ j, row = some j → B ≤ j ∧ g < j) : RdrB B w' g xs p :=
  h.keep k.size (fun b hb => k.block b (by have := h.size; have := h.lt; omega) (fun e => by have := hr b e.symm; omega))

/-- What nlri.Read returns. -/
def ReadsTo (f : Int) (add : Bool) (xs : List Int) (w : World) (v : Value) (at_ : Int) : Prop :=
  (∃ rs A c, at_ = -1 ∧ Parsed f add xs xs.length rs ∧ v = .slice A rs.length c ∧ rs.length ≤ c ∧ Routes w w.heap.size A rs.length rs) ∨
  (∃ p rs, at_ = ((p : Nat) : Int) ∧ p < xs.length ∧ Parsed f add xs p rs ∧ oneOk f add (xs.drop p) = false ∧ v = .slice none 0 0)

end Go.Proofs.YtngeldgohijheaaDoor

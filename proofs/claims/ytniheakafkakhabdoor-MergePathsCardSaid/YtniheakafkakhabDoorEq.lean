/- slices.Equal at bytes -/
import Derived.Test.YtniheakafkakhabDoorPut
import Derived.Deep.QuietTactic
import Derived.BigQuiet
namespace Go.Proofs.YtniheakafkakhabDoor
open Go.RowKit

theorem take_eq_succ {xs ys : List Int} {k : Nat} (hx : k < xs.length) (hy : k < ys.length) (h : xs.take k = ys.take k) (e : nth xs k = nth ys k) : xs.take (k + 1) = ys.take (k + 1) := by
  rw [take_nth hx, take_nth hy, h, e]
theorem ne_of_nth {xs ys : List Int} {k : Nat} (e : nth xs k ≠ nth ys k) : xs ≠ ys := by rintro rfl; exact e rfl

end Go.Proofs.YtniheakafkakhabDoor

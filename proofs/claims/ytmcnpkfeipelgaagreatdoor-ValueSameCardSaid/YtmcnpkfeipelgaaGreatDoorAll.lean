/- octet.All -/
import Derived.Test.YtmcnpkfeipelgaaGreatDoorWords
import Derived.Test.YtmcnpkfeipelgaaGreatDoorRows
namespace Go.Proofs.YtmcnpkfeipelgaaGreatDoor
open Go.RowKit

theorem all_take {xs : List Int} {x : Int} {k : Nat} (h : k < xs.length) (e : nth xs k = x) (ha : (xs.take k).all (· == x) = true) : (xs.take (k + 1)).all (· == x) = true := by
  rw [take_nth h, List.all_append, ha]; simp [e]
theorem all_not {xs : List Int} {x : Int} {k : Nat} (h : k < xs.length) (e : nth xs k ≠ x) : xs.all (· == x) = false := by
  rw [List.all_eq_false]; exact ⟨_, nth_mem h, by simpa using e⟩

end Go.Proofs.YtmcnpkfeipelgaaGreatDoor

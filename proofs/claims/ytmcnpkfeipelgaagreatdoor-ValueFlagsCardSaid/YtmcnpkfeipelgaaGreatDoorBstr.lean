/- Bytes as a string -/
import Derived.Test.YtmcnpkfeipelgaaGreatDoorOwn
import Derived.Test.YtmcnpkfeipelgaaGreatDoorRows
import Derived.Laws.BytesArg
namespace Go.Proofs.YtmcnpkfeipelgaaGreatDoor
open Go.RowKit

set_option maxRecDepth 100000 in
theorem bytes_str {w : World} {B : Nat} {A : Option Addr} {n c : Nat} {xs : List Int} (hx : Bytes w B A n xs) : (convert 25 9 (.slice A n c)).run Tryz.prog w = Result.ok (.string (strOfNums xs)) w := by
  have hlen : xs.length = n := hx.1.symm
  rcases hx.2.2 with h0 | ⟨b, o, rfl, hb, hc⟩
  · obtain rfl : xs = [] := by simpa using h0
    cases A with
    | none => exact run_convert_bytes_nil w 25 5 Tryz.underlying25 Tryz.underlying5 n c 9 Tryz.underlying9
    | some a =>
      obtain ⟨b, o, s⟩ := a
      obtain rfl : n = 0 := by rw [hx.1]; rfl
      cases s with
      | none => exact run_convert_bytes_arg w 25 5 Tryz.underlying25 Tryz.underlying5 b o 0 c [] rfl (fun i hi => absurd hi (Nat.not_lt_zero i)) 9 Tryz.underlying9
      | some s =>
        rw [run_convert_bytes_string w _ _ 5 _ _ _ Tryz.underlying25 Tryz.underlying5 Tryz.underlying9, run_bytesToString w _ 0 c [] (by simpa using run_loadCells_list (P := Tryz.prog) w _ [] (fun j v hj => by simp at hj))]
        rfl
  · refine run_convert_bytes_arg w 25 5 Tryz.underlying25 Tryz.underlying5 b o n c xs hlen (fun i hi => ?_) 9 Tryz.underlying9
    have hi2 : i < xs.length := by omega
    exact hc i _ (by rw [List.getElem?_map, nth_some hi2]; rfl)
end Go.Proofs.YtmcnpkfeipelgaaGreatDoor

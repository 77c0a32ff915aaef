/- peerageref01.Same, peerageref04.Same at what is equal -/
import Derived.Test.YtaopinecidddkaaDoorHdG
import Derived.Laws.BytesArg
import Derived.Test.YtaopinecidddkaaDoorHdH
namespace Go.Proofs.YtaopinecidddkaaDoor
open Go.RowKit

set_option maxRecDepth 100000 in
theorem bytes_str {w : World} {B : Nat} {A : Option Addr} {n c : Nat} {xs : List Int} (hx : Bytes w B A n xs) : (convert 24 9 (.slice A n c)).run Tryd.prog w = Result.ok (.string (strOfNums xs)) w := by
  have hlen : xs.length = n := hx.1.symm
  rcases hx.2.2 with h0 | ⟨b, o, rfl, hb, hc⟩
  · obtain rfl : xs = [] := by simpa using h0
    cases A with
    | none => exact run_convert_bytes_nil w 24 5 Tryd.underlying24 Tryd.underlying5 n c 9 Tryd.underlying9
    | some a =>
      obtain ⟨b, o, s⟩ := a
      obtain rfl : n = 0 := by rw [hx.1]; rfl
      cases s with
      | none => exact run_convert_bytes_arg w 24 5 Tryd.underlying24 Tryd.underlying5 b o 0 c [] rfl (fun i hi => absurd hi (Nat.not_lt_zero i)) 9 Tryd.underlying9
      | some s =>
        rw [run_convert_bytes_string w _ _ 5 _ _ _ Tryd.underlying24 Tryd.underlying5 Tryd.underlying9, run_bytesToString w _ 0 c [] (by simpa using run_loadCells_list (P := Tryd.prog) w _ [] (fun j v hj => by simp at hj))]
        rfl
  · refine run_convert_bytes_arg w 24 5 Tryd.underlying24 Tryd.underlying5 b o n c xs hlen (fun i hi => ?_) 9 Tryd.underlying9
    have hi2 : i < xs.length := by omega
    exact hc i _ (by rw [List.getElem?_map, nth_some hi2]; rfl)
set_option maxRecDepth 100000 in
theorem rsame1_same (A A2 : Option Addr) (n n2 c c2 : Nat) (xs : List Int) (w : World) (B B2 : Nat) (hx : Bytes w B A n xs) (hy : Bytes w B2 A2 n2 xs) :
    Calls Tryd.prog 53 #[.slice A n c, .slice A2 n2 c2] w fun e w' => e = .returned (.bool true) ∧ w = w' := by
  have h1 := bytes_str (c := c) hx
  have h2 := bytes_str (c := c2) hy
  generalize strOfNums xs = s at h1 h2
  go_enter Tryd.func53, Tryd.ntmps53
  go_wp2
  go_ret
  exact ⟨by simp, rfl⟩
set_option maxRecDepth 100000 in
set_option maxHeartbeats 800000 in
theorem vsame_same (a b c d : Int) (A A2 : Option Addr) (n n2 c1 c2 : Nat) (xs : List Int) (w : World) (hx : Bytes w w.heap.size A n xs) (hy : Bytes w w.heap.size A2 n2 xs) :
    Calls Tryd.prog 21 #[.agg #[.int .i64 a, .int .i64 b, .int .i64 c, .slice A n c1, .int .i64 d], .agg #[.int .i64 a, .int .i64 b, .int .i64 c, .slice A2 n2 c2, .int .i64 d]] w fun e w' => e = .returned (.bool true) ∧ Below w.heap.size w w' := by
  have hb := bl_alloc (bl_alloc (bl_refl w) (.cells #[.int .i64 a, .int .i64 b, .int .i64 c, .slice A n c1, .int .i64 d] 26)) (.cells #[.int .i64 a, .int .i64 b, .int .i64 c, .slice A2 n2 c2, .int .i64 d] 26)
  have hx1 := hx.below hb
  have hy1 := hy.below hb
  have qa : (a == a) = true := by simp
  have qb : (b == b) = true := by simp
  have qc : (c == c) = true := by simp
  have qd : (d == d) = true := by simp
  go_enter Tryd.func21, Tryd.ntmps21
  go_wp2_with fail
  refine (rsame1_same _ _ _ _ _ _ _ _ _ _ hx1 hy1).mono ?_
  rintro e w1 ⟨rfl, rfl⟩
  go_wp2
  go_ret
  exact ⟨rfl, hb⟩
end Go.Proofs.YtaopinecidddkaaDoor

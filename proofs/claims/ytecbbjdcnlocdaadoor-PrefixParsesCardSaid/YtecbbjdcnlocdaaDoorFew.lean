/- peerageref06.Few, small -/
import Derived.Test.YtecbbjdcnlocdaaDoorSg
namespace Go.Proofs.YtecbbjdcnlocdaaDoor
open Go.RowKit

def fewTo (ss : List Sg) (k : Nat) : Nat := ((ss.take k).map fun s => min s.n 1000).sum
theorem fewTo_le (ss : List Sg) (k : Nat) : fewTo ss k ≤ 1000 * k := by
  unfold fewTo
  induction k generalizing ss with
  | zero => simp
  | succ k ih =>
    rcases ss with _ | ⟨s, ss⟩
    · simp
    · have := ih ss
      simp only [List.take_succ_cons, List.map_cons, List.sum_cons]
      omega
theorem fewTo_succ {ss : List Sg} {k : Nat} (h : k < ss.length) : fewTo ss (k + 1) = fewTo ss k + min (sgth ss k).n 1000 := by
  unfold fewTo
  rw [List.take_add_one, sgth_some h]
  simp
def fewB (ss : List Sg) : Bool := decide (ss.length ≤ 50 ∧ fewTo ss ss.length ≤ 600)
set_option maxRecDepth 100000 in
theorem sl_segs : SliceOf Tryd.prog 22 61 2 32 := SliceOf.mk Tryd.underlying22 (z := .agg #[.int .i64 0, .slice none 0 0]) (by kernel_rfl) rfl (by decide)
set_option maxRecDepth 100000 in
set_option maxHeartbeats 800000 in
theorem few_any (A : Option Addr) (n c : Nat) (ss : List Sg) (w : World) (hx : Segs w w.heap.size A n ss) (hm : n ≤ maxLen) :
    Calls Tryd.prog 8 #[.slice A n c] w fun e w' => e = .returned (.bool (fewB ss)) ∧ w = w' := by
  unfold maxLen at hm
  have HN := Lib.hid hx.1
  by_cases hn : n ≤ 50
  · go_enter Tryd.func8, Tryd.ntmps8
    go_wp2
    go_loop [3, 4] (fun s i => ∃ k : Nat, k ≤ n ∧ i = .int .i64 k ∧ s = .int .i64 (fewTo ss k : Nat)) (fun _ i => n - (intOf i).toNat)
    case atStart => exact ⟨0, Nat.zero_le _, rfl, rfl⟩
    case round =>
      obtain ⟨k, hk, rfl, rfl⟩ := hrel
      by_cases hlt : k < n
      · obtain ⟨b, o, rfl, hb, hc0, hc1⟩ := hx.at_ hlt
        have hle := fewTo_le ss k
        have hsu := Lib.hid (fewTo_succ (ss := ss) (k := k) (by have := HN.out; omega))
        generalize (sgth ss k).n = m at *
        generalize fewTo ss k = t at *
        go_wp2
        go_round
        case rel => exact ⟨k + 1, by omega, by go_num, by rw [hsu.out]; go_num⟩
        case measure => simp [intOf]; omega
      · obtain rfl : k = n := by omega
        have hle := fewTo_le ss k
        have hO : Hid (fewB ss = decide ((fewTo ss k : Int) ≤ 600)) := Lib.hid (by unfold fewB; rw [← HN.out]; rw [Bool.eq_iff_iff]; simp only [decide_eq_true_eq]; omega)
        generalize fewTo ss k = t at *
        go_wp2
        go_ret
        exact ⟨by rw [hO.out]; rfl, rfl⟩
  · have hO : Hid (fewB ss = false) := Lib.hid (by unfold fewB; rw [← HN.out]; exact decide_eq_false (by omega))
    have dn : decide ((n : Int) ≤ 50) = false := by simp; omega
    go_enter Tryd.func8, Tryd.ntmps8
    go_wp2
    go_loop [3, 4] (fun s i => ∃ k : Nat, k ≤ n ∧ i = .int .i64 k ∧ ∃ z, s = .int .i64 z) (fun _ i => n - (intOf i).toNat)
    case atStart => exact ⟨0, Nat.zero_le _, rfl, _, rfl⟩
    case round =>
      obtain ⟨k, hk, rfl, z, rfl⟩ := hrel
      by_cases hlt : k < n
      · obtain ⟨b, o, rfl, hb, hc0, hc1⟩ := hx.at_ hlt
        generalize (sgth ss k).n = m at *
        go_wp2
        go_round
        case rel => exact ⟨k + 1, by omega, by go_num, _, rfl⟩
        case measure => simp [intOf]; omega
      · obtain rfl : k = n := by omega
        go_wp2
        go_ret
        exact ⟨by rw [hO.out]; rfl, rfl⟩
/-- Whether an attribute is small. -/
def smallB (a : At) (ss : List Sg) : Bool := fewB ss && decide (a.n2 ≤ 300 ∧ a.n3 ≤ 600 ∧ a.n4 ≤ 100)
end Go.Proofs.YtecbbjdcnlocdaaDoor

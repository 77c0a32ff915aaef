/- slices.Equal at bytes -/
import Derived.Test.YtmcnpkfeipelgaaGreatDoorPut
import Derived.Deep.QuietTactic
import Derived.BigQuiet
namespace Go.Proofs.YtmcnpkfeipelgaaGreatDoor
open Go.RowKit

theorem take_eq_succ {xs ys : List Int} {k : Nat} (hx : k < xs.length) (hy : k < ys.length) (h : xs.take k = ys.take k) (e : nth xs k = nth ys k) : xs.take (k + 1) = ys.take (k + 1) := by
  rw [take_nth hx, take_nth hy, h, e]
theorem ne_of_nth {xs ys : List Int} {k : Nat} (e : nth xs k ≠ nth ys k) : xs ≠ ys := by rintro rfl; exact e rfl

set_option maxRecDepth 100000 in
theorem bytesEq_any (A A' : Option Addr) (n n' c c' : Nat) (xs ys : List Int) (w : World) (B B' : Nat) (hx : Bytes w B A n xs) (hy : Bytes w B' A' n' ys) (hn : n ≤ 1000000000) (hn' : n' ≤ 1000000000) :
    Calls Tryz.prog 25 #[.slice A n c, .slice A' n' c'] w fun e w' => e = .returned (.bool (decide (xs = ys))) ∧ ∃ m, w.drewN m = w' := by
  have HN := Lib.hid hx.1
  have HN' := Lib.hid hy.1
  by_cases hne : n = n'
  · subst hne
    go_enter Tryz.func25, Tryz.ntmps25
    go_wp2
    go_loopw [4, 5, 13] (fun _ _ i wr => ∃ (k m : Nat), k ≤ n ∧ i = .int .i64 k ∧ xs.take k = ys.take k ∧ wr = w.drewN m) (fun _ _ i _ => n - (intOf i).toNat)
    case atStart => exact ⟨0, 0, Nat.zero_le _, rfl, by simp, rfl⟩
    case round =>
      obtain ⟨k, m, hk, rfl, heq, rfl⟩ := hrel
      have HEQ := Lib.hid heq
      clear heq
      by_cases hlt : k < n
      · obtain ⟨b, o, rfl, hb, hc, h0, h1⟩ := hx.at_ hlt
        obtain ⟨b', o', rfl, hb', hc', h0', h1'⟩ := hy.at_ hlt
        have hkx : k < xs.length := HN.out ▸ hlt
        have hky : k < ys.length := HN'.out ▸ hlt
        by_cases he : nth xs k = nth ys k
        · have he1 : (nth xs k != nth ys k) = false := by simp [he]
          have HE := Lib.hid he
          clear he
          go_wp2
          go_quiet (fail)
          go_wp2
          go_roundw
          case rel => exact ⟨k + 1, _, by omega, by go_num, take_eq_succ hkx hky HEQ.out HE.out, rfl⟩
          case measure => simp [intOf]; omega
        · have he1 : (nth xs k != nth ys k) = true := by simp [he]
          have HE := Lib.hid he
          clear he
          go_wp2
          go_quiet (fail)
          go_wp2
          go_ret
          exact ⟨by rw [decide_eq_false (ne_of_nth HE.out)]; rfl, m + nq, by simp⟩
      · have e : xs = ys := by
          have h1 := HN.out
          have h2 := HN'.out
          have h3 := HEQ.out
          rw [List.take_of_length_le (by omega), List.take_of_length_le (by omega)] at h3
          exact h3
        have HE := Lib.hid e
        clear e
        go_wp2
        go_ret
        exact ⟨by rw [decide_eq_true HE.out]; rfl, _, rfl⟩
  · have he1 : ((n : Int) != (n' : Int)) = true := by rw [bne_iff_ne]; omega
    have e : xs ≠ ys := by
      rintro rfl
      exact hne (HN.out.trans HN'.out.symm)
    clear hne
    go_enter Tryz.func25, Tryz.ntmps25
    go_wp2
    go_ret
    exact ⟨by rw [decide_eq_false e]; rfl, 0, rfl⟩
end Go.Proofs.YtmcnpkfeipelgaaGreatDoor

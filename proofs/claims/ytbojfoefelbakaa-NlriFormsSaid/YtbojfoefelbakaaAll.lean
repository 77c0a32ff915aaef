/- octet.All -/
import Derived.Test.YtbojfoefelbakaaWords
import Derived.Test.YtbojfoefelbakaaRows
namespace Go.Proofs.Ytbojfoefelbakaa
open Go.RowKit

theorem all_take {xs : List Int} {x : Int} {k : Nat} (h : k < xs.length) (e : nth xs k = x) (ha : (xs.take k).all (· == x) = true) : (xs.take (k + 1)).all (· == x) = true := by
  rw [take_nth h, List.all_append, ha]; simp [e]
theorem all_not {xs : List Int} {x : Int} {k : Nat} (h : k < xs.length) (e : nth xs k ≠ x) : xs.all (· == x) = false := by
  rw [List.all_eq_false]; exact ⟨_, nth_mem h, by simpa using e⟩

set_option maxRecDepth 100000 in
theorem all_any (x : Int) (A : Option Addr) (n c : Nat) (xs : List Int) (w : World) (B : Nat) (hx : Bytes w B A n xs) (hn : n ≤ 1000000000) :
    Calls Try.prog 24 #[.int .u8 x, .slice A n c] w fun e w' => e = .returned (.bool (xs.all (· == x))) ∧ w = w' := by
  have HN := Lib.hid hx.1
  go_enter Try.func24, Try.ntmps24
  go_wp2
  go_loop [4, 6, 9] (fun _ _ i => ∃ k : Nat, k ≤ n ∧ i = .int .i64 k ∧ (xs.take k).all (· == x) = true) (fun _ _ i => n - (intOf i).toNat)
  case atStart => exact ⟨0, Nat.zero_le _, rfl, by simp⟩
  case round =>
    obtain ⟨k, hk, rfl, hall⟩ := hrel
    have HA := Lib.hid hall
    clear hall
    by_cases hlt : k < n
    · obtain ⟨b, o, rfl, hb, hc, h0, h1⟩ := hx.at_ hlt
      have hkx : k < xs.length := HN.out ▸ hlt
      by_cases he : nth xs k = x
      · have he1 : (nth xs k != x) = false := by simp [he]
        have HE := Lib.hid he
        clear he
        go_wp2
        go_round
        case rel => exact ⟨k + 1, by omega, by go_num, all_take hkx HE.out HA.out⟩
        case measure => simp [intOf]; omega
      · have he1 : (nth xs k != x) = true := by simp [he]
        have HE := Lib.hid he
        clear he
        go_wp2
        go_ret
        exact ⟨by rw [all_not hkx HE.out]; rfl, rfl⟩
    · have e : k = xs.length := by have := HN.out; omega
      have HE := Lib.hid e
      clear e
      go_wp2
      go_ret
      exact ⟨by have := HA.out; rw [HE.out, List.take_length] at this; rw [this]; rfl, rfl⟩
end Go.Proofs.Ytbojfoefelbakaa

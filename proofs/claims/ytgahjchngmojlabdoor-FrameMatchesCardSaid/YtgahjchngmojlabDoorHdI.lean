/- slices.IndexFunc at bytes that are not 255 -/
import Derived.Test.YtgahjchngmojlabDoorHdH
namespace Go.Proofs.YtgahjchngmojlabDoor
open Go.RowKit

set_option maxRecDepth 100000 in
theorem idx_any (F : Value) (hF : F = .func (.func 55) #[] #[]) (A : Option Addr) (n c : Nat) (xs : List Int) (w : World) (B : Nat) (hx : Bytes w B A n xs) (hn : n ≤ 1000000000) :
    Calls Tryd.prog 54 #[.slice A n c, F] w fun e w' => w = w' ∧ ((e = .returned (.int .i64 (-1)) ∧ ∀ j, j < n → nth xs j = 255) ∨ ∃ i : Nat, i < n ∧ e = .returned (.int .i64 i) ∧ (∀ j, j < i → nth xs j = 255) ∧ nth xs i ≠ 255) := by
  subst hF
  go_enter Tryd.func54, Tryd.ntmps54
  go_wp2
  go_loop [8] (fun i => ∃ k : Nat, k ≤ n ∧ i = .int .i64 k ∧ ∀ j, j < k → nth xs j = 255) (fun i => n - (intOf i).toNat)
  case atStart => exact ⟨0, Nat.zero_le _, rfl, fun j hj => absurd hj (Nat.not_lt_zero j)⟩
  case round =>
    obtain ⟨k, hk, rfl, hall⟩ := hrel
    have HA := Lib.hid hall
    clear hall
    by_cases hlt : k < n
    · obtain ⟨b, o, rfl, hb, hc, h0, h1⟩ := hx.at_ hlt
      by_cases he : nth xs k = 255
      · have e1 : (nth xs k != 255) = false := by simpa using he
        have HE := Lib.hid he
        clear he
        go_wp2
        go_round
        case rel => exact ⟨k + 1, by omega, by go_num, fun j hj => by
          rcases Nat.lt_succ_iff_lt_or_eq.1 hj with h | rfl
          · exact HA.out j h
          · exact HE.out⟩
        case measure => simp [intOf]; omega
      · have e1 : (nth xs k != 255) = true := by simpa using he
        have HE := Lib.hid he
        clear he
        go_wp2
        go_ret
        exact ⟨rfl, .inr ⟨k, hlt, rfl, HA.out, HE.out⟩⟩
    · have hkn : k = n := by omega
      have HK := Lib.hid hkn
      clear hkn
      go_wp2
      go_ret
      exact ⟨rfl, .inl ⟨rfl, fun j hj => HA.out j (by have := HK.out; omega)⟩⟩
end Go.Proofs.YtgahjchngmojlabDoor

/- peerageref01: All, Cat, Take, Part, Big, Number -/
import Derived.Test.YtniheakafkakhaaEq
import Derived.Test.YtniheakafkakhaaAll
import Derived.Deep.RegionWith
namespace Go.Proofs.Ytniheakafkakhaa
open Go.RowKit

/-- The slice (A1, m) holds what the slice (A, n) holds behind its first k bytes, in every world. -/
def Behind (A : Option Addr) (n k : Nat) (A1 : Option Addr) : Prop := ∀ (W : World) (B : Nat) (xs : List Int), Bytes W B A n xs → Bytes W B A1 (n - k) (xs.drop k)

set_option maxRecDepth 100000 in
set_option maxHeartbeats 400000 in
theorem rbig_any (A : Option Addr) (n c : Nat) (xs : List Int) (w : World) (B : Nat) (hx : Bytes w B A n xs) (hn : n ≤ 4) :
    Calls Try.prog 27 #[.slice A n c] w fun e w' => e = .returned (.int .u32 (big xs)) ∧ w = w' := by
  have HN := Lib.hid hx.1
  go_enter Try.func27, Try.ntmps27
  go_wp2
  go_loop [3, 4] (fun s i => ∃ k : Nat, k ≤ n ∧ i = .int .i64 k ∧ s = .int .u32 (big (xs.take k))) (fun _ i => n - (intOf i).toNat)
  case atStart => exact ⟨0, Nat.zero_le _, rfl, rfl⟩
  case round =>
    obtain ⟨k, hk, rfl, rfl⟩ := hrel
    by_cases hlt : k < n
    · obtain ⟨b, o, rfl, hb, hc, h0, h1⟩ := hx.at_ hlt
      have hkx : k < xs.length := HN.out ▸ hlt
      have hbt := big_take_lt (m := n) k hx.2.1 hn hlt
      rw [show (xs.take n) = xs from List.take_of_length_le (by have := HN.out; omega)] at hbt
      have hsn := Lib.hid (big_snoc (xs.take k) (nth xs k))
      have htk := Lib.hid (take_nth hkx)
      go_wp2
      go_round
      case rel => exact ⟨k + 1, by omega, by go_num, by rw [htk.out, hsn.out]⟩
      case measure => simp [intOf]; omega
    · have e : xs.take k = xs := List.take_of_length_le (by have := HN.out; omega)
      have HE := Lib.hid e
      clear e
      go_wp2
      go_ret
      exact ⟨by show Ending.returned (.int .u32 (big (xs.take k))) = _; rw [HE.out], rfl⟩

end Go.Proofs.Ytniheakafkakhaa

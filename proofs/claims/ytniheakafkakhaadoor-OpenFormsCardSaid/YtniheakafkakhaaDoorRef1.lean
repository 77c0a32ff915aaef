/- peerageref01: All, Cat, Take, Part, Big, Number -/
import Derived.Test.YtniheakafkakhaaDoorEq
import Derived.Test.YtniheakafkakhaaDoorAll
import Derived.Deep.RegionWith
namespace Go.Proofs.YtniheakafkakhaaDoor
open Go.RowKit

set_option maxRecDepth 100000 in
set_option maxHeartbeats 400000 in
theorem rcat_any (A : Option Addr) (n c : Nat) (ps : List Part) (w : World) (hx : Parts w w.heap.size A n ps) (hn : n ≤ 1000000000) (hl : (flat ps).length ≤ 1000000000) :
    Calls Tryd.prog 74 #[.slice A n c] w fun e w' => ∃ v, e = .returned v ∧
      w'.ownsRow w.heap.size 5 1 v (flat ps).length ((flat ps).map (Value.int .u8)) ∧ Below w.heap.size w w' := by
  have HN := Lib.hid hx.1
  go_enter Tryd.func74, Tryd.ntmps74
  go_wp2
  go_loopw [3, 4] (fun v i wr => ∃ j : Nat, j ≤ n ∧ i = .int .i64 j ∧
    wr.ownsRow w.heap.size 5 1 v (lenTo ps j) ((flat (ps.take j)).map (Value.int .u8)) ∧ Below w.heap.size w wr) (fun _ i _ => n - (intOf i).toNat)
  case atStart => exact ⟨0, Nat.zero_le _, rfl, World.ownsRow_nil _ _ _ _, Below.refl _ _⟩
  case round =>
    obtain ⟨j, hj, rfl, hown, hb⟩ := hrel
    have h1 := lenTo_le ps j
    have h2 := lenTo_le ps (j + 1)
    by_cases hlt : j < n
    · have hjl : j < ps.length := HN.out ▸ hlt
      have hs := lenTo_succ hjl hx.2.1
      have h4 : lenTo ps j + (pth ps j).n ≤ 1000000000 := by omega
      have HS := Lib.hid hs
      clear hs
      obtain ⟨bb, o, rfl, hbb, hc, hB⟩ := (hx.below hb).at_ hlt
      have hBs := hB.2.2
      have hBn := Lib.hid hB.1
      clear hB
      go_wp2_with (at_builtin; refine wpList_append_grow _ rfl _ _ rfl sl_bytes w.heap.size _ (lenTo ps j) _ rfl hown w.heap.size _ _ _ _ rfl (by have := hBn.out; simp; omega) hBs ints1 (by unfold maxLen; omega) (by omega) hb.size ?_; intro v1 w1 hown1 hgrow1)
      have hb1 : Below w.heap.size w w1 := hb.grown hgrow1 hb.size (own_base hown)
      go_roundw
      case rel =>
        refine ⟨j + 1, by omega, by go_num, ?_, hb1⟩
        rw [HS.out, flat_take hjl, List.map_append]
        exact hown1
      case measure => simp [intOf]; omega
    · have e2 : lenTo ps j = (flat ps).length := by rw [show j = ps.length by have := HN.out; omega, lenTo_all]
      have e3 : flat (ps.take j) = flat ps := by rw [show j = ps.length by have := HN.out; omega, List.take_length]
      have HF := Lib.hid (And.intro e2 e3)
      clear e2 e3
      go_wp2
      go_ret
      obtain ⟨f1, f2⟩ := HF.out
      rw [f1, f2] at hown
      exact ⟨_, rfl, hown, hb⟩

/-- The slice (A1, m) holds what the slice (A, n) holds behind its first k bytes, in every world. -/
def Behind (A : Option Addr) (n k : Nat) (A1 : Option Addr) : Prop := ∀ (W : World) (B : Nat) (xs : List Int), Bytes W B A n xs → Bytes W B A1 (n - k) (xs.drop k)

set_option maxRecDepth 100000 in
set_option maxHeartbeats 400000 in
theorem rbig_any (A : Option Addr) (n c : Nat) (xs : List Int) (w : World) (B : Nat) (hx : Bytes w B A n xs) (hn : n ≤ 4) :
    Calls Tryd.prog 126 #[.slice A n c] w fun e w' => e = .returned (.int .u32 (big xs)) ∧ w = w' := by
  have HN := Lib.hid hx.1
  go_enter Tryd.func126, Tryd.ntmps126
  go_wp2
  go_loop [3, 4] (fun s i => ∃ k : Nat, k ≤ n ∧ i = .int .i64 k ∧ s = .int .u32 (big (xs.take k))) (fun _ i => n - (intOf i).toNat)
  case atStart => exact ⟨0, Nat.zero_le _, rfl, rfl⟩
  case round =>
    obtain ⟨k, hk, rfl, rfl⟩ := hrel
    by_cases hlt : k < n
    · obtain ⟨b, o, rfl, hb, hc, h0, h1⟩ := hx.at_ hlt
      have hkx : k < xs.length := HN.out ▸ hlt
      have hbt := big_take_lt (m := n) k hx.2.1 hn hlt
      rw [show (xs.take n) = xs from List.take_of_length_le (by have := HN.out; omega)] at hbt
      have hsn := Lib.hid (big_snoc (xs.take k) (nth xs k))
      have htk := Lib.hid (take_nth hkx)
      go_wp2
      go_round
      case rel => exact ⟨k + 1, by omega, by go_num, by rw [htk.out, hsn.out]⟩
      case measure => simp [intOf]; omega
    · have e : xs.take k = xs := List.take_of_length_le (by have := HN.out; omega)
      have HE := Lib.hid e
      clear e
      go_wp2
      go_ret
      exact ⟨by show Ending.returned (.int .u32 (big (xs.take k))) = _; rw [HE.out], rfl⟩

end Go.Proofs.YtniheakafkakhaaDoor

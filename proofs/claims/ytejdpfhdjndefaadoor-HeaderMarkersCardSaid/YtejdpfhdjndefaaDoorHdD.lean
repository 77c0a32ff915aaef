/- peerageref04.Bytes -/
import Derived.Test.YtejdpfhdjndefaaDoorHdC
import Derived.Test.YtejdpfhdjndefaaDoorRef1
namespace Go.Proofs.YtejdpfhdjndefaaDoor
open Go.RowKit

theorem three8 (a b c : Int) : ∀ u ∈ [Value.int .u8 a, Value.int .u8 b, Value.int .u8 c], u.oneCell' = true := by
  intro u hu
  simp at hu
  rcases hu with rfl | rfl | rfl <;> rfl
theorem hForm_eq {n k : Int} (h0 : 0 ≤ n) (h1 : n ≤ 65535) : (hForm n k).map (Value.int .u8) = (List.replicate 16 (255 : Int)).map (Value.int .u8) ++ [.int .u8 (n / 256), .int .u8 (n % 256), .int .u8 k] := by
  unfold hForm
  rw [show (2 : Int).toNat = 2 from rfl, digitsOf_2, show n / 256 % 256 = n / 256 by omega]
  simp
set_option maxRecDepth 100000 in
set_option maxHeartbeats 400000 in
theorem rhbytes_no (n k : Int) (w : World) (hk : hbOk n k = false) :
    Calls Tryd.prog 21 #[.int .i64 n, .int .i64 k] w fun e w' => e = .returned (.tuple #[.slice none 0 0, .bool false]) ∧ w = w' := by
  have HK := Lib.hid (show n < 0 ∨ 65535 < n ∨ k < 0 ∨ 255 < k by
    simp only [hbOk, Bool.and_eq_false_iff, decide_eq_false_iff_not] at hk
    omega)
  clear hk
  by_cases h1 : n < 0
  · have d1 : decide (n < 0) = true := by simpa using h1
    go_enter Tryd.func21, Tryd.ntmps21
    go_wp2
    go_ret2
    exact ⟨rfl, rfl⟩
  have d1 : decide (n < 0) = false := by simpa using h1
  by_cases h2 : 65535 < n
  · have d2 : decide (65535 < n) = true := by simpa using h2
    clear h1
    go_enter Tryd.func21, Tryd.ntmps21
    go_wp2
    go_ret2
    exact ⟨rfl, rfl⟩
  have d2 : decide (65535 < n) = false := by simpa using h2
  by_cases h3 : k < 0
  · have d3 : decide (k < 0) = true := by simpa using h3
    clear h1 h2
    go_enter Tryd.func21, Tryd.ntmps21
    go_wp2
    go_ret2
    exact ⟨rfl, rfl⟩
  have d3 : decide (k < 0) = false := by simpa using h3
  have h4 : 255 < k := by have := HK.out; omega
  have d4 : decide (255 < k) = true := by simpa using h4
  clear h1 h2 h3 h4
  go_enter Tryd.func21, Tryd.ntmps21
  go_wp2
  go_ret2
  exact ⟨rfl, rfl⟩
set_option maxRecDepth 100000 in
set_option maxHeartbeats 800000 in
theorem rhbytes_yes (n k : Int) (w : World) (hk : hbOk n k = true) :
    Calls Tryd.prog 21 #[.int .i64 n, .int .i64 k] w fun e w' => ∃ v, e = .returned (.tuple #[v, .bool true]) ∧ w'.ownsRow w.heap.size 5 1 v 19 ((hForm n k).map (Value.int .u8)) ∧ Below w.heap.size w w' := by
  simp only [hbOk, Bool.and_eq_true, decide_eq_true_eq] at hk
  obtain ⟨⟨h0, h1⟩, h2, h3⟩ := hk
  have d0 : decide (n < 0) = false := by simp; omega
  have d1 : decide (65535 < n) = false := by simp; omega
  have d2 : decide (k < 0) = false := by simp; omega
  have d3 : decide (255 < k) = false := by simp; omega
  have HF := Lib.hid (hForm_eq (k := k) h0 h1)
  have e1 : IntKind.u8.wrap (n / 256) = n / 256 := by rw [IntKind.wrap_u8]; omega
  have e2 : IntKind.u8.wrap (n % 256) = n % 256 := by rw [IntKind.wrap_u8]; omega
  have e3 : IntKind.u8.wrap k = k := by rw [IntKind.wrap_u8]; omega
  go_enter Tryd.func21, Tryd.ntmps21
  go_wp2
  go_loopw [6, 7] (fun v i wr => ∃ j : Nat, j ≤ 16 ∧ i = .int .i64 j ∧ wr.ownsRow w.heap.size 5 1 v j ((List.replicate j (255 : Int)).map (Value.int .u8)) ∧ Below w.heap.size w wr) (fun _ i _ => 16 - (intOf i).toNat)
  case atStart => exact ⟨0, by omega, rfl, World.ownsRow_nil _ _ _ _, Below.refl _ _⟩
  case round =>
    obtain ⟨j, hj, rfl, hown, hb⟩ := hrel
    have hbs := hb.size
    by_cases hlt : j < 16
    · go_wp2_with (at_builtin; refine wpList_append_grow _ rfl _ _ rfl sl_bytes w.heap.size _ _ _ rfl (hown.alloc _) (wr.heap.size + 1) (some ⟨wr.heap.size, 0, none⟩) 1 1 [_] rfl rfl (Shows.of_owned (Own.new _ _ _) (by omega)) (one1 rfl) (by unfold maxLen; omega) (by omega) (by simp; omega) ?_; intro v1 w1 hown1 hgrow1)
      have hb1 : Below w.heap.size w w1 := (hb.alloc hbs _).grown hgrow1 (by simp; omega) (own_base hown)
      go_roundw
      case rel =>
        refine ⟨j + 1, by omega, by go_num, ?_, hb1⟩
        rw [List.replicate_succ', List.map_append]
        exact hown1
      case measure => simp [intOf]; omega
    · have hj16 : j = 16 := by omega
      subst hj16
      go_wp2_with (at_builtin; refine wpList_append_grow _ rfl _ _ rfl sl_bytes w.heap.size _ _ _ rfl (hown.alloc _) (wr.heap.size + 1) (some ⟨wr.heap.size, 0, none⟩) 3 3 [_, _, _] rfl rfl (Shows.of_owned (Own.new _ _ _) (by omega)) (three8 _ _ _) (by unfold maxLen; omega) (by omega) (by simp; omega) ?_; intro v1 w1 hown1 hgrow1)
      have hb1 : Below w.heap.size w w1 := (hb.alloc hbs _).grown hgrow1 (by simp; omega) (own_base hown)
      go_wp2
      go_ret2
      rw [HF.out]
      exact ⟨_, rfl, hown1, hb1⟩
end Go.Proofs.YtejdpfhdjndefaaDoor

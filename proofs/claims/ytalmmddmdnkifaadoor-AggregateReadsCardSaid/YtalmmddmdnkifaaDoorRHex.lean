/- peerageref11.Hex -/
import Derived.Test.YtalmmddmdnkifaaDoorHex
namespace Go.Proofs.YtalmmddmdnkifaaDoor
open Go.RowKit Go.Sort

theorem ba_two (L : List UInt8) (a b : UInt8) : (⟨L.toArray⟩ ++ ⟨#[a]⟩ ++ ⟨#[b]⟩ : ByteArray) = ⟨(L ++ [a, b]).toArray⟩ := by
  rw [show (⟨#[a]⟩ : ByteArray) = ⟨[a].toArray⟩ from rfl, show (⟨#[b]⟩ : ByteArray) = ⟨[b].toArray⟩ from rfl, ba_append, ba_append, List.append_assoc]
  rfl
theorem hexL_size (l : List UInt8) : (ByteArray.mk l.toArray).size = l.length := by simp [ByteArray.size]
set_option maxRecDepth 100000 in
set_option maxHeartbeats 800000 in
theorem rhex_any (A : Option Addr) (n c : Nat) (xs : List Int) (w : World) (hx : Bytes w w.heap.size A n xs) (hn : n ≤ 1000000) :
    Calls Tryd.prog 69 #[.slice A n c] w fun e w' => e = .returned (.string (hexB xs)) ∧ Below w.heap.size w w' := by
  have HX := Lib.hid hx
  have hl := Lib.hid hx.1
  go_enter Tryd.func69, Tryd.ntmps69
  go_wp2
  go_loopw [4, 5] (fun s i wr => ∃ k : Nat, k ≤ n ∧ i = .int .i64 k ∧ s = .string ⟨(hexL (xs.take k)).toArray⟩ ∧ Below w.heap.size w wr) (fun _ i _ => n - (intOf i).toNat)
  case atStart => exact ⟨0, by omega, rfl, rfl, bl_refl w⟩
  case round =>
    obtain ⟨k, hkz, rfl, rfl, hbr⟩ := hrel
    by_cases hlt : k < n
    · have hxr := HX.out.below hbr
      obtain ⟨b, o, rfl, hbb, hcell⟩ := hxr.2.2.resolve_left (by intro h; have := hl.out; simp at h; rw [h] at this; simp at this; omega)
      have hck := cell_regrown (hcell k (.int .u8 (nth xs k)) (by rw [List.getElem?_map, nth_some (by rw [← hl.out]; exact hlt)]; rfl))
      have hr := hxr.2.1 _ (nth_mem (xs := xs) (k := k) (by rw [← hl.out]; exact hlt))
      have d0 := dg_range 16 (nth xs k) hr.1 (by omega)
      have d1 := d0.1
      have d2 := d0.2
      have d3 : 0 ≤ nth xs k / 16 := by omega
      have d4 : nth xs k / 16 < 16 := by omega
      have HS := Lib.hid (hexL_step (xs := xs) (k := k) (by rw [← hl.out]; exact hlt))
      have hsz : (hexL (xs.take k)).length ≤ 2000000 := by rw [hexL_len, List.length_take]; omega
      generalize hexL (xs.take k) = L at *
      have hq := Lib.hid hr
      clear d0 hx hcell hxr hr
      have E1 := Lib.hid (ext_digit (nth xs k / 16) d3 d4)
      have E2 := Lib.hid (ext_digit (nth xs k % 16) d1 d2)
      have e1 : IntKind.u8.wrap (nth xs k / 16 + 1) = nth xs k / 16 + 1 := by rw [IntKind.wrap_u8']; omega
      have e2 : IntKind.u8.wrap (nth xs k % 16 + 1) = nth xs k % 16 + 1 := by rw [IntKind.wrap_u8']; omega
      have n1 : ¬ 9223372036854775807 < L.length + 1 := by omega
      have n2 : ¬ 9223372036854775807 < L.length + 1 + 1 := by omega
      go_wp2_with fail
      refine wp_region_quiet_below (by kernel_rfl) (by kernel_rfl) ?_
      repeat (go_big_quiet_step (fail))
      rw [E1.out, E2.out]
      refine wpQuiet_nil ?_
      rintro _ ⟨⟨dq, osq⟩, rfl⟩
      have hb2 := bl_trans hbr (below_regrown wr dq osq)
      generalize grow (redrawn wr dq) osq = w2 at *
      clear e1 e2 n1 n2 hck
      go_wp2
      go_roundw
      case rel =>
        first
          | exact ⟨k + 1, by omega, by go_num, by rw [HS.out]; exact congrArg Value.string (ba_two _ _ _), hb2⟩
          | ((repeat apply Exists.intro); exact ⟨⟨k + 1, by omega, by go_num, by rw [HS.out]; exact congrArg Value.string (ba_two _ _ _), hb2⟩, rfl⟩)
      case measure => simp [intOf]; omega
    · obtain rfl : k = n := by omega
      have HT := Lib.hid (show xs.take k = xs by rw [List.take_of_length_le (by rw [← hl.out]; exact Nat.le_refl _)])
      rw [HT.out]
      go_wp2
      go_ret
      exact ⟨rfl, hbr⟩
end Go.Proofs.YtalmmddmdnkifaaDoor

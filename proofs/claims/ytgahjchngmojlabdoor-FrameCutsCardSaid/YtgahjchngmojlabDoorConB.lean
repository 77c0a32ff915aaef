/- slices.Grow of nil and slices.Concat, at bytes -/
import Derived.Test.YtgahjchngmojlabDoorGrow
import Derived.Test.YtgahjchngmojlabDoorPut
import Derived.Lib.AppendZeros
namespace Go.Proofs.YtgahjchngmojlabDoor
open Go.RowKit

set_option maxRecDepth 100000 in
theorem bgrow_zero (w : World) : Calls Tryd.prog 35 #[.slice none 0 0, .int .i64 0] w fun e w' => e = .returned (.slice none 0 0) ∧ w = w' := by
  go_enter Tryd.func35, Tryd.ntmps35
  go_wp2
  go_ret
  exact ⟨rfl, rfl⟩
set_option maxRecDepth 100000 in
set_option maxHeartbeats 400000 in
theorem bgrow_some (k : Nat) (w : World) (h0 : 0 < k) (hk : k ≤ 1000000000) : Calls Tryd.prog 35 #[.slice none 0 0, .int .i64 k] w fun e w' => ∃ v, e = .returned v ∧ w'.ownsRow w.heap.size 5 1 v 0 [] ∧ Below w.heap.size w w' := by
  have h1 : (0 : Int) < (k : Int) := by omega
  have hi0 : (Tryd.prog.info? 5).map (fun i => (i.zero, i.size, i.bytes)) = some (some (.int .u8 0), 1, 1) := by kernel_rfl
  obtain ⟨i, hi, hz, hsz, hby⟩ := info_parts hi0
  have hr := Lib.run_append_nil_zeros (P := Tryd.prog) w 26 3 26 5 i (.int .u8 0) .i64 .i64 Tryd.underlying26 Tryd.underlying3 hi hz k h0 (by omega) (by omega) (by rw [hby]; omega)
  have hge := grownCap_ge w k 0 5
  have hle := grownCap_le_maxLen w k 0 5 (by unfold maxLen; omega)
  have HR := Lib.hid hr
  have HG := Lib.hid (And.intro hge hle)
  clear hr hge hle hi0 hi hz hsz hby
  go_enter Tryd.func35, Tryd.ntmps35
  go_wp2_with (at_builtin; refine Lib.wpList_append_run _ rfl _ _ 26 3 rfl _ _ rfl rfl _ _ HR.out ?_)
  go_ret
  obtain ⟨hge, hle⟩ := HG.out
  refine ⟨_, rfl, ?_, (bl_alloc (bl_refl w) _).drew⟩
  exact World.ownsRow_made w.drew _ _ (Nat.le_refl _) hle (by
    rw [Array.size_append, size_zeroCells, size_zeroCells, ← Nat.add_mul, Nat.add_sub_cancel' hge]; rfl)


set_option maxRecDepth 100000 in
set_option maxHeartbeats 800000 in
theorem bconcat_any (A : Option Addr) (n c : Nat) (ps : List Part) (w : World) (hx : Parts w w.heap.size A n ps) (hn : n ≤ 1000000000) (hl : (flat ps).length ≤ 1000000000) :
    Calls Tryd.prog 20 #[.slice A n c] w fun e w' => ∃ v, e = .returned v ∧
      w'.ownsRow w.heap.size 5 1 v (flat ps).length ((flat ps).map (Value.int .u8)) ∧ Below w.heap.size w w' := by
  have HN := Lib.hid hx.1
  go_enter Tryd.func20, Tryd.ntmps20
  go_wp2
  go_loop [3, 11] (fun s i => ∃ j : Nat, j ≤ n ∧ i = .int .i64 j ∧ s = .int .i64 (lenTo ps j)) (fun _ i => n - (intOf i).toNat)
  case atStart => exact ⟨0, Nat.zero_le _, rfl, by simp [lenTo, flat]⟩
  case round =>
    obtain ⟨j, hj, rfl, rfl⟩ := hrel
    have h1 := lenTo_le ps j
    have h2 := lenTo_le ps (j + 1)
    by_cases hlt : j < n
    · have hjl : j < ps.length := HN.out ▸ hlt
      have hs := lenTo_succ hjl hx.2.1
      have h4 : lenTo ps j + (pth ps j).n ≤ 1000000000 := by omega
      have hneg : ¬ ((lenTo ps j : Int) + ((pth ps j).n : Int) < 0) := by omega
      have HS := Lib.hid hs
      clear hs
      obtain ⟨bb, o, rfl, hbb, hc, hB⟩ := hx.at_ hlt
      clear hB
      go_wp2
      go_round
      case rel => exact ⟨j + 1, by omega, by go_num, by rw [HS.out]; go_num⟩
      case measure => simp [intOf]; omega
    · have e2 : lenTo ps j = (flat ps).length := by rw [show j = ps.length by have := HN.out; omega, lenTo_all]
      have HE := Lib.hid e2
      clear e2
      have GR : Calls Tryd.prog 35 #[.slice none 0 0, .int .i64 (lenTo ps j)] w fun e w' => ∃ v, e = .returned v ∧ w'.ownsRow w.heap.size 5 1 v 0 [] ∧ Below w.heap.size w w' := by
        rcases Nat.eq_zero_or_pos (lenTo ps j) with h | h
        · rw [h]
          exact (bgrow_zero w).mono fun _ _ ⟨he, hw⟩ => ⟨_, he, by rw [← hw]; exact World.ownsRow_nil _ _ _ _, by rw [← hw]; exact bl_refl w⟩
        · exact bgrow_some _ w h (by omega)
      have HG := Lib.hid GR
      clear GR
      go_wp2_with fail
      refine HG.out.mono ?_
      rintro e w1 ⟨v, rfl, hown1, hb1⟩
      have HX := Lib.hid hx
      clear hx
      go_wp2
      go_loopw [6, 27] (fun v i wr => ∃ j : Nat, j ≤ n ∧ i = .int .i64 j ∧
        wr.ownsRow w.heap.size 5 1 v (lenTo ps j) ((flat (ps.take j)).map (Value.int .u8)) ∧ Below w.heap.size w wr) (fun _ i _ => n - (intOf i).toNat)
      case atStart => exact ⟨0, Nat.zero_le _, rfl, by simpa [lenTo, flat] using hown1, hb1⟩
      case round =>
        obtain ⟨j, hj, rfl, hown, hb⟩ := hrel
        clear hown1 hb1
        have h1 := lenTo_le ps j
        have h2 := lenTo_le ps (j + 1)
        by_cases hlt : j < n
        · have hjl : j < ps.length := HN.out ▸ hlt
          have hs := lenTo_succ hjl HX.out.2.1
          have h4 : lenTo ps j + (pth ps j).n ≤ 1000000000 := by omega
          have HS := Lib.hid hs
          clear hs
          obtain ⟨bb, o, rfl, hbb, hc, hB⟩ := (HX.out.below hb).at_ hlt
          have HB := Lib.hid hB
          clear hB
          go_wp2_with (at_builtin; refine wpList_append_grow _ rfl _ _ rfl sl_bytes w.heap.size _ (lenTo ps j) _ rfl hown w.heap.size _ _ _ _ rfl (by have := HB.out.1; simp; omega) HB.out.2.2 ints1 (by unfold maxLen; omega) (by omega) hb.size ?_; intro v1 w1 hown1 hgrow1)
          have hb1 : Below w.heap.size w w1 := hb.grown hgrow1 hb.size (own_base hown)
          go_roundw
          case rel =>
            refine ⟨j + 1, by omega, by go_num, ?_, hb1⟩
            rw [HS.out, flat_take hjl, List.map_append]
            exact hown1
          case measure => simp [intOf]; omega
        · have e2 : lenTo ps j = (flat ps).length := by rw [show j = ps.length by have := HN.out; omega, lenTo_all]
          have e3 : flat (ps.take j) = flat ps := by rw [show j = ps.length by have := HN.out; omega, List.take_length]
          have HF := Lib.hid (And.intro e2 e3)
          clear e2 e3
          go_wp2
          go_ret
          obtain ⟨f1, f2⟩ := HF.out
          rw [f1, f2] at hown
          exact ⟨_, rfl, hown, hb⟩
end Go.Proofs.YtgahjchngmojlabDoor

/- peerageref06.Narrow, right, Valid -/
import Derived.Test.YtecbbjdcnlocdaaDoorSgN
namespace Go.Proofs.YtecbbjdcnlocdaaDoor
open Go.RowKit Go.Sort

theorem seg_two {W : World} {g : Nat} {T : TypeId} {a b : Value} (o : Own W g T #[a, b]) : W.cell? ⟨g, 0, none⟩ = some a ∧ W.cell? ⟨g, 1, none⟩ = some b := ⟨o.cell rfl, o.cell rfl⟩
set_option maxRecDepth 100000 in
set_option maxHeartbeats 3200000 in
/-- peerageref06.right at a segment. -/
theorem right_any (s : Sg) (w : World) (h : U32s w w.heap.size s.A s.n s.xs) (hm : s.n ≤ 1000000) :
    Calls Tryd.prog 48 #[.int .i64 4, .agg #[.int .i64 s.k, .slice s.A s.n s.c]] w fun e w' => e = .returned (.bool (sgOk 4 s)) ∧ Below w.heap.size w w' := by
  obtain ⟨sk, sA, sn, sc, sx⟩ := s
  dsimp only at *
  have hO : Hid (sgOk 4 ⟨sk, sA, sn, sc, sx⟩ = decide ((sk = 1 ∨ sk = 2) ∧ 1 ≤ sn ∧ sn ≤ 255)) := Lib.hid (by unfold sgOk; simp)
  have hb1 := bl_alloc (bl_refl w) (.cells #[.int .i64 sk, .slice sA sn sc] 61)
  have oB := Own.new w 61 #[.int .i64 sk, .slice sA sn sc]
  have hc1 := oB.cell (i := 1) rfl
  generalize sgOk 4 ⟨sk, sA, sn, sc, sx⟩ = D at *
  clear h
  by_cases hk12 : sk = 1 ∨ sk = 2
  · by_cases hs1 : sn < 1
    · obtain rfl : sn = 0 := by omega
      have hD := Lib.hid (show D = false by rw [hO.out]; exact decide_eq_false (by omega))
      clear hO
      rcases hk12 with rfl | rfl
      all_goals
        go_enter Tryd.func48, Tryd.ntmps48
        go_wp2
        go_ret
        exact ⟨ret_boolA hD.out.symm, hb1⟩
    · have h3 : ¬ (sn : Int) < 1 := by omega
      by_cases hs2 : sn ≤ 255
      · have h4 : ¬ (255 : Int) < (sn : Int) := by omega
        have hD := Lib.hid (show D = true by rw [hO.out]; exact decide_eq_true ⟨hk12, by omega, hs2⟩)
        clear hO hs1
        rcases hk12 with rfl | rfl
        all_goals
          go_enter Tryd.func48, Tryd.ntmps48
          go_wp2
          go_loopw [5] (fun i wr => (∃ q : Nat, q ≤ sn ∧ i = .int .i64 q) ∧ wr = w.alloc (.cells #[.int .i64 _, .slice sA sn sc] 61)) (fun i _ => sn - (intOf i).toNat)
          case atStart => exact ⟨⟨0, Nat.zero_le _, rfl⟩, rfl⟩
          case round =>
            obtain ⟨⟨q, hq, rfl⟩, rfl⟩ := hrel
            by_cases hlt : q < sn
            · go_wp2
              go_roundw
              case rel => exact ⟨⟨q + 1, by omega, by go_num⟩, trivial⟩
              case measure => simp [intOf]; omega
            · obtain rfl : q = sn := by omega
              go_wp2
              go_ret
              exact ⟨ret_boolA hD.out.symm, hb1⟩
      · have h4 : (255 : Int) < (sn : Int) := by omega
        have hD := Lib.hid (show D = false by rw [hO.out]; exact decide_eq_false (by omega))
        clear hO hs1 hs2
        rcases hk12 with rfl | rfl
        all_goals
          go_enter Tryd.func48, Tryd.ntmps48
          go_wp2
          go_ret
          exact ⟨ret_boolA hD.out.symm, hb1⟩
  · have h1 : ¬ sk = 1 := fun h => hk12 (.inl h)
    have h2 : ¬ sk = 2 := fun h => hk12 (.inr h)
    have e1 : (sk != 1) = true := by simpa using h1
    have e2 : (sk != 2) = true := by simpa using h2
    have hD := Lib.hid (show D = false by rw [hO.out]; exact decide_eq_false (fun h => hk12 h.1))
    clear hk12 hO h1 h2
    go_enter Tryd.func48, Tryd.ntmps48
    go_wp2
    go_ret
    exact ⟨ret_boolA hD.out.symm, hb1⟩
set_option maxRecDepth 100000 in
set_option maxHeartbeats 3200000 in
theorem rvalid_any (A : Option Addr) (n c : Nat) (ss : List Sg) (w : World) (hx : Segs w w.heap.size A n ss) (hn : n ≤ 1000) (hs : ∀ s ∈ ss, s.n ≤ 1000) :
    Calls Tryd.prog 14 #[.int .i64 4, .slice A n c] w fun e w' => e = .returned (.bool (ss.all (sgOk 4))) ∧ Below w.heap.size w w' := by
  have HN := Lib.hid hx.1
  have HX := Lib.hid hx
  have HS := Lib.hid hs
  clear hx hs
  go_enter Tryd.func14, Tryd.ntmps14
  go_wp2_with fail
  go_loopw [5] (fun i wr => (∃ k : Nat, k ≤ n ∧ i = .int .i64 k ∧ Hid ((ss.take k).all (sgOk 4) = true)) ∧ Below w.heap.size w wr) (fun i _ => n - (intOf i).toNat)
  case atStart => exact ⟨⟨0, Nat.zero_le _, rfl, Lib.hid (by simp)⟩, bl_refl w⟩
  case round =>
    obtain ⟨⟨k, hk, rfl, hall⟩, hb⟩ := hrel
    by_cases hlt : k < n
    · obtain ⟨b, o, rfl, hbB, hc0, hc1⟩ := (HX.out.below hb).at_ hlt
      have hkl := Lib.hid (show k < ss.length by have := HN.out; omega)
      have hNo := Lib.hid (fun h => sgall_no (P := sgOk 4) hkl.out h)
      have hYe := Lib.hid (fun h => sgall_step (P := sgOk 4) hkl.out hall.out h)
      have hC := Lib.hid (right_any (sgth ss k) _ (((segs_u32 HX.out hkl.out).below hb).more hb.size) (by have := HS.out _ (sgth_mem hkl.out); omega))
      generalize sgOk 4 (sgth ss k) = D at *
      generalize sgth ss k = s at *
      obtain ⟨sk, sA, sn, sc, sx⟩ := s
      dsimp only at *
      cases D
      · have hR := Lib.hid (hNo.out rfl)
        go_wp2_with fail
        refine hC.out.mono ?_
        rintro e w2 ⟨rfl, hb2⟩
        have hb3 := bl_trans hb hb2
        go_wp2
        go_ret
        exact ⟨ret_boolA hR.out.symm, hb3⟩
      · have hR := Lib.hid (hYe.out rfl)
        go_wp2_with fail
        refine hC.out.mono ?_
        rintro e w2 ⟨rfl, hb2⟩
        have hb3 := bl_trans hb hb2
        go_wp2
        go_roundw
        case rel => exact ⟨⟨k + 1, by omega, by go_num, hR⟩, hb3⟩
        case measure => simp [intOf]; omega
    · have HE := Lib.hid (show ss.all (sgOk 4) = true by have := hall.out; rwa [List.take_of_length_le (by rw [← HN.out]; omega)] at this)
      go_wp2
      go_ret
      exact ⟨ret_boolA HE.out.symm, hb⟩
end Go.Proofs.YtecbbjdcnlocdaaDoor

/- XSqMe: XSqV, XSqB, XSzY, XSzZ, XSqF in one text -/
import Derived.Test.YtecbbjdcnlocdaaDoorSgO
import Derived.Test.YtecbbjdcnlocdaaDoorSgC
import Derived.Test.YtecbbjdcnlocdaaDoorSgX
import Derived.Test.YtecbbjdcnlocdaaDoorRdrB
import Derived.StillTailTactics
import Derived.Test.YtecbbjdcnlocdaaDoorSqMc
import Derived.Test.YtecbbjdcnlocdaaDoorSgR
import Derived.Test.YtecbbjdcnlocdaaDoorSgL
/- peerageref06.right and Valid at every width -/
namespace Go.Proofs.YtecbbjdcnlocdaaDoor
open Go.RowKit Go.Sort

set_option maxRecDepth 100000 in
set_option maxHeartbeats 3200000 in
theorem right2_any (s : Sg) (w : World) (h : U32s w w.heap.size s.A s.n s.xs) (hm : s.n ≤ 1000000) :
    Calls Tryd.prog 48 #[.int .i64 2, .agg #[.int .i64 s.k, .slice s.A s.n s.c]] w fun e w' => e = .returned (.bool (sgOk 2 s)) ∧ Below w.heap.size w w' := by
  obtain ⟨sk, sA, sn, sc, sx⟩ := s
  dsimp only at *
  have hO : Hid (sgOk 2 ⟨sk, sA, sn, sc, sx⟩ = (decide ((sk = 1 ∨ sk = 2) ∧ 1 ≤ sn ∧ sn ≤ 255) && narB sx)) := Lib.hid (by unfold sgOk; simp)
  have hb1 := bl_alloc (bl_refl w) (.cells #[.int .i64 sk, .slice sA sn sc] 61)
  have oB := Own.new w 61 #[.int .i64 sk, .slice sA sn sc]
  have hc1 := oB.cell (i := 1) rfl
  have HU := Lib.hid ((h.below hb1).more hb1.size)
  have HN := Lib.hid h.1
  generalize sgOk 2 ⟨sk, sA, sn, sc, sx⟩ = D at *
  clear h
  by_cases hk12 : sk = 1 ∨ sk = 2
  · by_cases hs1 : sn < 1
    · obtain rfl : sn = 0 := by omega
      have hD := Lib.hid (show D = false by rw [hO.out, decide_eq_false (by omega)]; rfl)
      clear hO
      rcases hk12 with rfl | rfl
      all_goals
        go_enter Tryd.func48, Tryd.ntmps48
        go_wp2
        go_ret
        exact ⟨ret_boolA hD.out.symm, hb1⟩
    · have h3 : ¬ (sn : Int) < 1 := by omega
      by_cases hs2 : sn ≤ 255
      · have h4 : ¬ (255 : Int) < (sn : Int) := by omega
        have hD := Lib.hid (show D = narB sx by rw [hO.out, decide_eq_true ⟨hk12, by omega, hs2⟩, Bool.true_and])
        clear hO hs1
        rcases hk12 with rfl | rfl
        all_goals
          go_enter Tryd.func48, Tryd.ntmps48
          go_wp2
          go_loopw [5] (fun i wr => (∃ q : Nat, q ≤ sn ∧ i = .int .i64 q ∧ Hid ((sx.take q).all (fun x => decide (x ≤ 65535)) = true)) ∧ wr = w.alloc (.cells #[.int .i64 _, .slice sA sn sc] 61)) (fun i _ => sn - (intOf i).toNat)
          case atStart => exact ⟨⟨0, Nat.zero_le _, rfl, Lib.hid (by simp)⟩, rfl⟩
          case round =>
            obtain ⟨⟨q, hq, rfl, HA⟩, rfl⟩ := hrel
            by_cases hlt : q < sn
            · obtain ⟨b, o, rfl, hb, hc⟩ := HU.out.at_ hlt
              have hkx := Lib.hid (show q < sx.length by rw [← HN.out]; exact hlt)
              by_cases he : nth sx q ≤ 65535
              · have HE := Lib.hid (show (sx.take (q + 1)).all (fun x => decide (x ≤ 65535)) = true by rw [take_nth hkx.out, List.all_append, HA.out]; simp [he])
                have h1 : ¬ 65535 < nth sx q := by omega
                generalize nth sx q = x at *
                clear he
                go_wp2
                go_roundw
                case rel => exact ⟨⟨q + 1, by omega, by go_num, HE⟩, trivial⟩
                case measure => simp [intOf]; omega
              · have HE := Lib.hid (show narB sx = false by unfold narB; rw [List.all_eq_false]; exact ⟨_, nth_mem hkx.out, by simp; omega⟩)
                have h1 : 65535 < nth sx q := by omega
                generalize nth sx q = x at *
                clear he
                go_wp2
                go_ret
                exact ⟨ret_boolA (by rw [hD.out, HE.out]), hb1⟩
            · have HE := Lib.hid (show narB sx = true by unfold narB; have := HA.out; rwa [List.take_of_length_le (by rw [← HN.out]; omega)] at this)
              obtain rfl : q = sn := by omega
              go_wp2
              go_ret
              exact ⟨ret_boolA (by rw [hD.out, HE.out]), hb1⟩
      · have h4 : (255 : Int) < (sn : Int) := by omega
        have hD := Lib.hid (show D = false by rw [hO.out, decide_eq_false (by omega)]; rfl)
        clear hO hs1 hs2
        rcases hk12 with rfl | rfl
        all_goals
          go_enter Tryd.func48, Tryd.ntmps48
          go_wp2
          go_ret
          exact ⟨ret_boolA hD.out.symm, hb1⟩
  · have h1 : ¬ sk = 1 := fun h => hk12 (.inl h)
    have h2 : ¬ sk = 2 := fun h => hk12 (.inr h)
    have e1 : (sk != 1) = true := by simpa using h1
    have e2 : (sk != 2) = true := by simpa using h2
    have hD := Lib.hid (show D = false by rw [hO.out, decide_eq_false (fun h => hk12 h.1)]; rfl)
    clear hk12 hO h1 h2
    go_enter Tryd.func48, Tryd.ntmps48
    go_wp2
    go_ret
    exact ⟨ret_boolA hD.out.symm, hb1⟩
set_option maxRecDepth 100000 in
set_option maxHeartbeats 3200000 in
theorem rightE_any (wd : Int) (hw : ¬ wd = 2) (s : Sg) (w : World) (h : U32s w w.heap.size s.A s.n s.xs) (hm : s.n ≤ 1000000) :
    Calls Tryd.prog 48 #[.int .i64 wd, .agg #[.int .i64 s.k, .slice s.A s.n s.c]] w fun e w' => e = .returned (.bool (sgOk wd s)) ∧ Below w.heap.size w w' := by
  obtain ⟨sk, sA, sn, sc, sx⟩ := s
  dsimp only at *
  have hO : Hid (sgOk wd ⟨sk, sA, sn, sc, sx⟩ = decide ((sk = 1 ∨ sk = 2) ∧ 1 ≤ sn ∧ sn ≤ 255)) := Lib.hid (by unfold sgOk; simp [hw])
  have hw2 : (wd == 2) = false := by simpa using hw
  have hb1 := bl_alloc (bl_refl w) (.cells #[.int .i64 sk, .slice sA sn sc] 61)
  have oB := Own.new w 61 #[.int .i64 sk, .slice sA sn sc]
  have hc1 := oB.cell (i := 1) rfl
  generalize sgOk wd ⟨sk, sA, sn, sc, sx⟩ = D at *
  clear h hw
  by_cases hk12 : sk = 1 ∨ sk = 2
  · by_cases hs1 : sn < 1
    · obtain rfl : sn = 0 := by omega
      have hD := Lib.hid (show D = false by rw [hO.out]; exact decide_eq_false (by omega))
      clear hO
      rcases hk12 with rfl | rfl
      all_goals
        go_enter Tryd.func48, Tryd.ntmps48
        go_wp2
        go_ret
        exact ⟨ret_boolA hD.out.symm, hb1⟩
    · have h3 : ¬ (sn : Int) < 1 := by omega
      by_cases hs2 : sn ≤ 255
      · have h4 : ¬ (255 : Int) < (sn : Int) := by omega
        have hD := Lib.hid (show D = true by rw [hO.out]; exact decide_eq_true ⟨hk12, by omega, hs2⟩)
        clear hO hs1
        rcases hk12 with rfl | rfl
        all_goals
          go_enter Tryd.func48, Tryd.ntmps48
          go_wp2
          go_loopw [5] (fun i wr => (∃ q : Nat, q ≤ sn ∧ i = .int .i64 q) ∧ wr = w.alloc (.cells #[.int .i64 _, .slice sA sn sc] 61)) (fun i _ => sn - (intOf i).toNat)
          case atStart => exact ⟨⟨0, Nat.zero_le _, rfl⟩, rfl⟩
          case round =>
            obtain ⟨⟨q, hq, rfl⟩, rfl⟩ := hrel
            by_cases hlt : q < sn
            · go_wp2
              go_roundw
              case rel => exact ⟨⟨q + 1, by omega, by go_num⟩, trivial⟩
              case measure => simp [intOf]; omega
            · obtain rfl : q = sn := by omega
              go_wp2
              go_ret
              exact ⟨ret_boolA hD.out.symm, hb1⟩
      · have h4 : (255 : Int) < (sn : Int) := by omega
        have hD := Lib.hid (show D = false by rw [hO.out]; exact decide_eq_false (by omega))
        clear hO hs1 hs2
        rcases hk12 with rfl | rfl
        all_goals
          go_enter Tryd.func48, Tryd.ntmps48
          go_wp2
          go_ret
          exact ⟨ret_boolA hD.out.symm, hb1⟩
  · have h1 : ¬ sk = 1 := fun h => hk12 (.inl h)
    have h2 : ¬ sk = 2 := fun h => hk12 (.inr h)
    have e1 : (sk != 1) = true := by simpa using h1
    have e2 : (sk != 2) = true := by simpa using h2
    have hD := Lib.hid (show D = false by rw [hO.out]; exact decide_eq_false (fun h => hk12 h.1))
    clear hk12 hO h1 h2
    go_enter Tryd.func48, Tryd.ntmps48
    go_wp2
    go_ret
    exact ⟨ret_boolA hD.out.symm, hb1⟩
set_option maxRecDepth 100000 in
theorem rightW_any (wd : Int) (s : Sg) (w : World) (h : U32s w w.heap.size s.A s.n s.xs) (hm : s.n ≤ 1000000) :
    Calls Tryd.prog 48 #[.int .i64 wd, .agg #[.int .i64 s.k, .slice s.A s.n s.c]] w fun e w' => e = .returned (.bool (sgOk wd s)) ∧ Below w.heap.size w w' := by
  by_cases hw : wd = 2
  · subst hw
    exact right2_any s w h hm
  · exact rightE_any wd hw s w h hm
set_option maxRecDepth 100000 in
set_option maxHeartbeats 3200000 in
theorem rvalidW_any (wd : Int) (A : Option Addr) (n c : Nat) (ss : List Sg) (w : World) (hx : Segs w w.heap.size A n ss) (hn : n ≤ 1000) (hs : ∀ s ∈ ss, s.n ≤ 1000) :
    Calls Tryd.prog 14 #[.int .i64 wd, .slice A n c] w fun e w' => e = .returned (.bool (decide (wd = 2 ∨ wd = 4) && ss.all (sgOk wd))) ∧ Below w.heap.size w w' := by
  have HN := Lib.hid hx.1
  have HX := Lib.hid hx
  have HS := Lib.hid hs
  clear hx hs
  go_enter Tryd.func14, Tryd.ntmps14
  go_wp2_with fail
  go_loopw [5] (fun i wr => (∃ k : Nat, k ≤ n ∧ i = .int .i64 k ∧ Hid ((ss.take k).all (sgOk wd) = true)) ∧ Below w.heap.size w wr) (fun i _ => n - (intOf i).toNat)
  case atStart => exact ⟨⟨0, Nat.zero_le _, rfl, Lib.hid (by simp)⟩, bl_refl w⟩
  case round =>
    obtain ⟨⟨k, hk, rfl, hall⟩, hb⟩ := hrel
    by_cases hlt : k < n
    · obtain ⟨b, o, rfl, hbB, hc0, hc1⟩ := (HX.out.below hb).at_ hlt
      have hkl := Lib.hid (show k < ss.length by have := HN.out; omega)
      have hNo := Lib.hid (fun h => sgall_no (P := sgOk wd) hkl.out h)
      have hYe := Lib.hid (fun h => sgall_step (P := sgOk wd) hkl.out hall.out h)
      have hC := Lib.hid (rightW_any wd (sgth ss k) _ (((segs_u32 HX.out hkl.out).below hb).more hb.size) (by have := HS.out _ (sgth_mem hkl.out); omega))
      generalize sgOk wd (sgth ss k) = D at *
      generalize sgth ss k = s at *
      obtain ⟨sk, sA, sn, sc, sx⟩ := s
      dsimp only at *
      cases D
      · have hR := Lib.hid (hNo.out rfl)
        go_wp2_with fail
        refine hC.out.mono ?_
        rintro e w2 ⟨rfl, hb2⟩
        have hb3 := bl_trans hb hb2
        go_wp2
        go_ret
        exact ⟨ret_boolA (by rw [hR.out, Bool.and_false]), hb3⟩
      · have hR := Lib.hid (hYe.out rfl)
        go_wp2_with fail
        refine hC.out.mono ?_
        rintro e w2 ⟨rfl, hb2⟩
        have hb3 := bl_trans hb hb2
        go_wp2
        go_roundw
        case rel => exact ⟨⟨k + 1, by omega, by go_num, hR⟩, hb3⟩
        case measure => simp [intOf]; omega
    · have HE := Lib.hid (show ss.all (sgOk wd) = true by have := hall.out; rwa [List.take_of_length_le (by rw [← HN.out]; omega)] at this)
      by_cases h2 : wd = 2
      · subst h2
        go_wp2
        go_ret
        exact ⟨ret_boolA (by rw [HE.out]; first | done | rfl), hb⟩
      · by_cases h4 : wd = 4
        · subst h4
          go_wp2
          go_ret
          exact ⟨ret_boolA (by rw [HE.out]; first | done | rfl), hb⟩
        · have e2 : (wd == 2) = false := by simpa using h2
          have e4 : (wd == 4) = false := by simpa using h4
          have hd := Lib.hid (show decide (wd = 2 ∨ wd = 4) = false by simp [h2, h4])
          clear h2 h4
          go_wp2
          go_ret
          exact ⟨ret_boolA (by rw [hd.out]; rfl), hb⟩
end Go.Proofs.YtecbbjdcnlocdaaDoor

/- peerageref06.Bytes -/
namespace Go.Proofs.YtecbbjdcnlocdaaDoor
open Go.RowKit Go.Sort

theorem formR {K : Nat} {ss : List Sg} (h : ∀ s ∈ ss, (s.k = 1 ∨ s.k = 2) ∧ s.n ≤ 255) : ∀ x ∈ sgsForm K ss, 0 ≤ x ∧ x ≤ 255 := by
  intro x hx
  unfold sgsForm at hx
  obtain ⟨s, hs, hx⟩ := List.mem_flatMap.1 hx
  have hk := h s hs
  unfold sgForm at hx
  rcases List.mem_append.1 hx with hx | hx
  · simp only [List.mem_cons, List.not_mem_nil, or_false] at hx
    rcases hx with rfl | rfl
    · omega
    · omega
  · obtain ⟨y, _, hy⟩ := List.mem_flatMap.1 hx
    exact digitsOf_range _ _ x hy
theorem twoB (a b : Int) : ∀ u ∈ [(.int .u8 a : Value), .int .u8 b], u.oneCell' = true := by
  intro u hu
  simp only [List.mem_cons, List.not_mem_nil, or_false] at hu
  rcases hu with rfl | rfl <;> rfl
set_option maxRecDepth 100000 in
theorem rbytes6_no (wd : Int) (A : Option Addr) (n c : Nat) (ss : List Sg) (w : World) (h : Segs w w.heap.size A n ss) (hn : n ≤ 1000) (hs : ∀ s ∈ ss, s.n ≤ 1000) (hk : (decide (wd = 2 ∨ wd = 4) && ss.all (sgOk wd)) = false) :
    Calls Tryd.prog 11 #[.int .i64 wd, .slice A n c] w fun e w' => e = .returned (.tuple #[.slice none 0 0, .bool false]) ∧ Below w.heap.size w w' := by
  have hV := Lib.hid (rvalidW_any wd A n c ss w h hn hs)
  rw [hk] at hV
  clear hk
  go_enter Tryd.func11, Tryd.ntmps11
  go_wp2_with fail
  refine hV.out.mono ?_
  rintro e w1 ⟨rfl, hb⟩
  go_wp2
  go_ret2
  exact ⟨rfl, hb⟩
set_option maxRecDepth 100000 in
set_option maxHeartbeats 6400000 in
theorem rbytes6_2 (A : Option Addr) (n c : Nat) (ss : List Sg) (w : World) (h : Segs w w.heap.size A n ss) (hn : n ≤ 1000) (hs : ∀ s ∈ ss, s.n ≤ 1000) (hk : ss.all (sgOk 2) = true) :
    Calls Tryd.prog 11 #[.int .i64 2, .slice A n c] w fun e w' => ∃ A1 c1, e = .returned (.tuple #[.slice A1 (sgsForm 2 ss).length c1, .bool true]) ∧ Bytes w' w'.heap.size A1 (sgsForm 2 ss).length (sgsForm 2 ss) ∧ Below w.heap.size w w' := by
  have hV := Lib.hid (rvalidW_any 2 A n c ss w h hn hs)
  rw [hk, show (decide ((2 : Int) = 2 ∨ (2 : Int) = 4) && true) = true from rfl] at hV
  have HV := Lib.hid h
  have HN := Lib.hid h.1
  have HP : Hid (∀ x, 0 ≤ x → x < 4294967296 → ∀ W : World, Calls Tryd.prog 42 #[.int .i64 2, .int .u32 x] W fun e w' => ∃ v, e = .returned v ∧ w'.ownsRow W.heap.size 5 1 v 2 ((digitsOf 2 x).map (Value.int .u8)) ∧ Below W.heap.size W w') := Lib.hid (fun x h0 h1 W => of_any 2 x W (by omega) (by omega) h0 h1)
  have HK := Lib.hid (fun s hs => sgOk_iff.1 (List.all_eq_true.1 hk s hs))
  have HRg := Lib.hid (formR (K := 2) (ss := ss) (fun s hs => ⟨(HK.out s hs).1.1, (HK.out s hs).1.2.2⟩))
  clear h hk hs
  go_enter Tryd.func11, Tryd.ntmps11
  go_wp2_with fail
  refine hV.out.mono ?_
  rintro e w1 ⟨rfl, hb0⟩
  go_wp2_with fail
  go_loopw [6, 8] (fun v i wr => ∃ (j m : Nat) (F : List Int), j ≤ n ∧ i = .int .i64 j ∧ wr.ownsRow w.heap.size 5 1 v m (F.map (Value.int .u8)) ∧ Hid (F = sgsForm 2 (ss.take j)) ∧ m ≤ 1022 * j ∧ Below w.heap.size w wr) (fun _ i _ => n - (intOf i).toNat)
  case atStart => exact ⟨0, 0, [], Nat.zero_le _, rfl, World.ownsRow_nil _ _ _ _, Lib.hid rfl, Nat.zero_le _, hb0⟩
  case round =>
    obtain ⟨j, m, F, hj, rfl, hown, hF, hm, hbw⟩ := hrel
    obtain ⟨A3, c3, rfl⟩ := own_form hown
    by_cases hlt : j < n
    · obtain ⟨b, o, rfl, hbB, f0, f1⟩ := HV.out.at_ hlt
      have hj1 := Lib.hid (show j < ss.length by rw [← HN.out]; exact hlt)
      have hSt := Lib.hid (sgsForm_step (K := 2) hj1.out)
      have HU := Lib.hid (segs_u32 HV.out hj1.out)
      have hR := Lib.hid ((HV.out.2.1 _ (sgth_mem hj1.out)).2.2.2.1)
      have hOk := HK.out _ (sgth_mem hj1.out)
      generalize sgth ss j = s at *
      obtain ⟨sk, sA, sn, sc, sx⟩ := s
      dsimp only at *
      have HL := Lib.hid HU.out.1
      have hn2 : sn ≤ 255 := hOk.1.2.2
      have hk8 : IntKind.u8.wrap sk = sk := by rcases hOk.1.1 with rfl | rfl <;> rfl
      have hn8 : IntKind.u8.wrap (sn : Int) = (sn : Int) := by rw [IntKind.wrap_u8]; omega
      have HF0 := Lib.hid f0
      have HF1 := Lib.hid f1
      have e0 := (hbw.cell (p := ⟨b, o + j * 2, none⟩) hbB).trans HF0.out
      have e1 := (hbw.cell (p := ⟨b, o + j * 2 + 1, none⟩) hbB).trans HF1.out
      clear hOk f0 f1
      have hbs := hbw.size
      have hbl : b < wr.heap.size := by omega
      have HO := Lib.hid hown
      have HB := Lib.hid hbw
      obtain ⟨w0, rfl⟩ : ∃ x, x = wr := ⟨_, rfl⟩
      clear hown hbw
      go_wp2_with fail
      go_region_law ((first
        | (refine step_append_at _ rfl _ _ rfl sl_bytes w.heap.size _ m _ rfl (own_belowG HO.out (show Below w0.heap.size w0 (w0.drew.alloc (.cells #[.int .u8 sk, .int .u8 (sn : Int)] 5)) from bl_alloc (show Below w0.heap.size w0 w0.drew from bl_drewN (bl_refl w0) 1) _)) (w0.heap.size + 1) (some ⟨w0.heap.size, 0, none⟩) 2 2 [.int .u8 sk, .int .u8 (sn : Int)] rfl rfl (Shows.of_owned (xs := [.int .u8 sk, .int .u8 (sn : Int)]) (Own.new w0.drew 5 #[.int .u8 sk, .int .u8 (sn : Int)]) (Nat.lt_succ_self _)) (twoB _ _) (by unfold maxLen; omega) (by omega) (by simp; omega) ?_; intro v5 w5 ho5 hg5 _; have hb5 : Below w.heap.size w w5 := ((show Below w.heap.size w w0.drew from bl_drewN HB.out 1).alloc hbs _).grown hg5 (by simp; omega) (own_base HO.out))))
      all_goals
        go_wp2_with fail
        have ho5' : w5.ownsRow w.heap.size 5 1 v5 (m + 2) ((F ++ [sk, (sn : Int)]).map (Value.int .u8)) := by rw [List.map_append]; exact ho5
        go_loopw [6, 9] (fun v i wq => ∃ (q m2 : Nat) (F2 : List Int), q ≤ sn ∧ i = .int .i64 q ∧ wq.ownsRow w.heap.size 5 1 v m2 (F2.map (Value.int .u8)) ∧ Hid (F2 = (F ++ [sk, (sn : Int)]) ++ (sx.take q).flatMap (digitsOf 2)) ∧ m2 ≤ m + 2 + 4 * q ∧ Below w.heap.size w wq) (fun _ i _ => sn - (intOf i).toNat)
        case atStart => exact ⟨0, m + 2, F ++ [sk, (sn : Int)], Nat.zero_le _, rfl, ho5', Lib.hid (by simp), by omega, hb5⟩
        case round =>
          obtain ⟨q, m2, F2, hq, rfl, hoq, hFq, hmq, hbq⟩ := hrel
          obtain ⟨A4, c4, rfl⟩ := own_form hoq
          have e1q := (hbq.cell (p := ⟨b, o + j * 2 + 1, none⟩) hbB).trans HF1.out
          have hbsq := hbq.size
          have hblq : b < wr.heap.size := by omega
          by_cases hltq : q < sn
          · obtain ⟨b2, o2, rfl, hb2B, hc2⟩ := HU.out.at_ hltq
            have hc2q := (hbq.cell (p := ⟨b2, o2 + q, none⟩) hb2B).trans hc2
            have hbl2 : b2 < wr.heap.size := by omega
            have hq1 := Lib.hid (show q < sx.length by rw [← HL.out]; exact hltq)
            have hD := Lib.hid (digs_step (K := 2) hq1.out)
            have hxr := hR.out _ (nth_mem hq1.out)
            generalize nth sx q = x at *
            have hC := Lib.hid (HP.out x hxr.1 hxr.2)
            have HOQ := Lib.hid hoq
            have HBQ := Lib.hid hbq
            clear hxr hc2 hoq hbq ho5 ho5' hg5 hb5
            go_wp2_with fail
            refine (hC.out _).mono ?_
            rintro e w6 ⟨v6, rfl, ho6, hb6⟩
            obtain ⟨A6, c6, rfl, hc6, hs6⟩ := own_val ho6
            have hbq6 := bl_trans HBQ.out hb6
            have hO6 := own_belowG HOQ.out hb6
            have hbs6 := hbq6.size
            go_wp2_with (at_builtin; refine wpList_append_grow _ rfl _ _ rfl sl_bytes w.heap.size _ m2 _ rfl hO6 _ A6 2 c6 ((digitsOf 2 x).map (Value.int .u8)) rfl (by rw [List.length_map, digitsOf_len]) hs6 (one8 _) (by unfold maxLen; omega) (by omega) (by omega) ?_; intro v7 w7 ho7 hg7)
            have hb7 := hbq6.grown hg7 hbs6 (own_base hO6)
            go_roundw
            case rel =>
              refine ⟨q + 1, m2 + 2, F2 ++ digitsOf 2 x, by omega, by go_num, by rw [List.map_append]; exact ho7, Lib.hid ?_, by omega, hb7⟩
              rw [hFq.out, hD.out, List.append_assoc]
            case measure => simp [intOf]; omega
          · have hqe := Lib.hid (show q = sx.length by rw [← HL.out]; omega)
            have hFF := Lib.hid (show F2 = sgsForm 2 (ss.take (j + 1)) by
              rw [hFq.out, hF.out, hSt.out, hqe.out, List.take_length]
              unfold sgForm
              rw [List.append_assoc])
            clear ho5 ho5' hg5 hb5
            go_wp2
            go_roundw
            case rel => exact ⟨j + 1, m2, F2, by omega, by go_num, hoq, hFF, by omega, hbq⟩
            case measure => simp [intOf]; omega
    · have hFF := Lib.hid (show F = sgsForm 2 ss by rw [hF.out, List.take_of_length_le (by rw [← HN.out]; omega)])
      have hml := Lib.hid (show m = (sgsForm 2 ss).length by have := hown.1; rw [hFF.out] at this; simp at this; omega)
      obtain ⟨A4, c4, he, hc3, hs3⟩ := own_val hown
      have hRes := Lib.hid (show Bytes wr wr.heap.size A3 m F from ⟨by rw [hml.out, hFF.out], by rw [hFF.out]; exact HRg.out, by
        injection he with e1 e2 e3
        rw [e1]
        exact hs3⟩)
      clear he
      clear hs3
      go_wp2
      go_ret2
      exact ⟨A3, c3, by rw [← hml.out]; rfl, by have := hRes.out; rw [hFF.out] at this; rw [← hml.out]; exact this, hbw⟩
set_option maxRecDepth 100000 in
set_option maxHeartbeats 6400000 in
theorem rbytes6_4 (A : Option Addr) (n c : Nat) (ss : List Sg) (w : World) (h : Segs w w.heap.size A n ss) (hn : n ≤ 1000) (hs : ∀ s ∈ ss, s.n ≤ 1000) (hk : ss.all (sgOk 4) = true) :
    Calls Tryd.prog 11 #[.int .i64 4, .slice A n c] w fun e w' => ∃ A1 c1, e = .returned (.tuple #[.slice A1 (sgsForm 4 ss).length c1, .bool true]) ∧ Bytes w' w'.heap.size A1 (sgsForm 4 ss).length (sgsForm 4 ss) ∧ Below w.heap.size w w' := by
  have hV := Lib.hid (rvalidW_any 4 A n c ss w h hn hs)
  rw [hk, show (decide ((4 : Int) = 2 ∨ (4 : Int) = 4) && true) = true from rfl] at hV
  have HV := Lib.hid h
  have HN := Lib.hid h.1
  have HP : Hid (∀ x, 0 ≤ x → x < 4294967296 → ∀ W : World, Calls Tryd.prog 42 #[.int .i64 4, .int .u32 x] W fun e w' => ∃ v, e = .returned v ∧ w'.ownsRow W.heap.size 5 1 v 4 ((digitsOf 4 x).map (Value.int .u8)) ∧ Below W.heap.size W w') := Lib.hid (fun x h0 h1 W => of_any 4 x W (by omega) (by omega) h0 h1)
  have HK := Lib.hid (fun s hs => sgOk_iff.1 (List.all_eq_true.1 hk s hs))
  have HRg := Lib.hid (formR (K := 4) (ss := ss) (fun s hs => ⟨(HK.out s hs).1.1, (HK.out s hs).1.2.2⟩))
  clear h hk hs
  go_enter Tryd.func11, Tryd.ntmps11
  go_wp2_with fail
  refine hV.out.mono ?_
  rintro e w1 ⟨rfl, hb0⟩
  go_wp2_with fail
  go_loopw [6, 8] (fun v i wr => ∃ (j m : Nat) (F : List Int), j ≤ n ∧ i = .int .i64 j ∧ wr.ownsRow w.heap.size 5 1 v m (F.map (Value.int .u8)) ∧ Hid (F = sgsForm 4 (ss.take j)) ∧ m ≤ 1022 * j ∧ Below w.heap.size w wr) (fun _ i _ => n - (intOf i).toNat)
  case atStart => exact ⟨0, 0, [], Nat.zero_le _, rfl, World.ownsRow_nil _ _ _ _, Lib.hid rfl, Nat.zero_le _, hb0⟩
  case round =>
    obtain ⟨j, m, F, hj, rfl, hown, hF, hm, hbw⟩ := hrel
    obtain ⟨A3, c3, rfl⟩ := own_form hown
    by_cases hlt : j < n
    · obtain ⟨b, o, rfl, hbB, f0, f1⟩ := HV.out.at_ hlt
      have hj1 := Lib.hid (show j < ss.length by rw [← HN.out]; exact hlt)
      have hSt := Lib.hid (sgsForm_step (K := 4) hj1.out)
      have HU := Lib.hid (segs_u32 HV.out hj1.out)
      have hR := Lib.hid ((HV.out.2.1 _ (sgth_mem hj1.out)).2.2.2.1)
      have hOk := HK.out _ (sgth_mem hj1.out)
      generalize sgth ss j = s at *
      obtain ⟨sk, sA, sn, sc, sx⟩ := s
      dsimp only at *
      have HL := Lib.hid HU.out.1
      have hn2 : sn ≤ 255 := hOk.1.2.2
      have hk8 : IntKind.u8.wrap sk = sk := by rcases hOk.1.1 with rfl | rfl <;> rfl
      have hn8 : IntKind.u8.wrap (sn : Int) = (sn : Int) := by rw [IntKind.wrap_u8]; omega
      have HF0 := Lib.hid f0
      have HF1 := Lib.hid f1
      have e0 := (hbw.cell (p := ⟨b, o + j * 2, none⟩) hbB).trans HF0.out
      have e1 := (hbw.cell (p := ⟨b, o + j * 2 + 1, none⟩) hbB).trans HF1.out
      clear hOk f0 f1
      have hbs := hbw.size
      have hbl : b < wr.heap.size := by omega
      have HO := Lib.hid hown
      have HB := Lib.hid hbw
      obtain ⟨w0, rfl⟩ : ∃ x, x = wr := ⟨_, rfl⟩
      clear hown hbw
      go_wp2_with fail
      go_region_law ((first
        | (refine step_append_at _ rfl _ _ rfl sl_bytes w.heap.size _ m _ rfl (own_belowG HO.out (show Below w0.heap.size w0 (w0.drew.alloc (.cells #[.int .u8 sk, .int .u8 (sn : Int)] 5)) from bl_alloc (show Below w0.heap.size w0 w0.drew from bl_drewN (bl_refl w0) 1) _)) (w0.heap.size + 1) (some ⟨w0.heap.size, 0, none⟩) 2 2 [.int .u8 sk, .int .u8 (sn : Int)] rfl rfl (Shows.of_owned (xs := [.int .u8 sk, .int .u8 (sn : Int)]) (Own.new w0.drew 5 #[.int .u8 sk, .int .u8 (sn : Int)]) (Nat.lt_succ_self _)) (twoB _ _) (by unfold maxLen; omega) (by omega) (by simp; omega) ?_; intro v5 w5 ho5 hg5 _; have hb5 : Below w.heap.size w w5 := ((show Below w.heap.size w w0.drew from bl_drewN HB.out 1).alloc hbs _).grown hg5 (by simp; omega) (own_base HO.out))))
      all_goals
        go_wp2_with fail
        have ho5' : w5.ownsRow w.heap.size 5 1 v5 (m + 2) ((F ++ [sk, (sn : Int)]).map (Value.int .u8)) := by rw [List.map_append]; exact ho5
        go_loopw [6, 9] (fun v i wq => ∃ (q m2 : Nat) (F2 : List Int), q ≤ sn ∧ i = .int .i64 q ∧ wq.ownsRow w.heap.size 5 1 v m2 (F2.map (Value.int .u8)) ∧ Hid (F2 = (F ++ [sk, (sn : Int)]) ++ (sx.take q).flatMap (digitsOf 4)) ∧ m2 ≤ m + 2 + 4 * q ∧ Below w.heap.size w wq) (fun _ i _ => sn - (intOf i).toNat)
        case atStart => exact ⟨0, m + 2, F ++ [sk, (sn : Int)], Nat.zero_le _, rfl, ho5', Lib.hid (by simp), by omega, hb5⟩
        case round =>
          obtain ⟨q, m2, F2, hq, rfl, hoq, hFq, hmq, hbq⟩ := hrel
          obtain ⟨A4, c4, rfl⟩ := own_form hoq
          have e1q := (hbq.cell (p := ⟨b, o + j * 2 + 1, none⟩) hbB).trans HF1.out
          have hbsq := hbq.size
          have hblq : b < wr.heap.size := by omega
          by_cases hltq : q < sn
          · obtain ⟨b2, o2, rfl, hb2B, hc2⟩ := HU.out.at_ hltq
            have hc2q := (hbq.cell (p := ⟨b2, o2 + q, none⟩) hb2B).trans hc2
            have hbl2 : b2 < wr.heap.size := by omega
            have hq1 := Lib.hid (show q < sx.length by rw [← HL.out]; exact hltq)
            have hD := Lib.hid (digs_step (K := 4) hq1.out)
            have hxr := hR.out _ (nth_mem hq1.out)
            generalize nth sx q = x at *
            have hC := Lib.hid (HP.out x hxr.1 hxr.2)
            have HOQ := Lib.hid hoq
            have HBQ := Lib.hid hbq
            clear hxr hc2 hoq hbq ho5 ho5' hg5 hb5
            go_wp2_with fail
            refine (hC.out _).mono ?_
            rintro e w6 ⟨v6, rfl, ho6, hb6⟩
            obtain ⟨A6, c6, rfl, hc6, hs6⟩ := own_val ho6
            have hbq6 := bl_trans HBQ.out hb6
            have hO6 := own_belowG HOQ.out hb6
            have hbs6 := hbq6.size
            go_wp2_with (at_builtin; refine wpList_append_grow _ rfl _ _ rfl sl_bytes w.heap.size _ m2 _ rfl hO6 _ A6 4 c6 ((digitsOf 4 x).map (Value.int .u8)) rfl (by rw [List.length_map, digitsOf_len]) hs6 (one8 _) (by unfold maxLen; omega) (by omega) (by omega) ?_; intro v7 w7 ho7 hg7)
            have hb7 := hbq6.grown hg7 hbs6 (own_base hO6)
            go_roundw
            case rel =>
              refine ⟨q + 1, m2 + 4, F2 ++ digitsOf 4 x, by omega, by go_num, by rw [List.map_append]; exact ho7, Lib.hid ?_, by omega, hb7⟩
              rw [hFq.out, hD.out, List.append_assoc]
            case measure => simp [intOf]; omega
          · have hqe := Lib.hid (show q = sx.length by rw [← HL.out]; omega)
            have hFF := Lib.hid (show F2 = sgsForm 4 (ss.take (j + 1)) by
              rw [hFq.out, hF.out, hSt.out, hqe.out, List.take_length]
              unfold sgForm
              rw [List.append_assoc])
            clear ho5 ho5' hg5 hb5
            go_wp2
            go_roundw
            case rel => exact ⟨j + 1, m2, F2, by omega, by go_num, hoq, hFF, by omega, hbq⟩
            case measure => simp [intOf]; omega
    · have hFF := Lib.hid (show F = sgsForm 4 ss by rw [hF.out, List.take_of_length_le (by rw [← HN.out]; omega)])
      have hml := Lib.hid (show m = (sgsForm 4 ss).length by have := hown.1; rw [hFF.out] at this; simp at this; omega)
      obtain ⟨A4, c4, he, hc3, hs3⟩ := own_val hown
      have hRes := Lib.hid (show Bytes wr wr.heap.size A3 m F from ⟨by rw [hml.out, hFF.out], by rw [hFF.out]; exact HRg.out, by
        injection he with e1 e2 e3
        rw [e1]
        exact hs3⟩)
      clear he
      clear hs3
      go_wp2
      go_ret2
      exact ⟨A3, c3, by rw [← hml.out]; rfl, by have := hRes.out; rw [hFF.out] at this; rw [← hml.out]; exact this, hbw⟩
end Go.Proofs.YtecbbjdcnlocdaaDoor

/- segment.Read$1 -/
namespace Go.Proofs.YtecbbjdcnlocdaaDoor
open Go.RowKit Go.Sort

theorem RdrB.rest {B : Nat} {w w' : World} {g p : Nat} {xs : List Int} {P : Nat → Prop} (h : RdrB B w g xs p) (k : Rest w w' P) (hp : ∀ i, i < B ∨ i = g → ¬ P i) : RdrB B w' g xs p :=
  h.keep k.size (fun b hb => k.block b (by rcases hb with hx | rfl; exact Nat.lt_of_lt_of_le hx h.size; exact h.lt) (hp b hb))
set_option maxRecDepth 100000 in
theorem seg_desc : Tryd.prog.underlying 61 = some (.struct (Tryd.prog.fieldsOf 61)) := by kernel_rfl
set_option maxRecDepth 100000 in
theorem seg_info (k : Int) (A : Option Addr) (n c : Nat) : (Tryd.prog.info? 61).map (·.size) = some (#[Value.int .i64 k, .slice A n c]).size := by kernel_rfl
theorem seg_one (k : Int) (A : Option Addr) (n c : Nat) : (#[Value.int .i64 k, .slice A n c]).all (·.oneCell') = true := by simp [Value.oneCell']
theorem results_cell_tmpS {P : Program} {fn : Func} {p t : Tmp} {ty : TypeId} (h : fn.results = #[.cell p ty, .tmp t]) (tmps : Array Value) (w : World) (g : Nat) (T : TypeId) (cs : Array Value) (d : TypeDesc)
    (hp : tmps.getD p undef = .pointer (some ⟨g, 0, none⟩)) (hg : Own w g T cs) (hu : P.underlying ty = some d) (hd : (match d with | .struct _ | .array _ _ => true | _ => false) = true) (hi : (P.info? ty).map (·.size) = some cs.size) :
    (results fn tmps).run P w = .ok (.tuple #[.agg cs, tmps.getD t undef]) w := by
  have hp' : tmps[p]?.getD undef = .pointer (some ⟨g, 0, none⟩) := by simpa using hp
  simp [results, h, hp', asAddr, run_loadVar_row w g T ty cs (0, 0) d hg hu hd hi]
theorem Rest.setRow (w : World) (g : Nat) (cs : Array Value) : Rest w (w.setRow g cs) (fun i => i = g) := ⟨rfl, rfl, rfl, by simp, fun i _ hn => setRow_other w g i _ hn⟩
theorem rd_types : 45 ≠ 93 ∧ 3 ≠ 93 ∧ 61 ≠ 93 ∧ 51 ≠ 93 := by decide
theorem RdrB.typed {B : Nat} {w : World} {g p : Nat} {xs : List Int} (h : RdrB B w g xs p) : Typed w g 93 := by
  obtain ⟨A, n, c, ho, _⟩ := h
  exact ho.typed
theorem wf_byteS {a : Int} (h : 0 ≤ a ∧ a ≤ 255) : (Lit.int .i64 a).wf = true := by
  simp only [Lit.wf, Bool.and_eq_true, decide_eq_true_eq]
  have h1 : IntKind.i64.min = -9223372036854775808 := rfl
  have h2 : IntKind.i64.max = 9223372036854775807 := rfl
  omega
theorem and_threeS {W : World} {a b c : Addr} {x y z : Value} (h1 : W.cell? a = some x) (h2 : W.cell? b = some y) (h3 : W.cell? c = some z) : W.cell? a = some x ∧ W.cell? b = some y ∧ W.cell? c = some z := ⟨h1, h2, h3⟩
theorem step_store_row {P : Program} {ops : Array Oper} {o : Oper} {a : Act} {w : World} {K : Act → World → Prop} {Q : Exit → Act → World → Prop} {E : Prop}
    (hg : o.guard = none) (ty : TypeId) (x y : Operand) (ho : o.op = .store ty x y) (g : Nat) (cells : Array Value) (hx : a.eval x = .pointer (some ⟨g, 0, none⟩)) (hy : a.eval y = .agg cells)
    (t : TypeId) (old : Array Value) (hgd : w.heap[g]? = some (.cells old t (0, 0))) (hi : (P.info? ty).map (·.size) = some cells.size) (hold : old.size = cells.size) (h1 : cells.all (·.oneCell') = true)
    (hK : K (a.put o.dst undef) (w.setRow g cells)) :
    if Region.wanted o (yielded ops a.tmps) = true then Oper.wp P o a w K Q else E := by
  have hw : Region.wanted o (yielded ops a.tmps) = true := by simp [Region.wanted, hg]
  rw [if_pos hw]
  unfold Oper.wp
  simp [execOp, ho, hx, hy, Instr.storeAt, Instr.sureAddr, run_storeVar_row w g t ty old cells hgd hi hold h1, Result.andThen]
  exact hK
theorem okNz {K bn : Nat} (hK : K = 2 ∨ K = 4) (hb : bn ≤ 255) {zs : List Int} (hz : byteL zs) (hl : bn * K ≤ zs.length) (a : Int) (A : Option Addr) (c : Nat) :
    [(⟨a, A, bn, c, nums K bn zs⟩ : Sg)].all (sgOk (K : Int)) = decide ((a = 1 ∨ a = 2) ∧ 1 ≤ bn ∧ bn * K ≤ zs.length) := by
  rw [List.all_cons, List.all_nil, Bool.and_true, Bool.eq_iff_iff, sgOk_iff, decide_eq_true_iff]
  constructor
  · rintro ⟨⟨h1, h2, _⟩, _⟩
    exact ⟨h1, h2, hl⟩
  · rintro ⟨h1, h2, _⟩
    refine ⟨⟨h1, h2, hb⟩, fun e => ?_⟩
    have e2 : K = 2 := by omega
    subst e2
    exact nums_le2 hz
set_option maxRecDepth 100000 in
set_option maxHeartbeats 6400000 in
theorem next_main (Q : Bool) (K : Nat) (hK : K = 2 ∨ K = 4) (B gr gw g : Nat) (a : Int) (bn : Nat) (q2 : Bool) (ys ys1 zs : List Int) (p p2 : Nat) (w : World) (ha : 0 ≤ a ∧ a ≤ 255) (hbn : bn ≤ 255) (hz : byteL zs) (hQ : Hid (Q = decide ((a = 1 ∨ a = 2) ∧ 1 ≤ bn ∧ bn * K ≤ zs.length)))
    (hc : Own w gr 45 #[.pointer (some ⟨g, 0, none⟩)]) (hwc : Own w gw 3 #[.int .i64 (K : Int)]) (hr : RdrB B w g ys p)
    (hN1 : Hid (∀ W, RdrB B W g ys p → Calls Tryd.prog 51 #[.pointer (some ⟨g, 0, none⟩), .int .i64 1] W fun e w' => e = .returned (.tuple #[.int .u32 a, .bool true]) ∧ RdrB B w' g ys1 (p + 1) ∧ W.grownBy w' (some g)))
    (hN2 : Hid (∀ W, RdrB B W g ys1 (p + 1) → Calls Tryd.prog 51 #[.pointer (some ⟨g, 0, none⟩), .int .i64 1] W fun e w' => e = .returned (.tuple #[.int .u32 (bn : Int), .bool q2]) ∧ RdrB B w' g zs p2 ∧ W.grownBy w' (some g)))
    (hNK : Hid (∀ W q, q * K + K ≤ zs.length → RdrB B W g (zs.drop (q * K)) (p2 + q * K) → Calls Tryd.prog 51 #[.pointer (some ⟨g, 0, none⟩), .int .i64 (K : Int)] W fun e w' => e = .returned (.tuple #[.int .u32 (big ((zs.drop (q * K)).take K)), .bool true]) ∧ RdrB B w' g (zs.drop ((q + 1) * K)) (p2 + (q + 1) * K) ∧ W.grownBy w' (some g)))
    (hNF : Hid (∀ W q, zs.length < q * K + K → RdrB B W g (zs.drop (q * K)) (p2 + q * K) → Calls Tryd.prog 51 #[.pointer (some ⟨g, 0, none⟩), .int .i64 (K : Int)] W fun e w' => e = .returned (.tuple #[.int .u32 0, .bool false]) ∧ W = w')) :
    Calls Tryd.prog 50 #[.pointer (some ⟨gr, 0, none⟩), .pointer (some ⟨gw, 0, none⟩)] w fun e w' => ∃ k A n c q, e = .returned (.tuple #[.agg #[.int .i64 k, .slice A n c], .bool q]) ∧ Rest w w' (fun i => i = g) ∧ q = Q ∧ (q = true → RdrB B w' g (zs.drop (bn * K)) (p2 + bn * K) ∧ SD w' w.heap.size ⟨k, A, n, c, nums K bn zs⟩ ∧ k = a) := by
  have hng1 := hc.typed.ne hr.typed rd_types.1
  have hng2 := hwc.typed.ne hr.typed rd_types.2.1
  have hlr := hc.lt
  have hlw := hwc.lt
  have hBs := hr.size
  have hglt := hr.lt
  have oR := Own.new w 61 #[.int .i64 0, .slice none 0 0]
  have b0 := bl_alloc (bl_refl w) (.cells #[.int .i64 0, .slice none 0 0] 61)
  have c1 := hc.step b0
  have wc1 := hwc.step b0
  have r1 := hr.below b0
  have e1 := c1.cell (i := 0) rfl
  have R1 : Rest w _ (fun i => i = g) := Rest.of_below b0 _
  have hi64 : IntKind.i64.wrap a = a := by rw [IntKind.wrap_i64]; omega
  have hs0 : (w.alloc (.cells #[.int .i64 0, .slice none 0 0] 61)).heap.size = w.heap.size + 1 := by simp
  clear hc hwc hr b0
  go_enter Tryd.func50, Tryd.ntmps50
  go_wp2_with fail
  refine (hN1.out _ r1).mono ?_
  rintro e w1 ⟨rfl, r2, hg1⟩
  have oR1 := oR.grown hg1 (by intro e; injection e with e; omega)
  have c2 := c1.grown hg1 (by intro e; injection e with e; exact hng1 e)
  have wc2 := wc1.grown hg1 (by intro e; injection e with e; exact hng2 e)
  have R2 := R1.trans (Rest.of_grown hg1 (P := fun i => i = g) (fun j hj => (Option.some.inj hj).symm)) (fun i _ h => h)
  have e2 := c2.cell (i := 0) rfl
  have hs1 := hg1.size
  rw [hs0] at hs1
  clear oR c1 wc1 r1 e1 R1 hg1 hs0
  go_wp2_with fail
  refine (hN2.out _ r2).mono ?_
  rintro e w3 ⟨rfl, r3, hg2⟩
  have oR3 := oR1.grown hg2 (by intro e; injection e with e; omega)
  have c3 := c2.grown hg2 (by intro e; injection e with e; exact hng1 e)
  have wc3 := wc2.grown hg2 (by intro e; injection e with e; exact hng2 e)
  have R3 := R2.trans (Rest.of_grown hg2 (P := fun i => i = g) (fun j hj => (Option.some.inj hj).symm)) (fun i _ h => h)
  have hs3 : w.heap.size + 1 ≤ w3.heap.size := by have := hg2.size; omega
  clear oR1 c2 wc2 r2 e2 R2 hg2 hs1
  have b4 := bl_alloc (bl_refl w3) (.cells #[.int .i64 a, .slice none 0 0] 61)
  have oS4 := Own.new w3 61 #[.int .i64 a, .slice none 0 0]
  have oR4 := oR3.step b4
  have c4 := c3.step b4
  have wc4 := wc3.step b4
  have r4 := r3.below b4
  have R4 := R3.below b4
  clear oR3 c3 wc3 r3 R3 b4
  go_wp2_with fail
  go_loopw [25] (fun i wr => ∃ (q : Nat) (A1 : Option Addr) (c1 : Nat), q ≤ bn ∧ i = .int .u32 (q : Int) ∧ Hid (q * K ≤ zs.length) ∧ wr.ownsRow w.heap.size 51 1 (.slice A1 q c1) q ((nums K q zs).map (Value.int .u32)) ∧ Own wr w3.heap.size 61 #[.int .i64 a, .slice A1 q c1] ∧ RdrB B wr g (zs.drop (q * K)) (p2 + q * K) ∧ Own wr gr 45 #[.pointer (some ⟨g, 0, none⟩)] ∧ Own wr gw 3 #[.int .i64 (K : Int)] ∧ Own wr w.heap.size 61 #[.int .i64 0, .slice none 0 0] ∧ Rest w wr (fun i => i = g)) (fun i _ => bn - (intOf i).toNat)
  case atStart => exact ⟨0, none, 0, Nat.zero_le _, rfl, Lib.hid (by omega), World.ownsRow_nil _ _ _ _, oS4, by simpa using r4, c4, wc4, oR4, R4⟩
  case round =>
    obtain ⟨q, A1, c1, hq, rfl, hql, hrow, oS, rr, oc, owc, oR, hR⟩ := hrel
    clear oS4 r4 c4 wc4 oR4 R4
    have d0 := oc.cell (i := 0) rfl
    have d1 := owc.cell (i := 0) rfl
    by_cases hlt : q < bn
    · by_cases hk : q * K + K ≤ zs.length
      · have hC := Lib.hid (hNK.out wr q hk rr)
        have hnu := Lib.hid (show (nums K (q + 1) zs).map (Value.int .u32) = (nums K q zs).map (Value.int .u32) ++ [.int .u32 (big ((zs.drop (q * K)).take K))] by rw [nums_succ, List.map_append]; rfl)
        have hk2 := Lib.hid (show (q + 1) * K ≤ zs.length by rw [Nat.succ_mul]; exact hk)
        generalize big ((zs.drop (q * K)).take K) = x at *
        have hu : IntKind.u32.wrap ((q : Int) + 1) = (q : Int) + 1 := by rw [IntKind.wrap_u32]; omega
        have hng3 := oS.typed.ne rr.typed rd_types.2.2.1
        have hng4 := oR.typed.ne rr.typed rd_types.2.2.1
        clear hk
        go_wp2_with fail
        refine hC.out.mono ?_
        rintro e w5 ⟨rfl, r5, hg5⟩
        have oS5 := oS.grown hg5 (by intro e; injection e with e; exact hng3 e)
        have oR5 := oR.grown hg5 (by intro e; injection e with e; exact hng4 e)
        have oc5 := oc.grown hg5 (by intro e; injection e with e; exact hng1 e)
        have ow5 := owc.grown hg5 (by intro e; injection e with e; exact hng2 e)
        have hrow5 := row_rest hrow (Rest.of_grown hg5 (P := fun i => i = g) (fun j hj => (Option.some.inj hj).symm)) (fun j hj e => (row_typed hrow hj).1.ne rr.typed rd_types.2.2.2 e)
        have R5 := hR.trans (Rest.of_grown hg5 (P := fun i => i = g) (fun j hj => (Option.some.inj hj).symm)) (fun i _ h => h)
        have ds := oS5.cell (i := 1) rfl
        have hsl := oS5.lt
        have hrs := R5.size
        have HRow := Lib.hid hrow5
        have HOS := Lib.hid oS5
        clear hrow oS oR oc owc rr hR d0 d1 hg5 hrow5 oS5
        go_wp2_with (at_builtin; refine wpList_append_grow _ rfl _ _ rfl sl_u32 w.heap.size _ q _ rfl (HRow.out.alloc _) (w5.heap.size + 1) (some ⟨w5.heap.size, 0, none⟩) 1 1 [.int .u32 x] rfl rfl (Shows.of_owned (Own.new _ _ _) (by simp)) (one1 rfl) (by unfold maxLen; omega) (by omega) (by simp; omega) ?_; intro v6 w6 hrow6 hg6; obtain ⟨A3, c3, rfl⟩ := own_form hrow6; have oS6 := (HOS.out.alloc (.cells #[.int .u32 x] 51)).grown hg6 (fun e => own_blk HRow.out HOS.out (Ne.symm seg_types) e.symm); have cq6 := oS6.cell (i := 1) rfl; have fq6 := oS6.frozen 1; have hq6 := oS6.lt)
        have R56 : Rest w5 w6 (fun i => (Value.slice A1 q c1).ownBlock = some i) := (Rest.of_below (bl_alloc (bl_refl w5) (.cells #[.int .u32 x] 51)) (fun i => (Value.slice A1 q c1).ownBlock = some i)).trans (Rest.of_grown hg6 (P := fun i => (Value.slice A1 q c1).ownBlock = some i) (fun j hj => hj)) (fun i _ h => h)
        have R57 : Rest w5 (w6.setCell ⟨w3.heap.size, 1, none⟩ (.slice A3 (q + 1) c3)) (fun i => (Value.slice A1 q c1).ownBlock = some i ∨ i = w3.heap.size) := (R56.mono (fun i h => Or.inl h)).trans (Rest.setCell w6 ⟨w3.heap.size, 1, none⟩ (.slice A3 (q + 1) c3)) (fun i _ h => Or.inr h)
        have far : ∀ i t, t ≠ 51 → Typed w5 i t → i ≠ w3.heap.size → ¬ ((Value.slice A1 q c1).ownBlock = some i ∨ i = w3.heap.size) := fun i t ht hty hne h => by
          rcases h with h | h
          · exact (row_typed HRow.out h).1.ne hty (Ne.symm ht) rfl
          · exact hne h
        have r7 := r5.rest R57 (fun i hi h => by
          rcases hi with hi | rfl
          · rcases h with h | h
            · have := (row_typed HRow.out h).2; omega
            · omega
          · exact far _ _ (Ne.symm rd_types.2.2.2) r5.typed (fun e => hng3 e.symm) h)
        have hlow : ∀ i, i < w.heap.size → ¬ ((Value.slice A1 q c1).ownBlock = some i ∨ i = w3.heap.size) := fun i hi h => by
          rcases h with h | h
          · have := (row_typed HRow.out h).2; omega
          · omega
        have oc7 := R57.own oc5 (hlow _ hlr)
        have ow7 := R57.own ow5 (hlow _ hlw)
        have oR7 := R57.own oR5 (far _ _ seg_types oR5.typed (by omega))
        have R7 := R5.trans R57 (fun i hi h => (hlow i hi h).elim)
        have oS7 := oS6.set_ 1 (.slice A3 (q + 1) c3)
        rw [← hnu.out] at hrow6
        have hrow7 := row_rest hrow6 (Rest.setCell w6 ⟨w3.heap.size, 1, none⟩ (.slice A3 (q + 1) c3)) (fun j hj e => (row_typed hrow6 hj).1.ne oS6.typed (Ne.symm seg_types) e)
        go_roundw
        case rel => exact ⟨q + 1, A3, c3, by omega, by rw [show ((q + 1 : Nat) : Int) = (q : Int) + 1 by omega], hk2, hrow7, by simpa using oS7, r7, oc7, ow7, oR7, R7⟩
        case measure => simp [intOf]; omega
      · have hC := Lib.hid (hNF.out wr q (by omega) rr)
        have hD : Hid (false = Q) := Lib.hid (by
          rw [hQ.out]
          symm
          apply decide_eq_false
          rintro ⟨_, _, h⟩
          have := Nat.mul_le_mul_right K (show q + 1 ≤ bn by omega)
          rw [Nat.succ_mul] at this
          omega)
        have HRr := Lib.hid (hR.trans (Rest.setRow wr w.heap.size #[.int .i64 0, .slice none 0 0]) (fun i hi e => by have e2 : i = w.heap.size := e; omega))
        clear hk rr hrow oS hR
        go_wp2_with fail
        refine hC.out.mono ?_
        rintro e w' ⟨rfl, rfl⟩
        go_wp2_with (refine wpList_store_row rfl 61 _ _ rfl w.heap.size #[.int .i64 0, .slice none 0 0] rfl rfl 61 #[.int .i64 0, .slice none 0 0] oR (seg_info _ _ _ _) rfl (seg_one _ _ _ _) ?_)
        exact bodyPost_ret (results_cell_tmpS (p := 2) (t := 3) (fn := Tryd.f50) rfl _ _ w.heap.size 61 #[.int .i64 0, .slice none 0 0] _ rfl oR.setRow seg_desc rfl (seg_info _ _ _ _)) rfl ⟨0, none, 0, 0, false, rfl, HRr.out, hD.out, fun h => by cases h⟩
    · obtain rfl : bn = q := by omega
      have hV := okNz hK hbn hz hql.out a A1 c1
      have hSDd : SD wr w.heap.size ⟨a, A1, bn, c1, nums K bn zs⟩ := ⟨hrow, (nums_len _ _ _).symm, nums_range (by omega) hz, wf_byteS ha⟩
      have bA : Below wr.heap.size wr (wr.alloc (.cells #[.int .i64 a, .slice A1 bn c1] 61)).drew := bl_drewN (bl_alloc (bl_refl wr) (.cells #[.int .i64 a, .slice A1 bn c1] 61)) 1
      have hSg : Segs (wr.alloc (.cells #[.int .i64 a, .slice A1 bn c1] 61)).drew (wr.alloc (.cells #[.int .i64 a, .slice A1 bn c1] 61)).drew.heap.size (some ⟨wr.heap.size, 0, none⟩) 1 [⟨a, A1, bn, c1, nums K bn zs⟩] := by
        have hd := hSDd.below bA
        have ho := (Own.new wr 61 #[.int .i64 a, .slice A1 bn c1]).drew
        refine ⟨rfl, fun s hs => ?_, .inr ⟨wr.heap.size, 0, rfl, ho.lt, fun i s hi => ?_⟩⟩
        · rw [List.mem_singleton] at hs
          subst hs
          exact ⟨(row_caps hd.1).1, (row_caps hd.1).2, hd.2.2.2, hd.2.2.1, hd.u32s⟩
        · match i, hi with
          | 0, hi => cases hi; exact ⟨ho.cell rfl, ho.cell rfl⟩
          | i + 1, hi => simp at hi
      have hVal := Lib.hid (svalid_yes (K : Int) (by rcases hK with rfl | rfl; exact .inl rfl; exact .inr rfl) _ 1 1 _ _ hSg (by omega))
      rw [hV] at hVal
      have HSD := Lib.hid hSDd
      have HRr := Lib.hid hR
      have HRd := Lib.hid rr
      have HOR := Lib.hid oR
      have owc0 := owc
      have hng4 := oR.typed.ne rr.typed rd_types.2.2.1
      rw [← hQ.out] at hVal
      clear hV hSDd hSg hR rr hrow oR oc owc
      have HOS := Lib.hid oS
      have HOW := Lib.hid owc0
      have hnR : ¬ w3.heap.size = w.heap.size := by omega
      have hnW : ¬ gw = w.heap.size := by omega
      go_wp2_with fail
      have HS0 := and_threeS (HOS.out.drew.cell (i := 0) rfl) (HOS.out.drew.cell (i := 1) rfl) (HOW.out.drew.cell (i := 0) rfl)
      have HS1 := and_threeS ((HOS.out.step bA).cell (i := 0) rfl) ((HOS.out.step bA).cell (i := 1) rfl) ((HOW.out.step bA).cell (i := 0) rfl)
      refine wp_region_noPanic ?_
      refine wp_region_held_drew (S := (fun W => W.cell? ⟨w3.heap.size, 0, none⟩ = some (.int .i64 a) ∧ W.cell? ⟨w3.heap.size, 1, none⟩ = some (.slice A1 bn c1) ∧ W.cell? ⟨gw, 0, none⟩ = some (.int .i64 (K : Int)))) (by kernel_rfl) HS0 (fun hHeld => ?_)
      refine wpAnyH_take (i := 0) (v := ?_) rfl (by kernel_rfl) (by kernel_rfl) (by kernel_rfl) (fun _ _ _ h => h) (Or.inl ⟨by rfl, ?_⟩) (by assumption) ?_
      rotate_left
      · (intro W hSw; obtain ⟨s0, s1, s2⟩ := hSw; go_simp; try with_reducible rfl)
      simp only [Act.put, List.getElem_toArray, List.getElem_cons_zero, List.setIfInBounds_toArray, List.set_cons_zero, List.set_cons_succ]
      refine wpAnyH_take (i := 1) (v := ?_) rfl (by kernel_rfl) (by kernel_rfl) (by kernel_rfl) (fun _ _ _ h => h) (Or.inl ⟨by rfl, ?_⟩) (by assumption) ?_
      rotate_left
      · (intro W hSw; obtain ⟨s0, s1, s2⟩ := hSw; go_simp; try with_reducible rfl)
      simp only [Act.put, List.getElem_toArray, List.getElem_cons_zero, List.getElem_cons_succ, List.setIfInBounds_toArray, List.set_cons_zero, List.set_cons_succ]
      refine wpAnyH_take (i := 2) (v := ?_) rfl (by kernel_rfl) (by kernel_rfl) (by kernel_rfl) (fun _ _ _ h => h) (Or.inl ⟨by rfl, ?_⟩) (by assumption) ?_
      rotate_left
      · (intro W hSw; obtain ⟨s0, s1, s2⟩ := hSw; go_simp; try with_reducible rfl)
      simp only [Act.put, List.getElem_toArray, List.getElem_cons_zero, List.getElem_cons_succ, List.setIfInBounds_toArray, List.set_cons_zero, List.set_cons_succ]
      refine wpAnyH_ready (rs := [3]) (by kernel_rfl) (by simp) ?_
      refine AllReadyH.cons rfl (fun K hK => ?_) AllReadyH.nil
      go_simp
      skip
      refine hK.out _ _ HS1 (fun hHeld2 => ?_)
      clear hK K hHeld
      have hHeld := hHeld2
      clear hHeld2
      try simp only [Act.put, List.getElem_toArray, List.getElem_cons_zero, List.getElem_cons_succ, List.setIfInBounds_toArray, List.set_cons_zero, List.set_cons_succ]
      refine wpAnyH_ready (rs := [4]) (by kernel_rfl) (by simp) ?_
      refine AllReadyH.cons rfl (fun K hK => ?_) AllReadyH.nil
      go_simp
      (go_at_call 13; (with_reducible refine hVal.out.mono ?_); rintro e w6 ⟨rfl, hb6⟩)
      have b6 := bl_trans bA hb6
      have oR6 := HOR.out.step b6
      have HS2 := and_threeS ((HOS.out.step b6).cell (i := 0) rfl) ((HOS.out.step b6).cell (i := 1) rfl) ((HOW.out.step b6).cell (i := 0) rfl)
      have HS3 := and_threeS ((Rest.setRow w6 w.heap.size #[.int .i64 a, .slice A1 bn c1]).own (HOS.out.step b6) hnR |>.cell (i := 0) rfl) ((Rest.setRow w6 w.heap.size #[.int .i64 a, .slice A1 bn c1]).own (HOS.out.step b6) hnR |>.cell (i := 1) rfl) ((Rest.setRow w6 w.heap.size #[.int .i64 a, .slice A1 bn c1]).own (HOW.out.step b6) hnW |>.cell (i := 0) rfl)
      refine hK.out _ _ HS2 (fun hHeld2 => ?_)
      clear hK K hHeld
      have hHeld := hHeld2
      clear hHeld2
      try simp only [Act.put, List.getElem_toArray, List.getElem_cons_zero, List.getElem_cons_succ, List.setIfInBounds_toArray, List.set_cons_zero, List.set_cons_succ]
      refine wpAnyH_ready (rs := [5]) (by kernel_rfl) (by simp) ?_
      refine AllReadyH.cons rfl (fun K hK => ?_) AllReadyH.nil
      refine step_store_row rfl _ _ _ rfl w.heap.size #[.int .i64 a, .slice A1 bn c1] rfl rfl 61 #[.int .i64 0, .slice none 0 0] oR6 (seg_info _ _ _ _) rfl (seg_one _ _ _ _) ?_
      refine hK.out _ _ HS3 (fun hHeld2 => ?_)
      clear hK K hHeld
      have hHeld := hHeld2
      clear hHeld2
      try simp only [Act.put, List.getElem_toArray, List.getElem_cons_zero, List.getElem_cons_succ]
      refine wpAnyH_take (i := 6) (v := ?_) rfl (by kernel_rfl) (by kernel_rfl) (by kernel_rfl) (fun _ _ _ h => h) (Or.inl ⟨by rfl, ?_⟩) (by assumption) ?_
      rotate_left
      · (intro W hSw; obtain ⟨s0, s1, s2⟩ := hSw; go_simp; try with_reducible rfl)
      simp only [Act.put, List.getElem_toArray, List.getElem_cons_zero, List.getElem_cons_succ, List.setIfInBounds_toArray, List.set_cons_zero, List.set_cons_succ]
      refine wpAnyH_done (by kernel_rfl) ?_ _
      refine NoPanic.normal ?_
      go_wp2
      have hl6 : w.heap.size < w6.heap.size := oR6.lt
      have R8 : Rest wr (w6.setRow w.heap.size #[.int .i64 a, .slice A1 bn c1]) (fun i => i = w.heap.size) := ((Rest.of_below b6 (fun i => i = w.heap.size))).trans (Rest.setRow w6 w.heap.size _) (fun i _ h => h)
      have R9 := HRr.out.trans R8 (fun i hi e => by have e2 : i = w.heap.size := e; omega)
      have r9 := HRd.out.rest R8 (fun i hi e => by
        have e2 : i = w.heap.size := e
        rcases hi with hi | hi
        · omega
        · exact hng4 (e2.symm.trans hi))
      have SD9 : SD (w6.setRow w.heap.size #[.int .i64 a, .slice A1 bn c1]) w.heap.size ⟨a, A1, bn, c1, nums K bn zs⟩ := ⟨row_rest HSD.out.1 R8 (fun j hj e => by
        have e2 : j = w.heap.size := e
        exact (row_typed HSD.out.1 hj).1.ne HOR.out.typed (Ne.symm seg_types) e2), HSD.out.2⟩
      exact bodyPost_ret (results_cell_tmpS (p := 2) (t := 3) (fn := Tryd.f50) rfl _ _ w.heap.size 61 #[.int .i64 a, .slice A1 bn c1] _ rfl oR6.setRow seg_desc rfl (seg_info _ _ _ _)) rfl ⟨a, A1, bn, c1, Q, rfl, R9, rfl, fun _ => ⟨r9, SD9, rfl⟩⟩
set_option maxRecDepth 100000 in
theorem next_any (K : Nat) (hK : K = 2 ∨ K = 4) (B gr gw g : Nat) (ys : List Int) (p : Nat) (w : World) (hc : Own w gr 45 #[.pointer (some ⟨g, 0, none⟩)]) (hwc : Own w gw 3 #[.int .i64 (K : Int)]) (hr : RdrB B w g ys p) (hl : ys.length ≤ 100000) (hp : p + ys.length ≤ 100000) (hne : ys ≠ []) :
    Calls Tryd.prog 50 #[.pointer (some ⟨gr, 0, none⟩), .pointer (some ⟨gw, 0, none⟩)] w fun e w' => ∃ k A n c, e = .returned (.tuple #[.agg #[.int .i64 k, .slice A n c], .bool (okS K ys)]) ∧ Rest w w' (fun i => i = g) ∧ (okS K ys = true → (∃ p', p' + (restS K ys).length ≤ 100000 ∧ RdrB B w' g (restS K ys) p') ∧ SD w' w.heap.size ⟨k, A, n, c, (segS K ys).2⟩ ∧ k = (segS K ys).1 ∧ n ≤ 255) := by
  have hb : byteL ys := hr.range
  have k4 : 1 ≤ (K : Int) ∧ (K : Int) ≤ 4 := by omega
  match ys, hne with
  | [a], _ =>
    have ha := hb a (by simp)
    have hok : okS K [a] = false := by unfold okS; exact decide_eq_false (by simp)
    have N1 := Lib.hid (fun W (h : RdrB B W g [a] p) => number_yesB B g [a] p 1 W h (by simp) (by simp at hp; omega) (by omega) (by omega) (by simp))
    have e1 : big ([a].take (1 : Int).toNat) = a := by show big [a] = a; simp [big]
    rw [e1] at N1
    have N2 := Lib.hid (fun W (h : RdrB B W g ([] : List Int) (p + 1)) => (number_no g [] (p + 1) 1 W h.rdr (by simp) (by omega) (by omega) (by simp)).mono (R' := fun e w' => e = .returned (.tuple #[.int .u32 ((0 : Nat) : Int), .bool false]) ∧ RdrB B w' g [] (p + 1) ∧ W.grownBy w' (some g)) (fun e w' ⟨he, hw⟩ => ⟨he, by subst hw; exact h, by subst hw; exact World.grownBy.refl _ _⟩))
    refine (next_main _ K hK B gr gw g a 0 false [a] [] [] p (p + 1) w ha (by omega) (fun _ h => by cases h) (Lib.hid rfl) hc hwc hr N1 N2 (Lib.hid fun W q h _ => by exfalso; rcases hK with rfl | rfl <;> simp at h) (Lib.hid fun W q h hr2 => number_no g _ _ (K : Int) W hr2.rdr (by simp) k4.1 k4.2 (by simp; omega))).mono ?_
    rintro e w' ⟨k, A, n, c, q, rfl, hR, hq, _⟩
    have hq2 : q = false := by rw [hq]; exact decide_eq_false (by omega)
    subst hq2
    exact ⟨k, A, n, c, by rw [hok], hR, fun h => by rw [hok] at h; cases h⟩
  | a :: b :: zs, _ =>
    have ha := hb a (by simp)
    have hbb := hb b (by simp)
    have hz : byteL zs := fun y hy => hb y (by simp [hy])
    have hl2 : zs.length + 2 ≤ 100000 := by simpa using hl
    have hp2 : p + (zs.length + 2) ≤ 100000 := by simpa using hp
    obtain ⟨bn, rfl⟩ : ∃ bn : Nat, b = (bn : Int) := ⟨b.toNat, by omega⟩
    have hok : okS K (a :: (bn : Int) :: zs) = decide ((a = 1 ∨ a = 2) ∧ 1 ≤ bn ∧ bn * K ≤ zs.length) := by
      unfold okS
      rw [show nth (a :: (bn : Int) :: zs) 0 = a from rfl, show nth (a :: (bn : Int) :: zs) 1 = (bn : Int) from rfl, Bool.eq_iff_iff, decide_eq_true_iff, decide_eq_true_iff, Int.toNat_natCast]
      simp only [List.length_cons]
      constructor
      · rintro ⟨_, h1, h2, h3⟩
        exact ⟨h1, by omega, by omega⟩
      · rintro ⟨h1, h2, h3⟩
        exact ⟨by omega, h1, by omega, by omega⟩
    have hrest : restS K (a :: (bn : Int) :: zs) = zs.drop (bn * K) := by
      unfold restS
      rw [show nth (a :: (bn : Int) :: zs) 1 = (bn : Int) from rfl, Int.toNat_natCast, ← List.drop_drop]
      rfl
    have hseg : segS K (a :: (bn : Int) :: zs) = (a, nums K bn zs) := by
      unfold segS
      rw [show nth (a :: (bn : Int) :: zs) 1 = (bn : Int) from rfl, Int.toNat_natCast]
      rfl
    have N1 := Lib.hid (fun W (h : RdrB B W g (a :: (bn : Int) :: zs) p) => number_yesB B g _ p 1 W h (by simp; omega) (by omega) (by omega) (by omega) (by simp; omega))
    have e1 : big ((a :: (bn : Int) :: zs).take (1 : Int).toNat) = a := by show big [a] = a; simp [big]
    rw [e1] at N1
    have N2 := Lib.hid (fun W (h : RdrB B W g ((bn : Int) :: zs) (p + 1)) => number_yesB B g _ (p + 1) 1 W h (by simp; omega) (by omega) (by omega) (by omega) (by simp; omega))
    have e2 : big (((bn : Int) :: zs).take (1 : Int).toNat) = (bn : Int) := by show big [(bn : Int)] = _; simp [big]
    rw [e2] at N2
    refine (next_main _ K hK B gr gw g a bn true _ ((bn : Int) :: zs) zs p (p + 1 + 1) w ha (by omega) hz (Lib.hid rfl) hc hwc hr N1 N2
      (Lib.hid fun W q h hr2 => by
        have := number_yesB B g _ _ (K : Int) W hr2 (by rw [List.length_drop]; omega) (by omega) k4.1 k4.2 (by rw [List.length_drop]; omega)
        rw [Int.toNat_natCast, List.drop_drop, show p + 1 + 1 + q * K + K = p + 1 + 1 + (q + 1) * K by rw [Nat.succ_mul]; omega, show q * K + K = (q + 1) * K from (Nat.succ_mul q K).symm] at this
        exact this)
      (Lib.hid fun W q h hr2 => number_no g _ _ (K : Int) W hr2.rdr (by rw [List.length_drop]; omega) k4.1 k4.2 (by rw [List.length_drop]; omega))).mono ?_
    rintro e w' ⟨k, A, n, c, q, rfl, hR, hq, hy⟩
    rw [← hok] at hq
    subst hq
    refine ⟨k, A, n, c, rfl, hR, fun h => ?_⟩
    obtain ⟨h1, h2, h3⟩ := hy h
    rw [hrest, hseg]
    rw [hok] at h
    have h4 := of_decide_eq_true h
    refine ⟨⟨_, ?_, h1⟩, h2, h3, ?_⟩
    · rw [List.length_drop]; omega
    · have := h2.2.1
      dsimp only at this
      rw [nums_len] at this
      omega
end Go.Proofs.YtecbbjdcnlocdaaDoor

/- segment.Read -/
namespace Go.Proofs.YtecbbjdcnlocdaaDoor
open Go.RowKit Go.Sort

def lenOfS (v : Value) : Nat := match v with | .slice _ n _ => n | _ => 0
theorem SRow.rest {w w' : World} {base : Nat} {v : Value} {L : List Sg} {P : Nat → Prop} (h : SRow w base v L) (k : Rest w w' P) (hp : ∀ j t, t = 61 ∨ t = 51 → base ≤ j → Typed w j t → ¬ P j) : SRow w' base v L :=
  ⟨row_rest h.1 k (fun j hj => hp j _ (.inl rfl) (row_typed h.1 hj).2 (row_typed h.1 hj).1), fun s hs => ⟨row_rest (h.2 s hs).1 k (fun j hj => hp j _ (.inr rfl) (row_typed (h.2 s hs).1 hj).2 (row_typed (h.2 s hs).1 hj).1), (h.2 s hs).2⟩⟩
theorem SRow.lift {w : World} {base b : Nat} {v : Value} {L : List Sg} (h : SRow w base v L) (hb : b ≤ base) : SRow w b v L := ⟨own_leG h.1 hb, fun s hs => (h.2 s hs).lift hb⟩
theorem SRow.form {w : World} {base : Nat} {v : Value} {L : List Sg} (h : SRow w base v L) : ∃ A c, v = .slice A L.length c := own_form h.1
theorem rest_lt {K : Nat} {ys : List Int} (h : okS K ys = true) : (restS K ys).length + 2 ≤ ys.length := by
  unfold okS at h
  have h2 := of_decide_eq_true h
  unfold restS
  rw [List.length_drop]
  omega
/-- What a read gives. -/
def Got (O : Option (List (Int × List Int))) (q : Bool) (L : List Sg) : Prop := ((O = some (L.map sgK) ∧ q = true) ∨ (O = none ∧ q = false ∧ L = [])) ∧ L.length ≤ 90000 ∧ ∀ s ∈ L, s.n ≤ 100000
set_option maxRecDepth 100000 in
set_option maxHeartbeats 6400000 in
theorem sread_yes (K : Nat) (hK : K = 2 ∨ K = 4) (A : Option Addr) (n c : Nat) (xs : List Int) (w : World) (h : Bytes w w.heap.size A n xs) (hn : n ≤ 90000) (O : Option (List (Int × List Int))) (hO : Hid (readS K (xs.length + 1) xs = O)) :
    Calls Tryd.prog 17 #[.int .i64 (K : Int), .slice A n c] w fun e w' => ∃ v L q, e = .returned (.tuple #[v, .bool q]) ∧ SRow w' w.heap.size v L ∧ Hid (Got O q L) ∧ Below w.heap.size w w' := by
  have HW := Lib.hid (fun W => hasw_any (K : Int) W)
  rw [show decide ((K : Int) = 2 ∨ (K : Int) = 4) = true from decide_eq_true (by omega)] at HW
  have HK := Lib.hid hK
  have hX := Lib.hid (new_any A n c xs _ ((h.below (bl_alloc (bl_refl w) (.cells #[.int .i64 (K : Int)] 3))).more (by simp)) (by omega))
  have hl := h.1
  have HL := Lib.hid (show xs.length ≤ 90000 by omega)
  have bB := bl_alloc (bl_refl w) (.cells #[.int .i64 (K : Int)] 3)
  have oW := Own.new w 3 #[.int .i64 (K : Int)]
  have hs0 : (w.alloc (.cells #[.int .i64 (K : Int)] 3)).heap.size = w.heap.size + 1 := by simp
  clear h hK hl
  go_enter Tryd.func17, Tryd.ntmps17
  go_wp2_with fail
  refine (HW.out _).mono ?_
  rintro e w' ⟨rfl, rfl⟩
  go_wp2_with fail
  refine hX.out.mono ?_
  rintro e w1 ⟨g, rfl, hg, hr, hb1⟩
  rw [hs0] at hg
  have oW1 := (oW.step hb1).alloc (.cells #[.pointer (some ⟨g, 0, none⟩)] 45)
  have hs1 : w.heap.size + 1 ≤ w1.heap.size := by have := hb1.size; omega
  have oC := Own.new w1 45 #[.pointer (some ⟨g, 0, none⟩)]
  have rB := hr.toB.below (bl_alloc (bl_refl w1) (.cells #[.pointer (some ⟨g, 0, none⟩)] 45))
  have bX := bl_alloc (bl_trans bB hb1) (.cells #[.pointer (some ⟨g, 0, none⟩)] 45)
  clear oW hb1 hr bB hs0
  go_wp2_with fail
  go_loopw [8] (fun v wr => ∃ (L : List Sg) (ys : List Int) (p : Nat), SRow wr w1.heap.size v L ∧ Hid (Come K xs (L.map sgK) ys ∧ L.length + ys.length ≤ xs.length ∧ ∀ s ∈ L, s.n ≤ 100000) ∧ p + ys.length ≤ 100000 ∧ RdrB w1.heap.size wr g ys p ∧ Own wr w1.heap.size 45 #[.pointer (some ⟨g, 0, none⟩)] ∧ Own wr w.heap.size 3 #[.int .i64 (K : Int)] ∧ Below w.heap.size w wr) (fun v _ => 90000 - lenOfS v)
  case atStart => exact ⟨[], xs, 0, SRow.nil _ _, Lib.hid ⟨Come.start K xs, by simp, (fun _ h => by cases h)⟩, by have := HL.out; omega, rB, oC, oW1, bX⟩
  case round =>
    obtain ⟨L, ys, p, hrow, hL, hp, rr, oc, ow, hb⟩ := hrel
    clear rB oC oW1 bX
    obtain ⟨A0, c0, rfl⟩ := hrow.form
    have d0 := oc.cell (i := 0) rfl
    have hyl := Lib.hid (show ys.length ≤ 100000 by omega)
    have hlf := Lib.hid (left_any g ys p wr rr.rdr)
    by_cases hy : ys = []
    · subst hy
      have hG := Lib.hid (show Got O true L from ⟨.inl ⟨by rw [← hO.out]; exact hL.out.1.done, rfl⟩, by have := hL.out.2.1; have := HL.out; simp at this ⊢; omega, hL.out.2.2⟩)
      have hrow2 := hrow.lift (show w.heap.size ≤ w1.heap.size by omega)
      go_wp2_with fail
      refine hlf.out.mono ?_
      rintro e w' ⟨rfl, rfl⟩
      go_wp2
      go_ret2
      exact ⟨_, L, true, rfl, hrow2, hG, hb⟩
    · have hpos : 0 < ys.length := List.length_pos_iff.2 hy
      have hNx := Lib.hid (next_any K HK.out w1.heap.size w1.heap.size w.heap.size g ys p wr oc ow rr hyl.out hp hy)
      by_cases hok : okS K ys = true
      · have hCs := Lib.hid (hL.out.1.step hy hok)
        have hlt := Lib.hid (rest_lt hok)
        rw [hok] at hNx
        have hLl : L.length ≤ 90000 := by have := hL.out.2.1; have := HL.out; omega
        have HRow := Lib.hid hrow
        have HR := Lib.hid rr
        have HC := Lib.hid oc
        have HWd := Lib.hid ow
        have HB := Lib.hid hb
        clear hrow rr oc ow hb
        go_wp2_with fail
        refine hlf.out.mono ?_
        rintro e w' ⟨rfl, rfl⟩
        go_wp2_with fail
        go_at_call 50
        refine hNx.out.mono ?_
        rintro e w2 ⟨k, A2, n2, c2, rfl, R2, hy2⟩
        obtain ⟨⟨p2, hp2, r2⟩, sd2, hk2, hn2⟩ := hy2 trivial
        have gty := HR.out.typed
        have row2 := HRow.out.rest R2 (fun j t ht _ hty e => by
          have e2 : j = g := e
          rcases ht with rfl | rfl
          · exact hty.ne gty rd_types.2.2.1 e2
          · exact hty.ne gty rd_types.2.2.2 e2)
        have oc2 := R2.own HC.out (HC.out.typed.ne gty rd_types.1)
        have ow2 := R2.own HWd.out (HWd.out.typed.ne gty rd_types.2.1)
        have hgB : w.heap.size + 1 ≤ g := hg
        have hs2 := R2.size
        have hb2 : Below w.heap.size w w2 := HB.out.trans (R2.to_below HB.out.size (fun i hi e => by have e2 : i = g := e; omega))
        have sd2' := sd2.lift (b := w1.heap.size) (by have := HR.out.size; omega)
        have bQ := bl_alloc (bl_refl w2) (.cells #[.int .i64 k, .slice A2 n2 c2] 61)
        have HRow3 := Lib.hid (row2.below bQ)
        have HSD3 := Lib.hid (sd2'.below bQ)
        have hB3 := bl_alloc hb2 (.cells #[.int .i64 k, .slice A2 n2 c2] 61)
        have HC3 := Lib.hid (oc2.step bQ)
        have HW3 := Lib.hid (ow2.step bQ)
        have HR3 := Lib.hid (r2.below bQ)
        have HB3 := Lib.hid hB3
        have hbs3 : w1.heap.size ≤ w2.heap.size := by have := r2.size; omega
        have HK2 := Lib.hid hk2
        clear row2 oc2 ow2 r2 sd2 sd2' hb2 hB3 bQ hy2 R2 hk2
        go_wp2_with (at_builtin; refine wpList_append_grow _ rfl _ _ rfl sl_segs w1.heap.size _ L.length _ rfl (HRow3.out.1.alloc _) (w2.heap.size + 1 + 1) (some ⟨w2.heap.size + 1, 0, none⟩) 1 1 [.int .i64 k, .slice A2 n2 c2] rfl rfl (Shows.of_owned (by have := Own.new (w2.alloc (.cells #[.int .i64 k, .slice A2 n2 c2] 61)) 61 #[.int .i64 k, .slice A2 n2 c2]; simpa using this) (by omega)) (oneS _ _ _ _) (by unfold maxLen; omega) (by omega) (by simp; omega) ?_; intro v5 w5 ho5 hg5)
        have row5 := HRow3.out.push (q := ⟨k, A2, n2, c2, (segS K ys).2⟩) HSD3.out ho5 hg5
        have hbA := bl_alloc (bl_refl (w2.alloc (.cells #[.int .i64 k, .slice A2 n2 c2] 61))) (.cells #[.int .i64 k, .slice A2 n2 c2] 61)
        have RG := Rest.of_grown hg5 (P := fun i => (Value.slice A0 L.length c0).ownBlock = some i) (fun j hj => hj)
        have oc5 := RG.own (HC3.out.step hbA) (fun e => (row_typed (HRow3.out.below hbA).1 e).1.ne (HC3.out.step hbA).typed (by decide) rfl)
        have ow5 := RG.own (HW3.out.step hbA) (fun e => (row_typed (HRow3.out.below hbA).1 e).1.ne (HW3.out.step hbA).typed (by decide) rfl)
        have rr5 := (HR3.out.below hbA).rest RG (fun i hi e => by
          rcases hi with hi | rfl
          · have := (row_typed (HRow3.out.below hbA).1 e).2; omega
          · exact (row_typed (HRow3.out.below hbA).1 e).1.ne (HR3.out.below hbA).typed rd_types.2.2.1 rfl)
        have hB5 := (HB3.out.alloc HB3.out.size (.cells #[.int .i64 k, .slice A2 n2 c2] 61)).grown hg5 (by have := HB3.out.size; simp at this ⊢; omega) (fun j hj => by have := (row_typed (HRow3.out.below hbA).1 hj).2; omega)
        have hF := Lib.hid (show Come K xs ((L ++ [(⟨k, A2, n2, c2, (segS K ys).2⟩ : Sg)]).map sgK) (restS K ys) ∧ (L ++ [(⟨k, A2, n2, c2, (segS K ys).2⟩ : Sg)]).length + (restS K ys).length ≤ xs.length ∧ ∀ s ∈ L ++ [(⟨k, A2, n2, c2, (segS K ys).2⟩ : Sg)], s.n ≤ 100000 from ⟨by
          rw [List.map_append]
          have e : [(⟨k, A2, n2, c2, (segS K ys).2⟩ : Sg)].map sgK = [segS K ys] := by
            show [(k, (segS K ys).2)] = _
            rw [HK2.out]
          rw [e]
          exact hCs.out, by rw [List.length_append, List.length_singleton]; have := hL.out.2.1; have := hlt.out; omega, fun s hs => by
          rcases List.mem_append.1 hs with hs | hs
          · exact hL.out.2.2 s hs
          · rw [List.mem_singleton] at hs
            subst hs
            show n2 ≤ 100000
            omega⟩)
        have hfin := Lib.hid (show L.length + 1 ≤ 90000 by have := hL.out.2.1; have := HL.out; omega)
        obtain ⟨A5, c5, rfl⟩ := row5.form
        go_roundw
        case rel => exact ⟨_, restS K ys, p2, row5, hF, hp2, rr5, oc5, ow5, hB5⟩
        case measure =>
          have := hfin.out
          simp [lenOfS]
          omega
      · have hok2 : okS K ys = false := by simpa using hok
        have hG := Lib.hid (show Got O false [] from ⟨.inr ⟨by rw [← hO.out]; exact hL.out.1.fail hy hok2, rfl, rfl⟩, by simp, fun _ h => by cases h⟩)
        rw [hok2] at hNx
        have HB := Lib.hid hb
        clear hok hrow rr oc ow hb
        go_wp2_with fail
        refine hlf.out.mono ?_
        rintro e w' ⟨rfl, rfl⟩
        go_wp2_with fail
        go_at_call 50
        refine hNx.out.mono ?_
        rintro e w2 ⟨k, A2, n2, c2, rfl, R2, _⟩
        have hb2 : Below w.heap.size w w2 := HB.out.trans (R2.to_below HB.out.size (fun i hi e => by have e2 : i = g := e; omega))
        have hB3 := bl_alloc hb2 (.cells #[.int .i64 k, .slice A2 n2 c2] 61)
        clear R2 hb2
        go_wp2
        go_ret2
        exact ⟨_, [], false, rfl, SRow.nil _ _, hG, hB3⟩
theorem bytes_cut {w : World} {B : Nat} {b o n : Nat} {xs : List Int} (h : Bytes w B (some ⟨b, o, none⟩) n xs) {k : Nat} (hk : k ≤ n) : Bytes w B (some ⟨b, o + k, none⟩) (n - k) (xs.drop k) := by
  have := h.cut (cap := n + k + 1) hk (by omega)
  rw [if_neg (by omega), Option.map_some, Addr.add_lit] at this
  exact this
/-- What a read returns. -/
def GotR (w : World) (O : Option (List (Int × List Int))) (e : Ending) (w' : World) : Prop := ∃ v L q, e = .returned (.tuple #[v, .bool q]) ∧ SRow w' w.heap.size v L ∧ Hid (Got O q L) ∧ Below w.heap.size w w'
theorem GotR.mk {w : World} {O : Option (List (Int × List Int))} {e : Ending} {w' : World} (v : Value) (L : List Sg) (q : Bool) (he : e = .returned (.tuple #[v, .bool q])) (h1 : SRow w' w.heap.size v L) (h2 : Hid (Got O q L)) (h3 : Below w.heap.size w w') : GotR w O e w' := ⟨v, L, q, he, h1, h2, h3⟩
end Go.Proofs.YtecbbjdcnlocdaaDoor

/- SegmentForms: the walk -/
namespace Go.Proofs.YtecbbjdcnlocdaaDoor
open Go.RowKit Go.Sort

theorem le_sumF (f : Sg → Nat) : ∀ {ss : List Sg} {s : Sg}, s ∈ ss → f s ≤ (ss.map f).sum
  | x :: ss, s, h => by
    rw [List.map_cons, List.sum_cons]
    rcases List.mem_cons.1 h with rfl | h
    · omega
    · have := le_sumF f h
      omega
theorem few_lenF {ss : List Sg} (h : fewB ss = true) : ss.length ≤ 50 ∧ ∀ s ∈ ss, s.n ≤ 600 := by
  unfold fewB at h
  have h := of_decide_eq_true h
  refine ⟨h.1, fun s hs => ?_⟩
  have h2 := h.2
  unfold fewTo at h2
  rw [List.take_length] at h2
  have := le_sumF (fun s => min s.n 1000) hs
  omega
theorem got_someF {out : List (Int × List Int)} {q : Bool} {L : List Sg} (h : Got (some out) q L) : q = true ∧ L.map sgK = out := by
  rcases h.1 with h | h
  · exact ⟨h.2, (Option.some.inj h.1).symm⟩
  · cases h.1
theorem n_of_K {L ss : List Sg} (hL : ∀ s ∈ L, s.n = s.xs.length) (hs : ∀ s ∈ ss, s.n = s.xs.length ∧ s.n ≤ 600) (h : L.map sgK = ss.map sgK) : ∀ s ∈ L, s.n ≤ 1000 := by
  intro s m
  have h1 : sgK s ∈ ss.map sgK := by rw [← h]; exact List.mem_map_of_mem m
  obtain ⟨r, hr, e⟩ := List.mem_map.1 h1
  unfold sgK at e
  rw [Prod.mk.injEq] at e
  have h2 := hs r hr
  have h3 := hL s m
  rw [← e.2] at h3
  omega
theorem ok2_4 {K : Nat} {L : List Sg} (h : L.all (sgOk (K : Int)) = true) : L.all (sgOk 4) = true := by
  rw [List.all_eq_true] at h ⊢
  intro s hs
  exact sgOk_iff.2 ⟨(sgOk_iff.1 (h s hs)).1, fun e => absurd e (by decide)⟩
theorem form_eq {K : Nat} : ∀ {ss : List Sg}, (∀ s ∈ ss, s.n = s.xs.length) → sgsForm K ss = (ss.map sgK).flatMap (kForm K)
  | [], _ => rfl
  | s :: ss, h => by
    have ih := form_eq (K := K) (ss := ss) (fun z hz => h z (List.mem_cons_of_mem _ hz))
    unfold sgsForm at ih ⊢
    rw [List.flatMap_cons, List.map_cons, List.flatMap_cons, ih]
    congr 1
    unfold sgForm kForm sgK
    rw [h s List.mem_cons_self]
set_option maxRecDepth 100000 in
set_option maxHeartbeats 1600000 in
theorem segforms_few (wd : Int) (A : Option Addr) (n c : Nat) (ss : List Sg) (w : World) (ht : Tens w) (hbk : Brk w) (hx : Segs w w.heap.size A n ss) (hm : n ≤ maxLen) (hf : fewB ss = false) :
    Calls Tryd.prog 3 #[.int .i64 wd, .slice A n c] w fun e w' => e = .returned (.bool true) ∧ Below w.heap.size w w' := by
  have h1 := Lib.hid (few_any A n c ss w hx hm)
  have hA := Lib.hid (alive06_any w ht hbk)
  rw [hf] at h1
  clear hx hf
  go_enter Tryd.func3, Tryd.ntmps3
  go_wp2_with fail
  refine h1.out.mono ?_
  rintro e w' ⟨rfl, rfl⟩
  go_wp2_with fail
  refine hA.out.mono ?_
  rintro e w' ⟨rfl, hb⟩
  go_wp2
  go_ret
  exact ⟨rfl, hb⟩
set_option maxRecDepth 100000 in
theorem stext_both (A : Option Addr) (n c : Nat) (ss : List Sg) (w : World) (ht : Tens w) (hbk : Brk w) (h : Segs w w.heap.size A n ss) (hn : n ≤ 1000) :
    Calls Tryd.prog 12 #[.slice A n c] w fun e w' => e = .returned (.string (if ss.all (sgOk 4) = true then sgsTxt ss else ⟨#[]⟩)) ∧ Below w.heap.size w w' := by
  cases hk : ss.all (sgOk 4) with
  | true => exact stext_yes A n c ss w ht hbk h (by omega) hk
  | false => exact stext_no A n c ss w h (by omega) hk
set_option maxRecDepth 100000 in
set_option maxHeartbeats 3200000 in
theorem segforms_no (wd : Int) (A : Option Addr) (n c : Nat) (ss : List Sg) (w : World) (ht : Tens w) (hbk : Brk w) (hx : Segs w w.heap.size A n ss) (hm : n ≤ maxLen) (hf : fewB ss = true) (hv : (decide (wd = 2 ∨ wd = 4) && ss.all (sgOk wd)) = false) :
    Calls Tryd.prog 3 #[.int .i64 wd, .slice A n c] w fun e w' => e = .returned (.bool true) ∧ Below w.heap.size w w' := by
  obtain ⟨l1, b1⟩ := few_lenF hf
  have hn : n ≤ 50 := by rw [hx.1]; exact l1
  have b1' : ∀ s ∈ ss, s.n ≤ 1000 := fun s hs => by have := b1 s hs; omega
  have X : ∀ W, Below w.heap.size w W → Segs W W.heap.size A n ss := fun W hb => (hx.below hb).more hb.size
  have h1 := Lib.hid (few_any A n c ss w hx hm)
  rw [hf] at h1
  have hB := Lib.hid (fun W (h : Below w.heap.size w W) => sbytes_no wd A n c ss W (X W h) (by omega) hv)
  have hR := Lib.hid (fun W (h : Below w.heap.size w W) => rbytes6_no wd A n c ss W (X W h) (by omega) b1' hv)
  have hT := Lib.hid (fun W (h : Below w.heap.size w W) => stext_both A n c ss W (ht.below h) (hbk.below h) (X W h) (by omega))
  have hRT := Lib.hid (fun W (h : Below w.heap.size w W) => rtext_any A n c ss W (X W h) (by omega) b1')
  have hV := Lib.hid (fun W (h : Below w.heap.size w W) => svalid_any wd A n c ss W (X W h) (by omega))
  have hRV := Lib.hid (fun W (h : Below w.heap.size w W) => rvalidW_any wd A n c ss W (X W h) (by omega) b1')
  rw [hv] at hV hRV
  have hA := Lib.hid (fun W (h : Below w.heap.size w W) => alive06_any W (ht.below h) (hbk.below h))
  have hE := Lib.hid (fun W => bytesEq_any none none 0 0 0 0 [] [] W W.heap.size W.heap.size ⟨rfl, (fun _ h => by cases h), .inl rfl⟩ ⟨rfl, (fun _ h => by cases h), .inl rfl⟩ (by omega) (by omega))
  rw [decide_eq_true rfl] at hE
  generalize (if ss.all (sgOk 4) = true then sgsTxt ss else ⟨#[]⟩) = T at *
  clear hx X hf hv ht hbk b1 b1' l1
  go_enter Tryd.func3, Tryd.ntmps3
  go_wp2_with fail
  refine h1.out.mono ?_
  rintro e w' ⟨rfl, rfl⟩
  go_wp2_with fail
  refine (hB.out _ (bl_refl w)).mono ?_
  rintro e w1 ⟨rfl, hb1⟩
  go_wp2_with fail
  refine (hR.out _ hb1).mono ?_
  rintro e w2 ⟨rfl, hb2⟩
  have hb2 := bl_trans hb1 hb2
  go_wp2_with fail
  refine (hT.out _ hb2).mono ?_
  rintro e w3 ⟨rfl, hb3⟩
  have hb3 := bl_trans hb2 hb3
  go_wp2_with fail
  refine (hV.out _ hb3).mono ?_
  rintro e w4 ⟨rfl, hb4⟩
  have hb4 := bl_trans hb3 hb4
  go_wp2_with fail
  refine (hRV.out _ hb4).mono ?_
  rintro e w5 ⟨rfl, hb5⟩
  have hb5 := bl_trans hb4 hb5
  go_wp2_with fail
  refine (hE.out _).mono ?_
  rintro e w' ⟨rfl, m, rfl⟩
  have hb6 := bl_drewN hb5 m
  go_wp2_with fail
  refine (hRT.out _ hb6).mono ?_
  rintro e w7 ⟨rfl, hb7⟩
  have hb7 := bl_trans hb6 hb7
  go_wp2_with fail
  refine (hA.out _ hb7).mono ?_
  rintro e w8 ⟨rfl, hb8⟩
  have hb8 := bl_trans hb7 hb8
  go_wp2
  go_ret
  exact ⟨rfl, hb8⟩
set_option maxRecDepth 100000 in
set_option maxHeartbeats 6400000 in
theorem segforms_yes (K : Nat) (hK : K = 2 ∨ K = 4) (A : Option Addr) (n c : Nat) (ss : List Sg) (w : World) (ht : Tens w) (hbk : Brk w) (hz : PuOk w) (hx : Segs w w.heap.size A n ss) (hm : n ≤ maxLen) (hf : fewB ss = true) (hv : ss.all (sgOk (K : Int)) = true) :
    Calls Tryd.prog 3 #[.int .i64 (K : Int), .slice A n c] w fun e w' => e = .returned (.bool true) ∧ Below w.heap.size w w' := by
  obtain ⟨l1, b1⟩ := few_lenF hf
  have hn : n ≤ 50 := by rw [hx.1]; exact l1
  have b1' : ∀ s ∈ ss, s.n ≤ 1000 := fun s hs => by have := b1 s hs; omega
  have X : ∀ W, Below w.heap.size w W → Segs W W.heap.size A n ss := fun W hb => (hx.below hb).more hb.size
  have h1 := Lib.hid (few_any A n c ss w hx hm)
  rw [hf] at h1
  have hw : (K : Int) = 2 ∨ (K : Int) = 4 := by omega
  have hv4 := ok2_4 hv
  have HK := Lib.hid (fun s (hs : s ∈ ss) => sgOk_iff.1 (List.all_eq_true.1 hv s hs))
  have hLn := Lib.hid (fun s (hs : s ∈ ss) => (hx.2.1 s hs).2.2.2.2.1)
  have hFR := Lib.hid (formR (K := K) (ss := ss) (fun s hs => ⟨(HK.out s hs).1.1, (HK.out s hs).1.2.2⟩))
  have hB : Hid (∀ W, Below w.heap.size w W → Calls Tryd.prog 10 #[.int .i64 (K : Int), .slice A n c] W fun e w' => ∃ g, e = .returned (.tuple #[.slice (some ⟨g, 0, none⟩) (sgsForm K ss).length (sgsForm K ss).length, .bool true]) ∧ W.heap.size ≤ g ∧ Own w' g 5 ((sgsForm K ss).map (Value.int .u8)).toArray ∧ Below W.heap.size W w') := Lib.hid (fun W h => by
    have := sbytes_yes (K : Int) hw A n c ss W (X W h) (by omega) hv
    rw [Int.toNat_natCast] at this
    exact this)
  have hR : Hid (∀ W, Below w.heap.size w W → Calls Tryd.prog 11 #[.int .i64 (K : Int), .slice A n c] W fun e w' => ∃ A1 c1, e = .returned (.tuple #[.slice A1 (sgsForm K ss).length c1, .bool true]) ∧ Bytes w' w'.heap.size A1 (sgsForm K ss).length (sgsForm K ss) ∧ Below W.heap.size W w') := Lib.hid (fun W h => by
    rcases hK with rfl | rfl
    · exact rbytes6_2 A n c ss W (X W h) (by omega) b1' hv
    · exact rbytes6_4 A n c ss W (X W h) (by omega) b1' hv)
  have hT := Lib.hid (fun W (h : Below w.heap.size w W) => stext_yes A n c ss W (ht.below h) (hbk.below h) (X W h) (by omega) hv4)
  have hRT := Lib.hid (fun W (h : Below w.heap.size w W) => rtext_yes A n c ss W (X W h) (by omega) b1' hv4)
  have hV := Lib.hid (fun W (h : Below w.heap.size w W) => svalid_yes (K : Int) hw A n c ss W (X W h) (by omega))
  have hRV := Lib.hid (fun W (h : Below w.heap.size w W) => rvalidW_any (K : Int) A n c ss W (X W h) (by omega) b1')
  rw [hv] at hV hRV
  rw [decide_eq_true hw, Bool.true_and] at hRV
  have hA := Lib.hid (fun W (h : Below w.heap.size w W) => alive06_any W (ht.below h) (hbk.below h))
  have hFl : (sgsForm K ss).length ≤ 1022 * 50 := by
    have := sgsForm_len (K := K) (by omega) (ss := ss) (fun s hs => by have h1 := (HK.out s hs).1.2.2; have h2 := hLn.out s hs; omega)
    omega
  have hE := Lib.hid (fun (W : World) (B1 B2 : Option Addr) (k1 k2 : Nat) (g1 g2 : Nat) (e1 : Bytes W g1 B1 (sgsForm K ss).length (sgsForm K ss)) (e2 : Bytes W g2 B2 (sgsForm K ss).length (sgsForm K ss)) => bytesEq_any B1 B2 (sgsForm K ss).length (sgsForm K ss).length k1 k2 (sgsForm K ss) (sgsForm K ss) W g1 g2 e1 e2 (by omega) (by omega))
  rw [decide_eq_true rfl] at hE
  have hRd := Lib.hid (show readS K ((sgsForm K ss).length + 1) (sgsForm K ss) = some (ss.map sgK) by
    rw [form_eq hLn.out]
    refine readS_of _ _ (fun p hp => ?_) (by have := kForm_len K (ss.map sgK); omega)
    obtain ⟨s, hs, rfl⟩ := List.mem_map.1 hp
    have h1 := HK.out s hs
    refine ⟨h1.1.1, by show 1 ≤ s.xs.length; rw [← hLn.out s hs]; exact h1.1.2.1, fun x hx2 => ?_⟩
    have h2 := (hx.2.1 s hs).2.2.2.1 x hx2
    exact bigK hK h2.1 h2.2 (fun e => h1.2 (by omega) x hx2))
  have hPa := Lib.hid (pAcc_of hx hv4)
  have hTz : (sgsTxt ss).size ≤ 1000000 := by
    have := sgsTxt_sizeQ (ss := ss) (fun s hs => sgTxt_size (fun x hx2 => by have := (hx.2.1 s hs).2.2.2.1 x hx2; omega) (by have h1 := (HK.out s hs).1.2.2; have h2 := hLn.out s hs; omega)) (by omega) ss.length
    have h2 := joinB_size (k := 5102) (s := 1) (xs := ss.map sgTxt) (sep := [32]) (fun y hy => by
      obtain ⟨s, hs, rfl⟩ := List.mem_map.1 hy
      exact sgTxt_size (fun x hx2 => by have := (hx.2.1 s hs).2.2.2.1 x hx2; omega) (by have h1 := (HK.out s hs).1.2.2; have h2 := hLn.out s hs; omega)) (by simp)
    rw [List.length_map] at h2
    unfold sgsTxt
    omega
  have hSP := Lib.hid (fun W (h : Below w.heap.size w W) => sparse_any (sgsTxt ss) hTz W (hz.below h) (hbk.below h) (ht.below h))
  have hSR := Lib.hid (fun (W : World) (g : Nat) (o : Own W g 5 ((sgsForm K ss).map (Value.int .u8)).toArray) => sread_yes K hK (some ⟨g, 0, none⟩) (sgsForm K ss).length (sgsForm K ss).length (sgsForm K ss) W (Bytes.of_owned o hFR.out o.lt) (by omega) (some (ss.map sgK)) hRd)
  have hSm := Lib.hid (fun (W : World) (A1 : Option Addr) (n1 c1 : Nat) (L : List Sg) (h : Below w.heap.size w W) (hs : Segs W W.heap.size A1 n1 L) (hl : n1 ≤ 1000) (hL : ∀ s ∈ L, s.n ≤ 1000) (e : L.map sgK = ss.map sgK) => (show Calls Tryd.prog 19 #[.slice A1 n1 c1, .slice A n c] W fun e w' => e = .returned (.bool true) ∧ ∃ m, W.drewN m = w' by
    have := rsameS_any A1 A n1 n c1 c L ss W _ _ hs (X W h) hl (by omega) hL b1'
    rw [decide_eq_true e] at this
    exact this))
  have hNK := Lib.hid (fun (L : List Sg) (hL : ∀ s ∈ L, s.n = s.xs.length) (e : L.map sgK = ss.map sgK) => n_of_K hL (fun s hs => ⟨hLn.out s hs, b1 s hs⟩) e)
  have hLe := Lib.hid (show ∀ L : List Sg, L.map sgK = ss.map sgK → L.length ≤ 50 from fun L e => by have := congrArg List.length e; rw [List.length_map, List.length_map] at this; omega)
  have hPK := Lib.hid (show ∀ s ∈ ss, ∀ x ∈ s.xs, 0 ≤ x from fun s hs x hx2 => ((hx.2.1 s hs).2.2.2.1 x hx2).1)
  clear hFR HK hLn hK hRd
  generalize sgsForm K ss = F at *
  generalize sgsTxt ss = T at *
  clear hx X hf hv ht hbk b1 b1' l1 hz hv4 hTz hw
  go_enter Tryd.func3, Tryd.ntmps3
  go_wp2_with fail
  refine h1.out.mono ?_
  rintro e w' ⟨rfl, rfl⟩
  go_wp2_with fail
  refine (hB.out _ (bl_refl w)).mono ?_
  rintro e w1 ⟨g, rfl, hg, o1, hb1⟩
  have HO1 := Lib.hid o1
  clear o1
  go_wp2_with fail
  refine (hR.out _ hb1).mono ?_
  rintro e w2 ⟨A2, c2, rfl, hB2, hb2⟩
  have HO2 := Lib.hid (HO1.out.step hb2)
  have HB2 := Lib.hid hB2
  have hb2 := bl_trans hb1 hb2
  clear hB2
  go_wp2_with fail
  refine (hT.out _ hb2).mono ?_
  rintro e w3 ⟨rfl, hb3⟩
  have HO3 := Lib.hid (HO2.out.step hb3)
  have HB3 := Lib.hid ((HB2.out.below hb3).more hb3.size)
  have hb3 := bl_trans hb2 hb3
  go_wp2_with fail
  refine (hV.out _ hb3).mono ?_
  rintro e w4 ⟨rfl, hb4⟩
  have HO4 := Lib.hid (HO3.out.step hb4)
  have HB4 := Lib.hid ((HB3.out.below hb4).more hb4.size)
  have hb4 := bl_trans hb3 hb4
  go_wp2_with fail
  refine (hRV.out _ hb4).mono ?_
  rintro e w5 ⟨rfl, hb5⟩
  have HO5 := Lib.hid (HO4.out.step hb5)
  have HB5 := Lib.hid ((HB4.out.below hb5).more hb5.size)
  have hb5 := bl_trans hb4 hb5
  have hE5 := Lib.hid (hE.out w5 (some ⟨g, 0, none⟩) A2 F.length c2 _ _ (Bytes.of_owned HO5.out HB5.out.2.1 HO5.out.lt) HB5.out)
  go_wp2_with fail
  refine hE5.out.mono ?_
  rintro e w' ⟨rfl, m, rfl⟩
  have hb6 := bl_drewN hb5 m
  have HO6 := Lib.hid (HO5.out.drewN m)
  go_wp2_with fail
  refine (hRT.out _ hb6).mono ?_
  rintro e w7 ⟨rfl, hb7⟩
  have HO7 := Lib.hid (HO6.out.step hb7)
  have hb7 := bl_trans hb6 hb7
  have hS7 := Lib.hid (hSR.out w7 g HO7.out)
  clear HO1 HO2 HO3 HO4 HO5 HO6 HB2 HB3 HB4 HB5 hE5
  go_wp2_with fail
  refine hS7.out.mono ?_
  rintro e w8 ⟨v8, L8, q8, rfl, hr8, hg8, hb8⟩
  obtain ⟨rfl, hm8⟩ := got_someF hg8.out
  have HM8 := Lib.hid hm8
  have HX8 := Lib.hid (fun s hs => (hr8.2 s hs).2.1)
  obtain ⟨A8, c8, rfl, hs8⟩ := hr8.segs
  have HS8 := Lib.hid hs8
  have hb8 := bl_trans hb7 hb8
  clear hr8 hs8 hg8 hm8
  go_wp2_with fail
  refine (hSP.out _ hb8).mono ?_
  rintro e w9 ⟨A9, c9, L9, q9, rfl, hs9, hb9, hc9⟩
  obtain ⟨rfl, hp9⟩ : q9 = true ∧ pAcc T.data.toList = some (L9.map sgN) := by
    rcases hc9 with h | ⟨_, h, _⟩
    · exact h
    · rw [hPa.out] at h; cases h
  have G9 := Lib.hid (spr_good hs9 hp9)
  have HM9 := Lib.hid (sgK_of_N (fun s hs x hx => ((hs9.2.1 s hs).2.2.2.1 x hx).1) hPK.out (Option.some.inj (hp9.symm.trans hPa.out)))
  have HS9 := Lib.hid hs9
  have HS8' := Lib.hid ((HS8.out.below hb9).more hb9.size)
  have hb9 := bl_trans hb8 hb9
  clear hs9 hc9 hp9
  go_wp2_with fail
  refine (hA.out _ hb9).mono ?_
  rintro e w10 ⟨rfl, hb10⟩
  have HS8'' := Lib.hid ((HS8'.out.below hb10).more hb10.size)
  have HS9' := Lib.hid ((HS9.out.below hb10).more hb10.size)
  have hb10 := bl_trans hb9 hb10
  have hQ8 := Lib.hid (hSm.out w10 A8 L8.length c8 L8 hb10 HS8''.out (by have := hLe.out L8 HM8.out; omega) (hNK.out L8 HX8.out HM8.out) HM8.out)
  go_wp2_with fail
  refine hQ8.out.mono ?_
  rintro e w' ⟨rfl, m8, rfl⟩
  have hb11 := bl_drewN hb10 m8
  have hs10 := bl_drewN (bl_refl w10) m8
  have hQ9 := Lib.hid (hSm.out (w10.drewN m8) A9 L9.length c9 L9 hb11 ((HS9'.out.below hs10).more hs10.size) (by have := hLe.out L9 HM9.out; omega) (fun s hs => by have := G9.out.2.2.2 s hs; omega) HM9.out)
  go_wp2_with fail
  refine hQ9.out.mono ?_
  rintro e w' ⟨rfl, m9, rfl⟩
  have hb12 := bl_drewN hb10 (m8 + m9)
  go_wp2
  go_ret
  exact ⟨rfl, hb12⟩
set_option maxRecDepth 100000 in
theorem segforms_all (wd : Int) (A : Option Addr) (n c : Nat) (ss : List Sg) (w : World) (ht : Tens w) (hbk : Brk w) (hz : PuOk w) (hx : Segs w w.heap.size A n ss) (hm : n ≤ maxLen) :
    Calls Tryd.prog 3 #[.int .i64 wd, .slice A n c] w fun e w' => e = .returned (.bool true) ∧ Below w.heap.size w w' := by
  cases hf : fewB ss with
  | false => exact segforms_few wd A n c ss w ht hbk hx hm hf
  | true =>
    cases hv : (decide (wd = 2 ∨ wd = 4) && ss.all (sgOk wd)) with
    | false => exact segforms_no wd A n c ss w ht hbk hx hm hf hv
    | true =>
      rw [Bool.and_eq_true] at hv
      have hw := of_decide_eq_true hv.1
      rcases hw with rfl | rfl
      · exact segforms_yes 2 (.inl rfl) A n c ss w ht hbk hz hx hm hf hv.2
      · exact segforms_yes 4 (.inr rfl) A n c ss w ht hbk hz hx hm hf hv.2
end Go.Proofs.YtecbbjdcnlocdaaDoor

/- merge.Narrow, peerageref21.Narrow -/
import Derived.Test.YtniheakafkakhabDoorMgD
namespace Go.Proofs.YtniheakafkakhabDoor
open Go.RowKit

theorem nar_id {x : Int} : nar x = x ↔ x ≤ 65535 := by
  unfold nar
  split <;> omega
theorem map_nar_id : ∀ {xs : List Int}, xs.map nar = xs ↔ narB xs = true
  | [] => by simp [narB]
  | x :: xs => by
    have ih := map_nar_id (xs := xs)
    rw [List.map_cons, List.cons.injEq, ih, nar_id]
    unfold narB
    rw [List.all_cons, Bool.and_eq_true, decide_eq_true_eq]
def nar2 (ss : List Sg) : Bool := ss.all fun s => narB s.xs
theorem nar2_iff : ∀ {ss : List Sg}, ss.map narK = ss.map sgK ↔ nar2 ss = true
  | [] => by simp [nar2]
  | s :: ss => by
    have ih := nar2_iff (ss := ss)
    rw [List.map_cons, List.map_cons, List.cons.injEq, ih]
    unfold nar2
    rw [List.all_cons, Bool.and_eq_true, ← map_nar_id]
    unfold narK sgK
    rw [Prod.mk.injEq]
    simp
/-- What Narrow leaves. -/
def NarR (w : World) (ss : List Sg) (e : Ending) (w' : World) : Prop := ∃ v L v2 L2, e = .returned (.tuple #[v, v2]) ∧ SRow w' w.heap.size v L ∧ SRow w' w.heap.size v2 L2 ∧ Hid (L.map sgK = ss.map narK ∧ L.length = ss.length ∧ (∀ s ∈ L, s.n ≤ 1000) ∧ L2.map sgK = (if nar2 ss = true then [] else ss.map sgK) ∧ L2.length ≤ ss.length ∧ ∀ s ∈ L2, s.n ≤ 1000) ∧ Below w.heap.size w w'
set_option maxRecDepth 100000 in
set_option maxHeartbeats 3200000 in
theorem mnarrow_any (A : Option Addr) (N c : Nat) (ss : List Sg) (w : World) (h : Segs w w.heap.size A N ss) (hN : N ≤ 500) (hs : ∀ s ∈ ss, s.n ≤ 1000) :
    Calls Tryd.prog 15 #[.slice A N c] w fun e w' => NarR w ss e w' := by
  have HV := Lib.hid h
  have HS := Lib.hid hs
  have HNl := Lib.hid h.1
  have hA := Lib.hid (snarrow_any A N c ss w h (by omega) hs)
  clear h hs
  go_enter Tryd.func15, Tryd.ntmps15
  go_wp2_with fail
  refine hA.out.mono ?_
  rintro e w1 ⟨v1, L1, rfl, hr1, hL1, hb1⟩
  obtain ⟨A1, c1, rfl, hS1⟩ := hr1.segs
  have hl1 := hL1.out.2.1
  have hLn : L1.length ≤ 500 := by omega
  have hSm := Lib.hid (ssame_any A1 A L1.length N c1 c L1 ss w1 hS1 ((HV.out.below hb1).more hb1.size) (by omega) (by omega) hL1.out.2.2 HS.out)
  rw [hL1.out.1] at hSm
  have HR1 := Lib.hid hr1
  have HL1 := Lib.hid (hl1.trans HNl.out)
  clear hA hS1 hr1 hl1
  by_cases hc : ss.map narK = ss.map sgK
  · rw [decide_eq_true hc] at hSm
    have hQ := Lib.hid (show nar2 ss = true from nar2_iff.1 hc)
    clear hc
    go_wp2_with fail
    refine hSm.out.mono ?_
    rintro e w2 ⟨rfl, hb2⟩
    go_wp2
    go_ret2
    exact ⟨_, L1, _, [], rfl, HR1.out.below hb2, SRow.nil _ _, Lib.hid ⟨hL1.out.1, HL1.out, hL1.out.2.2, by rw [if_pos hQ.out]; rfl, Nat.zero_le _, fun _ h => by cases h⟩, bl_trans hb1 hb2⟩
  · rw [decide_eq_false hc] at hSm
    have hQ := Lib.hid (show ¬ nar2 ss = true from fun h => hc (nar2_iff.2 h))
    clear hc
    go_wp2_with fail
    refine hSm.out.mono ?_
    rintro e w2 ⟨rfl, hb2⟩
    have hb3 := bl_trans hb1 hb2
    go_wp2_with fail
    refine (scopied_any A N c ss w2 ((HV.out.below hb3).more hb3.size) (by omega) HS.out).mono ?_
    rintro e w3 ⟨v3, L3, rfl, hr3, hL3, hb4⟩
    go_wp2
    go_ret2
    exact ⟨_, L1, _, L3, rfl, (HR1.out.below hb2).below hb4, hr3.liftB hb3.size, Lib.hid ⟨hL1.out.1, HL1.out, hL1.out.2.2, by rw [if_neg hQ.out]; exact hL3.out.1, by rw [hL3.out.2.1, HNl.out]; exact Nat.le_refl _, hL3.out.2.2⟩, bl_trans hb3 hb4⟩
theorem narB_step {xs : List Int} {k : Nat} (h : k < xs.length) (h0 : narB (xs.take k) = true) (hx : nth xs k ≤ 65535) : narB (xs.take (k + 1)) = true := by
  unfold narB at *
  rw [take_nth h, List.all_append, h0]
  simp [hx]
theorem narB_no {xs : List Int} {k : Nat} (h : k < xs.length) (hx : ¬ nth xs k ≤ 65535) : narB xs = false := by
  unfold narB
  rw [List.all_eq_false]
  exact ⟨_, nth_mem h, by simpa using hx⟩
set_option maxRecDepth 100000 in
set_option maxHeartbeats 3200000 in
/-- peerageref06.right at two bytes, at a segment that is right at four. -/
theorem right2_any (s : Sg) (w : World) (h : U32s w w.heap.size s.A s.n s.xs) (hv : sgOk 4 s = true) :
    Calls Tryd.prog 30 #[.int .i64 2, .agg #[.int .i64 s.k, .slice s.A s.n s.c]] w fun e w' => e = .returned (.bool (narB s.xs)) ∧ Below w.heap.size w w' := by
  obtain ⟨sk, sA, sn, sc, sx⟩ := s
  dsimp only at *
  have hv' : (sk = 1 ∨ sk = 2) ∧ 1 ≤ sn ∧ sn ≤ 255 := by
    unfold sgOk at hv
    simp only [Bool.and_eq_true, decide_eq_true_eq] at hv
    exact hv.1
  obtain ⟨hk12, hs1, hs2⟩ := hv'
  have hb1 := bl_alloc (bl_refl w) (.cells #[.int .i64 sk, .slice sA sn sc] 31)
  have oB := Own.new w 31 #[.int .i64 sk, .slice sA sn sc]
  have hc1 := oB.cell (i := 1) rfl
  have HU := Lib.hid h
  have HN := Lib.hid h.1
  have h3 : ¬ (sn : Int) < 1 := by omega
  have h4 : ¬ (255 : Int) < (sn : Int) := by omega
  clear h hv
  rcases hk12 with rfl | rfl
  all_goals
    go_enter Tryd.func30, Tryd.ntmps30
    go_wp2
    go_loopw [5] (fun i wr => (∃ q : Nat, q ≤ sn ∧ i = .int .i64 q ∧ Hid (narB (sx.take q) = true)) ∧ wr = w.alloc (.cells #[.int .i64 _, .slice sA sn sc] 31)) (fun i _ => sn - (intOf i).toNat)
    case atStart => exact ⟨⟨0, Nat.zero_le _, rfl, Lib.hid rfl⟩, rfl⟩
    case round =>
      obtain ⟨⟨q, hq, rfl, hall⟩, rfl⟩ := hrel
      by_cases hlt : q < sn
      · obtain ⟨b2, o2, rfl, hb2B, hc2⟩ := (HU.out.below hb1).at_ hlt
        have hq1 := Lib.hid (show q < sx.length by rw [← HN.out]; exact hlt)
        have hYe := Lib.hid (fun h => narB_step hq1.out hall.out h)
        have hNo := Lib.hid (fun h => narB_no hq1.out h)
        generalize nth sx q = x at *
        by_cases hx : x ≤ 65535
        · have hR := Lib.hid (hYe.out hx)
          have hx2 : ¬ 65535 < x := by omega
          clear hYe hNo
          go_wp2
          go_roundw
          case rel => exact ⟨⟨q + 1, by omega, by go_num, hR⟩, trivial⟩
          case measure => simp [intOf]; omega
        · have hR := Lib.hid (hNo.out hx)
          have hx2 : 65535 < x := by omega
          clear hYe hNo hx
          go_wp2
          go_ret
          exact ⟨ret_boolA hR.out.symm, hb1⟩
      · obtain rfl : q = sn := by omega
        have hR := Lib.hid (show narB sx = true by have := hall.out; rwa [List.take_of_length_le (by rw [← HN.out]; exact Nat.le_refl _)] at this)
        go_wp2
        go_ret
        exact ⟨ret_boolA hR.out.symm, hb1⟩
set_option maxRecDepth 100000 in
set_option maxHeartbeats 3200000 in
theorem rvalid2_any (A : Option Addr) (n c : Nat) (ss : List Sg) (w : World) (hx : Segs w w.heap.size A n ss) (hn : n ≤ 1000) (hv : ss.all (sgOk 4) = true) :
    Calls Tryd.prog 19 #[.int .i64 2, .slice A n c] w fun e w' => e = .returned (.bool (nar2 ss)) ∧ Below w.heap.size w w' := by
  have HN := Lib.hid hx.1
  have HX := Lib.hid hx
  have HOk := Lib.hid hv
  clear hx hv
  go_enter Tryd.func19, Tryd.ntmps19
  go_wp2_with fail
  go_loopw [5] (fun i wr => (∃ k : Nat, k ≤ n ∧ i = .int .i64 k ∧ Hid ((ss.take k).all (fun s => narB s.xs) = true)) ∧ Below w.heap.size w wr) (fun i _ => n - (intOf i).toNat)
  case atStart => exact ⟨⟨0, Nat.zero_le _, rfl, Lib.hid (by simp)⟩, bl_refl w⟩
  case round =>
    obtain ⟨⟨k, hk, rfl, hall⟩, hb⟩ := hrel
    by_cases hlt : k < n
    · obtain ⟨b, o, rfl, hbB, hc0, hc1⟩ := (HX.out.below hb).at_ hlt
      have hkl := Lib.hid (show k < ss.length by have := HN.out; omega)
      have hNo := Lib.hid (fun h => sgall_no (P := fun s => narB s.xs) hkl.out h)
      have hYe := Lib.hid (fun h => sgall_step (P := fun s => narB s.xs) hkl.out hall.out h)
      have hC := Lib.hid (right2_any (sgth ss k) _ (((segs_u32 HX.out hkl.out).below hb).more hb.size) (List.all_eq_true.1 HOk.out _ (sgth_mem hkl.out)))
      generalize sgth ss k = s at *
      obtain ⟨sk, sA, sn, sc, sx⟩ := s
      dsimp only at *
      generalize narB sx = D at *
      cases D
      · have hR := Lib.hid (show nar2 ss = false from hNo.out rfl)
        go_wp2_with fail
        refine hC.out.mono ?_
        rintro e w2 ⟨rfl, hb2⟩
        have hb3 := bl_trans hb hb2
        go_wp2
        go_ret
        exact ⟨ret_boolA hR.out.symm, hb3⟩
      · have hR := Lib.hid (hYe.out rfl)
        go_wp2_with fail
        refine hC.out.mono ?_
        rintro e w2 ⟨rfl, hb2⟩
        have hb3 := bl_trans hb hb2
        go_wp2
        go_roundw
        case rel => exact ⟨⟨k + 1, by omega, by go_num, hR⟩, hb3⟩
        case measure => simp [intOf]; omega
    · have HE := Lib.hid (show nar2 ss = true by have := hall.out; rwa [List.take_of_length_le (by rw [← HN.out]; omega)] at this)
      go_wp2
      go_ret
      exact ⟨ret_boolA HE.out.symm, hb⟩
set_option maxRecDepth 100000 in
theorem great_any (A : Option Addr) (n c : Nat) (ss : List Sg) (w : World) (hx : Segs w w.heap.size A n ss) (hn : n ≤ 1000) (hv : ss.all (sgOk 4) = true) :
    Calls Tryd.prog 25 #[.slice A n c] w fun e w' => e = .returned (.bool (!nar2 ss)) ∧ Below w.heap.size w w' := by
  have hC := Lib.hid (rvalid2_any A n c ss w hx hn hv)
  generalize nar2 ss = D at *
  clear hx hv
  go_enter Tryd.func25, Tryd.ntmps25
  go_wp2_with fail
  refine hC.out.mono ?_
  rintro e w2 ⟨rfl, hb2⟩
  go_wp2
  go_ret
  exact ⟨rfl, hb2⟩
/-- What the reference's Narrow leaves. -/
def RNarR (w : World) (A : Option Addr) (N c : Nat) (ss : List Sg) (e : Ending) (w' : World) : Prop := ∃ A1 c1 L v2, e = .returned (.tuple #[.slice A1 (List.length L) c1, v2]) ∧ Segs w' w'.heap.size A1 L.length L ∧ (v2 = if nar2 ss = true then .slice none 0 0 else .slice A N c) ∧ Hid (L.map sgK = ss.map narK ∧ L.length = ss.length ∧ ∀ s ∈ L, s.n ≤ 1000) ∧ Below w.heap.size w w'
set_option maxRecDepth 100000 in
set_option maxHeartbeats 1600000 in
theorem rmnarrow_any (A : Option Addr) (N c : Nat) (ss : List Sg) (w : World) (h : Segs w w.heap.size A N ss) (hN : N ≤ 500) (hs : ∀ s ∈ ss, s.n ≤ 1000) (hv : ss.all (sgOk 4) = true) :
    Calls Tryd.prog 16 #[.slice A N c] w fun e w' => RNarR w A N c ss e w' := by
  have HV := Lib.hid h
  have HS := Lib.hid hs
  have HNl := Lib.hid h.1
  have hG := Lib.hid (great_any A N c ss w h (by omega) hv)
  have hE : Hid (∃ D, nar2 ss = D) := Lib.hid ⟨_, rfl⟩
  obtain ⟨D, hD⟩ := hE.out
  rw [hD] at hG
  have HD := Lib.hid hD
  clear h hs hv hE hD
  cases D
  · go_enter Tryd.func16, Tryd.ntmps16
    go_wp2_with fail
    refine hG.out.mono ?_
    rintro e w1 ⟨rfl, hb1⟩
    go_wp2_with fail
    refine (rnarrow_any A N c ss w1 ((HV.out.below hb1).more hb1.size) (by omega) HS.out).mono ?_
    rintro e w2 ⟨v2, L2, rfl, hr2, hL2, hb2⟩
    obtain ⟨A2, c2, rfl, hS2⟩ := hr2.segs
    have HS2 := Lib.hid hS2
    clear hr2 hS2
    go_wp2
    go_ret2
    exact ⟨_, _, L2, _, rfl, HS2.out, by rw [HD.out]; rfl, Lib.hid ⟨hL2.out.1, hL2.out.2.1.trans HNl.out, hL2.out.2.2⟩, bl_trans hb1 hb2⟩
  · go_enter Tryd.func16, Tryd.ntmps16
    go_wp2_with fail
    refine hG.out.mono ?_
    rintro e w1 ⟨rfl, hb1⟩
    go_wp2_with fail
    refine (rnarrow_any A N c ss w1 ((HV.out.below hb1).more hb1.size) (by omega) HS.out).mono ?_
    rintro e w2 ⟨v2, L2, rfl, hr2, hL2, hb2⟩
    obtain ⟨A2, c2, rfl, hS2⟩ := hr2.segs
    have HS2 := Lib.hid hS2
    clear hr2 hS2
    go_wp2
    go_ret2
    exact ⟨_, _, L2, _, rfl, HS2.out, by rw [HD.out]; rfl, Lib.hid ⟨hL2.out.1, hL2.out.2.1.trans HNl.out, hL2.out.2.2⟩, bl_trans hb1 hb2⟩
end Go.Proofs.YtniheakafkakhabDoor

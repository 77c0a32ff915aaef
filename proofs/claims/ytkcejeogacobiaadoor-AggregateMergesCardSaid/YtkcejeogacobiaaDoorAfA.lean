/- aggregate.Text and its reference at every attribute -/
import Derived.Test.YtkcejeogacobiaaDoorAwA
import Derived.Test.YtkcejeogacobiaaDoorAdrS
namespace Go.Proofs.YtkcejeogacobiaaDoor
open Go.RowKit Go.Sort

def agNm (k : Int) : ByteArray := if k = 18 then ⟨#[97, 103, 103, 114, 101, 103, 97, 116, 111, 114, 52, 32]⟩ else ⟨#[97, 103, 103, 114, 101, 103, 97, 116, 111, 114, 32]⟩
/-- The text of a valid aggregator. -/
def agTxt (k N M : Int) : ByteArray := agNm k ++ decB N ++ ⟨#[32]⟩ ++ adrB M
set_option maxRecDepth 100000 in
theorem agtext_no (a : At) (w : World) (hN : 0 ≤ a.N) (hN2 : a.N < 4294967296) (hv : agVal 4 a = false) :
    Calls Tryd.prog 42 #[.agg (atc a)] w fun e w' => e = .returned (.string ⟨#[]⟩) ∧ Below w.heap.size w w' := by
  have hV := Lib.hid (fun W => agvalid_any 4 a W hN hN2)
  rw [hv] at hV
  clear hv
  obtain ⟨k, p, N, M, A1, n1, c1, A2, n2, c2, A3, n3, c3, f, A4, n4, c4⟩ := a
  unfold atc at *
  dsimp only at *
  have hb0 := bl_alloc (bl_refl w) (.cells #[.int .i64 k, .bool p, .int .u32 N, .int .u32 M, .slice A1 n1 c1, .slice A2 n2 c2, .slice A3 n3 c3, .int .i64 f, .slice A4 n4 c4] 29)
  go_enter Tryd.func42, Tryd.ntmps42
  go_wp2_with fail
  refine (hV.out _).mono ?_
  rintro e w1 ⟨rfl, hb1⟩
  go_wp2
  go_ret
  exact ⟨rfl, bl_trans hb0 hb1⟩
set_option maxRecDepth 100000 in
set_option maxHeartbeats 1600000 in
theorem agtext_yes (a : At) (w : World) (ht : Tens w) (hN : 0 ≤ a.N) (hN2 : a.N < 4294967296) (hM : 0 ≤ a.M) (hM2 : a.M < 4294967296) (hv : agVal 4 a = true) :
    Calls Tryd.prog 42 #[.agg (atc a)] w fun e w' => e = .returned (.string (agTxt a.k a.N a.M)) ∧ Below w.heap.size w w' := by
  have hV := Lib.hid (fun W => agvalid_any 4 a W hN hN2)
  rw [hv] at hV
  have hFm := Lib.hid (fun W (h : Below w.heap.size w W) => fmtu_any a.N.toNat (by omega) W (ht.below h))
  rw [Int.toNat_of_nonneg hN] at hFm
  have hAd := Lib.hid (fun W (h : Below w.heap.size w W) => badr_any a.M hM hM2 W (ht.below h))
  have z1 : (decB a.N).size ≤ 19 := decB_size (by omega)
  have z2 := adrB_size a.M
  clear hv hM hM2 ht
  obtain ⟨k, p, N, M, A1, n1, c1, A2, n2, c2, A3, n3, c3, f, A4, n4, c4⟩ := a
  unfold atc at *
  dsimp only at *
  have w64 : IntKind.u64.wrap N = N := by rw [IntKind.wrap_u64]; omega
  have hb0 := bl_alloc (bl_refl w) (.cells #[.int .i64 k, .bool p, .int .u32 N, .int .u32 M, .slice A1 n1 c1, .slice A2 n2 c2, .slice A3 n3 c3, .int .i64 f, .slice A4 n4 c4] 29)
  have o0 := Own.new w 29 #[.int .i64 k, .bool p, .int .u32 N, .int .u32 M, .slice A1 n1 c1, .slice A2 n2 c2, .slice A3 n3 c3, .int .i64 f, .slice A4 n4 c4]
  by_cases hk : k = 18
  all_goals
    have hT := Lib.hid (show agTxt k N M = agNm k ++ decB N ++ ⟨#[32]⟩ ++ adrB M from rfl)
    have hNm := Lib.hid (show agNm k = if k = 18 then ⟨#[97, 103, 103, 114, 101, 103, 97, 116, 111, 114, 52, 32]⟩ else ⟨#[97, 103, 103, 114, 101, 103, 97, 116, 111, 114, 32]⟩ from rfl)
  · subst hk
    have hNn := Lib.hid (show agNm 18 = ⟨#[97, 103, 103, 114, 101, 103, 97, 116, 111, 114, 52, 32]⟩ from rfl)
    
    have n1 : ¬ 9223372036854775807 < 12 + (decB N).size := by omega
    have n2 : ¬ 9223372036854775807 < 12 + (decB N).size + 1 := by omega
    have n3 : ¬ 9223372036854775807 < 12 + (decB N).size + 1 + (adrB M).size := by omega
    go_enter Tryd.func42, Tryd.ntmps42
    go_wp2_with fail
    refine (hV.out _).mono ?_
    rintro e w1 ⟨rfl, hb1⟩
    have o1 := o0.step hb1
    have hb2 := bl_trans hb0 hb1
    obtain ⟨e0, e1, e2, e3, e4, e5, e6, e7, e8⟩ := at_cells o1
    clear hb0 hb1 o0
    go_wp2_with fail
    have a1 := Lib.hid (rg_of (w := w1) (fun W hW => hFm.out W (bl_trans hb2 hW)))
    have a2 := Lib.hid (rg_of (w := w1) (fun W hW => hAd.out W (bl_trans hb2 hW)))
    have q1 := cell_regrown e2
    have q2 := cell_regrown e3
    refine wp_region_quiet_below (by kernel_rfl) (by kernel_rfl) ?_
    repeat (go_big_quiet_step (first | exact a1.out _ _ | exact a2.out _ _))
    refine wpQuiet_nil ?_
    rintro _ ⟨⟨dq, osq⟩, rfl⟩
    have hg := below_regrown w1 dq osq
    have hb3 := bl_trans hb2 hg
    generalize grow (redrawn w1 dq) osq = w3 at *
    go_wp2
    go_ret
    exact ⟨by rw [hT.out, hNn.out]; rfl, hb3⟩
  · have hq : (k == 18) = false := by simpa using hk
    have hNn := Lib.hid (show agNm k = ⟨#[97, 103, 103, 114, 101, 103, 97, 116, 111, 114, 32]⟩ from by rw [hNm.out, if_neg hk])
    clear hk
    have n1 : ¬ 9223372036854775807 < 11 + (decB N).size := by omega
    have n2 : ¬ 9223372036854775807 < 11 + (decB N).size + 1 := by omega
    have n3 : ¬ 9223372036854775807 < 11 + (decB N).size + 1 + (adrB M).size := by omega
    go_enter Tryd.func42, Tryd.ntmps42
    go_wp2_with fail
    refine (hV.out _).mono ?_
    rintro e w1 ⟨rfl, hb1⟩
    have o1 := o0.step hb1
    have hb2 := bl_trans hb0 hb1
    obtain ⟨e0, e1, e2, e3, e4, e5, e6, e7, e8⟩ := at_cells o1
    clear hb0 hb1 o0
    go_wp2_with fail
    have a1 := Lib.hid (rg_of (w := w1) (fun W hW => hFm.out W (bl_trans hb2 hW)))
    have a2 := Lib.hid (rg_of (w := w1) (fun W hW => hAd.out W (bl_trans hb2 hW)))
    have q1 := cell_regrown e2
    have q2 := cell_regrown e3
    refine wp_region_quiet_below (by kernel_rfl) (by kernel_rfl) ?_
    repeat (go_big_quiet_step (first | exact a1.out _ _ | exact a2.out _ _))
    refine wpQuiet_nil ?_
    rintro _ ⟨⟨dq, osq⟩, rfl⟩
    have hg := below_regrown w1 dq osq
    have hb3 := bl_trans hb2 hg
    generalize grow (redrawn w1 dq) osq = w3 at *
    go_wp2
    go_ret
    exact ⟨by rw [hT.out, hNn.out]; rfl, hb3⟩
set_option maxRecDepth 100000 in
theorem ragtext_no (a : At) (w : World) (hN2 : a.N < 4294967296) (hv : agVal 4 a = false) :
    Calls Tryd.prog 43 #[.agg (atc a)] w fun e w' => e = .returned (.string ⟨#[]⟩) ∧ Below w.heap.size w w' := by
  have hV := Lib.hid (fun W => ragvalid_any 4 a W hN2)
  rw [hv] at hV
  clear hv
  obtain ⟨k, p, N, M, A1, n1, c1, A2, n2, c2, A3, n3, c3, f, A4, n4, c4⟩ := a
  unfold atc at *
  dsimp only at *
  have hb0 := bl_alloc (bl_refl w) (.cells #[.int .i64 k, .bool p, .int .u32 N, .int .u32 M, .slice A1 n1 c1, .slice A2 n2 c2, .slice A3 n3 c3, .int .i64 f, .slice A4 n4 c4] 29)
  go_enter Tryd.func43, Tryd.ntmps43
  go_wp2_with fail
  refine (hV.out _).mono ?_
  rintro e w1 ⟨rfl, hb1⟩
  go_wp2
  go_ret
  exact ⟨rfl, bl_trans hb0 hb1⟩
set_option maxRecDepth 100000 in
set_option maxHeartbeats 1600000 in
theorem ragtext_yes (a : At) (w : World) (hN : 0 ≤ a.N) (hN2 : a.N < 4294967296) (hM : 0 ≤ a.M) (hM2 : a.M < 4294967296) (hv : agVal 4 a = true) :
    Calls Tryd.prog 43 #[.agg (atc a)] w fun e w' => e = .returned (.string (agTxt a.k a.N a.M)) ∧ Below w.heap.size w w' := by
  have hV := Lib.hid (fun W => ragvalid_any 4 a W hN2)
  rw [hv] at hV
  have hFm := Lib.hid (fun W (_ : Below w.heap.size w W) => rdecimal_any a.N hN (by omega) W)
  have hAd := Lib.hid (fun W (_ : Below w.heap.size w W) => rbadr_any a.M hM hM2 W)
  have z1 : (decB a.N).size ≤ 19 := decB_size (by omega)
  have z2 := adrB_size a.M
  clear hv hM hM2
  obtain ⟨k, p, N, M, A1, n1, c1, A2, n2, c2, A3, n3, c3, f, A4, n4, c4⟩ := a
  unfold atc at *
  dsimp only at *
  have w64 : IntKind.i64.wrap N = N := IntWalk.i64_in _ (by omega)
  have hb0 := bl_alloc (bl_refl w) (.cells #[.int .i64 k, .bool p, .int .u32 N, .int .u32 M, .slice A1 n1 c1, .slice A2 n2 c2, .slice A3 n3 c3, .int .i64 f, .slice A4 n4 c4] 29)
  have o0 := Own.new w 29 #[.int .i64 k, .bool p, .int .u32 N, .int .u32 M, .slice A1 n1 c1, .slice A2 n2 c2, .slice A3 n3 c3, .int .i64 f, .slice A4 n4 c4]
  by_cases hk : k = 18
  all_goals
    have hT := Lib.hid (show agTxt k N M = agNm k ++ decB N ++ ⟨#[32]⟩ ++ adrB M from rfl)
    have hNm := Lib.hid (show agNm k = if k = 18 then ⟨#[97, 103, 103, 114, 101, 103, 97, 116, 111, 114, 52, 32]⟩ else ⟨#[97, 103, 103, 114, 101, 103, 97, 116, 111, 114, 32]⟩ from rfl)
  · subst hk
    have hNn := Lib.hid (show agNm 18 = ⟨#[97, 103, 103, 114, 101, 103, 97, 116, 111, 114, 52, 32]⟩ from rfl)
    
    have n1 : ¬ 9223372036854775807 < 12 + (decB N).size := by omega
    have n2 : ¬ 9223372036854775807 < 12 + (decB N).size + 1 := by omega
    have n3 : ¬ 9223372036854775807 < 12 + (decB N).size + 1 + (adrB M).size := by omega
    go_enter Tryd.func43, Tryd.ntmps43
    go_wp2_with fail
    refine (hV.out _).mono ?_
    rintro e w1 ⟨rfl, hb1⟩
    have o1 := o0.step hb1
    have hb2 := bl_trans hb0 hb1
    obtain ⟨e0, e1, e2, e3, e4, e5, e6, e7, e8⟩ := at_cells o1
    clear hb0 hb1 o0
    go_wp2_with fail
    have a1 := Lib.hid (rg_of (w := w1) (fun W hW => hFm.out W (bl_trans hb2 hW)))
    have a2 := Lib.hid (rg_of (w := w1) (fun W hW => hAd.out W (bl_trans hb2 hW)))
    have q1 := cell_regrown e2
    have q2 := cell_regrown e3
    refine wp_region_quiet_below (by kernel_rfl) (by kernel_rfl) ?_
    repeat (go_big_quiet_step (first | exact a1.out _ _ | exact a2.out _ _))
    refine wpQuiet_nil ?_
    rintro _ ⟨⟨dq, osq⟩, rfl⟩
    have hg := below_regrown w1 dq osq
    have hb3 := bl_trans hb2 hg
    generalize grow (redrawn w1 dq) osq = w3 at *
    go_wp2
    go_ret
    exact ⟨by rw [hT.out, hNn.out]; rfl, hb3⟩
  · have hq : (k == 18) = false := by simpa using hk
    have hNn := Lib.hid (show agNm k = ⟨#[97, 103, 103, 114, 101, 103, 97, 116, 111, 114, 32]⟩ from by rw [hNm.out, if_neg hk])
    clear hk
    have n1 : ¬ 9223372036854775807 < 11 + (decB N).size := by omega
    have n2 : ¬ 9223372036854775807 < 11 + (decB N).size + 1 := by omega
    have n3 : ¬ 9223372036854775807 < 11 + (decB N).size + 1 + (adrB M).size := by omega
    go_enter Tryd.func43, Tryd.ntmps43
    go_wp2_with fail
    refine (hV.out _).mono ?_
    rintro e w1 ⟨rfl, hb1⟩
    have o1 := o0.step hb1
    have hb2 := bl_trans hb0 hb1
    obtain ⟨e0, e1, e2, e3, e4, e5, e6, e7, e8⟩ := at_cells o1
    clear hb0 hb1 o0
    go_wp2_with fail
    have a1 := Lib.hid (rg_of (w := w1) (fun W hW => hFm.out W (bl_trans hb2 hW)))
    have a2 := Lib.hid (rg_of (w := w1) (fun W hW => hAd.out W (bl_trans hb2 hW)))
    have q1 := cell_regrown e2
    have q2 := cell_regrown e3
    refine wp_region_quiet_below (by kernel_rfl) (by kernel_rfl) ?_
    repeat (go_big_quiet_step (first | exact a1.out _ _ | exact a2.out _ _))
    refine wpQuiet_nil ?_
    rintro _ ⟨⟨dq, osq⟩, rfl⟩
    have hg := below_regrown w1 dq osq
    have hb3 := bl_trans hb2 hg
    generalize grow (redrawn w1 dq) osq = w3 at *
    go_wp2
    go_ret
    exact ⟨by rw [hT.out, hNn.out]; rfl, hb3⟩
end Go.Proofs.YtkcejeogacobiaaDoor

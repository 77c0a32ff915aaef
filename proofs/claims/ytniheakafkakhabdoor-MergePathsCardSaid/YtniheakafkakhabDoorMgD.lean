/- merge.Paths, peerageref21.Paths -/
import Derived.Test.YtniheakafkakhabDoorMgC
namespace Go.Proofs.YtniheakafkakhabDoor
open Go.RowKit

theorem lenS_bound {ss : List Sg} {n : Nat} (hn : n ≤ 500) (hs : ∀ s ∈ ss, s.n ≤ 1000) : lenS ss n ≤ 500000 := by
  have := lenS_le (ss := ss) n hs
  omega
theorem SRow.app {w w' : World} {base : Nat} {v v' : Value} {L M : List Sg} (h : SRow w base v L) (h2 : ∀ s ∈ M, SD w base s) (hown : w'.ownsRow base 31 2 v' (L.length + M.length) (cellsS L ++ cellsS M)) (hg : w.grownBy w' v.ownBlock) : SRow w' base v' (L ++ M) := by
  have key : ∀ s, SD w base s → SD w' base s := fun s hs => ⟨row_rest hs.1 (Rest.of_grown hg (P := fun j => v.ownBlock = some j) (fun j hj => hj)) (fun j hj e => ((row_typed h.1 e).1.ne (row_typed hs.1 hj).1 seg_types) rfl), hs.2⟩
  refine ⟨by rw [cellsS_app, List.length_append]; exact hown, fun s hs => ?_⟩
  rcases List.mem_append.1 hs with hs | hs
  · exact key s (h.2 s hs)
  · exact key s (h2 s hs)
theorem SRow.liftB {w : World} {base b : Nat} {v : Value} {L : List Sg} (h : SRow w base v L) (hb : b ≤ base) : SRow w b v L := ⟨own_leG h.1 hb, fun s hs => (h.2 s hs).lift hb⟩
set_option maxRecDepth 100000 in
set_option maxHeartbeats 3200000 in
theorem mpaths_any (A : Option Addr) (N c : Nat) (A2 : Option Addr) (N2 c2 : Nat) (ss ts : List Sg) (w : World) (h : Segs w w.heap.size A N ss) (h2 : Segs w w.heap.size A2 N2 ts) (hN : N ≤ 500) (hN2 : N2 ≤ 500) (hs : ∀ s ∈ ss, s.n ≤ 1000) (hs2 : ∀ s ∈ ts, s.n ≤ 1000) (hv : ss.all (sgOk 4) = true) :
    Calls Tryd.prog 13 #[.slice A N c, .slice A2 N2 c2] w fun e w' => HeadR w (pathsK (ss.map sgK) (ts.map sgK)) 1001 e w' := by
  have HV := Lib.hid h
  have HV2 := Lib.hid h2
  have HS := Lib.hid hs
  have HS2 := Lib.hid hs2
  have HOk := Lib.hid hv
  have l1 := lenS_all h.1 (sgn_of h)
  have l2 := lenS_all h2.1 (sgn_of h2)
  have b1 := lenS_bound hN hs
  have b2 := lenS_bound hN2 hs2
  have hPK : Hid (pathsK (ss.map sgK) (ts.map sgK) = if (lenS ss N : Int) - lenS ts N2 < 0 then ss.map sgK else headK ((lenS ss N : Int) - lenS ts N2) (ss.map sgK) ++ ts.map sgK) := Lib.hid (by rw [l1, l2]; rfl)
  have hA := Lib.hid (slength_any A N c ss w h (by omega) hs)
  have hL2 := Lib.hid (fun W (hb : Below w.heap.size w W) => slength_any A2 N2 c2 ts W ((HV2.out.below hb).more hb.size) (by omega) HS2.out)
  generalize lenS ss N = x at *
  generalize lenS ts N2 = y at *
  have hw1 : IntKind.i64.wrap ((x : Int) - (y : Int)) = (x : Int) - (y : Int) := IntWalk.i64_in _ (by omega)
  clear h h2 hs hs2 hv l1 l2
  go_enter Tryd.func13, Tryd.ntmps13
  go_wp2_with fail
  refine hA.out.mono ?_
  rintro e w1 ⟨rfl, hb1⟩
  go_wp2_with fail
  refine (hL2.out _ hb1).mono ?_
  rintro e w2 ⟨rfl, hb2⟩
  have hb3 := bl_trans hb1 hb2
  have hSg := Lib.hid ((HV.out.below hb3).more hb3.size)
  clear hA hL2
  by_cases hlt : (x : Int) - (y : Int) < 0
  · have hR := Lib.hid (show pathsK (ss.map sgK) (ts.map sgK) = ss.map sgK by rw [hPK.out, if_pos hlt])
    go_wp2_with fail
    refine (scopied_any A N c ss w2 hSg.out (by omega) HS.out).mono ?_
    rintro e w3 ⟨v3, L3, rfl, hr3, hL3, hb4⟩
    go_wp2
    go_ret
    exact ⟨_, L3, rfl, hr3.liftB hb3.size, Lib.hid ⟨hL3.out.1.trans hR.out.symm, by rw [hL3.out.2.1]; omega, hL3.out.2.2⟩, bl_trans hb3 hb4⟩
  · have hR := Lib.hid (show pathsK (ss.map sgK) (ts.map sgK) = headK ((x : Int) - (y : Int)) (ss.map sgK) ++ ts.map sgK by rw [hPK.out, if_neg hlt])
    have hH := Lib.hid (mhead_any ((x : Int) - (y : Int)) (by omega) A N c ss w2 hSg.out hN HS.out HOk.out)
    go_wp2_with fail
    refine hH.out.mono ?_
    rintro e w3 ⟨v3, L3, rfl, hr3, hL3, hb4⟩
    have hb5 := bl_trans hb3 hb4
    obtain ⟨A3, c3, rfl⟩ := own_form hr3.1
    go_wp2_with fail
    refine (scopied_any A2 N2 c2 ts w3 ((HV2.out.below hb5).more hb5.size) (by omega) HS2.out).mono ?_
    rintro e w4 ⟨v4, L4, rfl, hr4, hL4, hb6⟩
    have hb7 := bl_trans hb5 hb6
    obtain ⟨A4, c4, rfl⟩ := own_form hr4.1
    have hr3' := (hr3.below hb6).liftB hb3.size
    have hr4' := hr4.liftB hb5.size
    have hsh := Shows.of_own hr4.1
    have hl3 := hL3.out.2.1
    have hl4 := hL4.out.2.1
    have HR3 := Lib.hid hr3'
    have HR4 := Lib.hid hr4'
    have HL4n := Lib.hid hl4
    have hl4' : L4.length ≤ 500 := by omega
    clear hr3 hr4 hr3' hr4' hl4
    go_wp2_with (at_builtin; refine wpList_append_grow _ rfl _ _ rfl sl_segsM w.heap.size _ L3.length (cellsS L3) rfl HR3.out.1 w4.heap.size A4 L4.length c4 (cellsS L4) rfl (cellsS_len L4) hsh (cellsS_one L4) (by unfold maxLen; omega) (by omega) hb7.size ?_; intro v5 w5 ho5 hg5)
    have hfin := HR3.out.app HR4.out.2 ho5 hg5
    have hb8 := hb7.grown hg5 hb7.size (fun k hk => (row_typed HR3.out.1 hk).2)
    go_ret
    exact ⟨_, L3 ++ L4, rfl, hfin, Lib.hid ⟨by rw [hR.out, List.map_append, hL3.out.1, hL4.out.1], by rw [List.length_append]; omega, fun s hs => by
      rcases List.mem_append.1 hs with hs | hs
      · exact hL3.out.2.2 s hs
      · exact hL4.out.2.2 s hs⟩, hb8⟩
/-- A path in memory. -/
def PathR (w : World) (K : List (Int × List Int)) (m : Nat) (e : Ending) (w' : World) : Prop := ∃ A n c L, e = .returned (.slice A n c) ∧ Segs w' w'.heap.size A n L ∧ Hid (L.map sgK = K ∧ n ≤ m ∧ ∀ s ∈ L, s.n ≤ 1000) ∧ Below w.heap.size w w'
set_option maxRecDepth 100000 in
set_option maxHeartbeats 3200000 in
theorem rmpaths_any (A : Option Addr) (N c : Nat) (hNc : N ≤ c) (hcm : c ≤ maxLen) (A2 : Option Addr) (N2 c2 : Nat) (ss ts : List Sg) (w : World) (h : Segs w w.heap.size A N ss) (h2 : Segs w w.heap.size A2 N2 ts) (hN : N ≤ 500) (hN2 : N2 ≤ 500) (hs : ∀ s ∈ ss, s.n ≤ 1000) (hs2 : ∀ s ∈ ts, s.n ≤ 1000) :
    Calls Tryd.prog 14 #[.slice A N c, .slice A2 N2 c2] w fun e w' => PathR w (pathsK (ss.map sgK) (ts.map sgK)) 1001 e w' := by
  have HV := Lib.hid h
  have HV2 := Lib.hid h2
  have HS := Lib.hid hs
  have HS2 := Lib.hid hs2
  have HC := Lib.hid hcm
  have l1 := lenS_all h.1 (sgn_of h)
  have l2 := lenS_all h2.1 (sgn_of h2)
  have b1 := lenS_bound hN hs
  have b2 := lenS_bound hN2 hs2
  have hPK : Hid (pathsK (ss.map sgK) (ts.map sgK) = if (lenS ss N : Int) - lenS ts N2 < 0 then ss.map sgK else headK ((lenS ss N : Int) - lenS ts N2) (ss.map sgK) ++ ts.map sgK) := Lib.hid (by rw [l1, l2]; rfl)
  have hA := Lib.hid (rlength_any A N c ss w h (by omega) hs)
  have hL2 := Lib.hid (fun W (hb : Below w.heap.size w W) => rlength_any A2 N2 c2 ts W ((HV2.out.below hb).more hb.size) (by omega) HS2.out)
  generalize lenS ss N = x at *
  generalize lenS ts N2 = y at *
  have hw1 : IntKind.i64.wrap ((x : Int) - (y : Int)) = (x : Int) - (y : Int) := IntWalk.i64_in _ (by omega)
  clear h h2 hs hs2 l1 l2 hcm
  go_enter Tryd.func14, Tryd.ntmps14
  go_wp2_with fail
  refine hA.out.mono ?_
  rintro e w1 ⟨rfl, hb1⟩
  go_wp2_with fail
  refine (hL2.out _ hb1).mono ?_
  rintro e w2 ⟨rfl, hb2⟩
  have hb3 := bl_trans hb1 hb2
  have hSg := Lib.hid ((HV.out.below hb3).more hb3.size)
  clear hA hL2
  by_cases hlt : (x : Int) - (y : Int) < 0
  · have hR := Lib.hid (show pathsK (ss.map sgK) (ts.map sgK) = ss.map sgK by rw [hPK.out, if_pos hlt])
    go_wp2
    go_ret
    exact ⟨_, _, _, ss, rfl, hSg.out, Lib.hid ⟨hR.out.symm, by omega, HS.out⟩, hb3⟩
  · have hR := Lib.hid (show pathsK (ss.map sgK) (ts.map sgK) = headK ((x : Int) - (y : Int)) (ss.map sgK) ++ ts.map sgK by rw [hPK.out, if_neg hlt])
    have hH := Lib.hid (rmhead_any ((x : Int) - (y : Int)) (by omega) A N c hNc HC.out ss w2 hSg.out hN HS.out)
    go_wp2_with fail
    refine hH.out.mono ?_
    rintro e w3 ⟨v3, L3, rfl, hr3, hL3, hb4⟩
    have hb5 := bl_trans hb3 hb4
    obtain ⟨A3, c3, rfl⟩ := own_form hr3.1
    have hl3 := hL3.out.2.1
    have HR3 := Lib.hid (hr3.liftB hb3.size)
    have HV3 := Lib.hid (HV2.out.below hb5)
    have hsh := segs_shows HV3.out
    have hN2l := Lib.hid HV2.out.1
    have hcl := cellsS_len ts
    rw [← hN2l.out] at hcl
    clear hr3
    go_wp2_with (at_builtin; refine wpList_append_grow _ rfl _ _ rfl sl_segsM w.heap.size _ L3.length (cellsS L3) rfl HR3.out.1 w.heap.size A2 N2 c2 (cellsS ts) rfl hcl hsh (cellsS_one ts) (by unfold maxLen; omega) (by omega) hb5.size ?_; intro v5 w5 ho5 hg5)
    have hb8 := hb5.grown hg5 hb5.size (fun k hk => (row_typed HR3.out.1 hk).2)
    have hSD := Lib.hid (show ∀ s ∈ L3, SD w5 w.heap.size s from fun s hs => ⟨row_rest (HR3.out.2 s hs).1 (Rest.of_grown hg5 (P := fun j => (Value.slice A3 L3.length c3).ownBlock = some j) (fun j hj => hj)) (fun j hj e => ((row_typed HR3.out.1 e).1.ne (row_typed (HR3.out.2 s hs).1 hj).1 seg_types) rfl), (HR3.out.2 s hs).2⟩)
    have HB8 := Lib.hid hb8
    have HV5 := Lib.hid (HV2.out.below hb8)
    rw [← cellsS_app] at ho5
    obtain ⟨A5, c5, rfl⟩ := own_form ho5
    have hfin := Lib.hid (segs_row ho5 (by rw [List.length_append, hN2l.out]) (fun s hs => by
      rcases List.mem_append.1 hs with hs | hs
      · have hd := hSD.out s hs
        exact ⟨(row_caps hd.1).1, (row_caps hd.1).2, hd.2.2.2, hd.2.2.1, hd.u32s⟩
      · exact SgE.more (HV5.out.2.1 s hs) HB8.out.size))
    clear ho5 hg5 hb8
    go_ret
    exact ⟨_, _, _, L3 ++ ts, rfl, hfin.out, Lib.hid ⟨by rw [hR.out, List.map_append, hL3.out.1], by omega, fun s hs => by
      rcases List.mem_append.1 hs with hs | hs
      · exact hL3.out.2.2 s hs
      · exact HS2.out s hs⟩, HB8.out⟩
end Go.Proofs.YtniheakafkakhabDoor

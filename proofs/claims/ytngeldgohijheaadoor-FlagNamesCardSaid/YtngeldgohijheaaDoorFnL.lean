/- FlagNames: the walk -/
import Derived.Test.YtngeldgohijheaaDoorFnT
import Derived.Test.YtngeldgohijheaaDoorFnB
import Derived.Test.YtngeldgohijheaaDoorApAt
namespace Go.Proofs.YtngeldgohijheaaDoor
open Go.RowKit Go.Sort

set_option maxRecDepth 100000 in
theorem eqI_any (A A' : Option Addr) (n c c' : Nat) (xs : List Int) (w : World) (B B' : Nat) (hx : I64s w B A n xs) (hy : I64s w B' A' n xs) (hn : n ≤ 1000000) :
    Calls Tryd.prog 34 #[.slice A n c, .slice A' n c'] w fun e w' => e = .returned (.bool true) ∧ ∃ q, w' = w.drewN q := by
  have hn0 := hx.1
  rcases hx.2 with h0 | ⟨b, o, rfl, _, hc⟩
  · rw [List.map_eq_nil_iff] at h0
    subst h0
    simp at hn0
    subst hn0
    refine (Tryd.slices_Equal_int_empty A A' c 0 c' w (by omega)).mono ?_
    rintro e w' ⟨rfl, rfl⟩
    exact ⟨rfl, 0, rfl⟩
  · rcases hy.2 with h0 | ⟨b', o', rfl, _, hc'⟩
    · rw [List.map_eq_nil_iff] at h0
      subst h0
      simp at hn0
      subst hn0
      refine (Tryd.slices_Equal_int_empty (some ⟨b, o, none⟩) A' c 0 c' w (by omega)).mono ?_
      rintro e w' ⟨rfl, rfl⟩
      exact ⟨rfl, 0, rfl⟩
    · have hcell : ∀ (bb oo : Nat) (h : ∀ j v, (xs.map (Value.int .i64))[j]? = some v → w.cell? ⟨bb, oo + j, none⟩ = some v) j, j < xs.length → w.cell? ⟨bb, oo + j, none⟩ = some (.int .i64 (xs.getD j 0)) := fun bb oo h j hj =>
        h j _ (by rw [List.getElem?_map, List.getElem?_eq_getElem hj]; simp [List.getD, List.getElem?_eq_getElem hj])
      refine (Tryd.slices_Equal_int b o n c b' o' n c' xs xs w (by omega) (by omega) (by omega) (by omega) (hcell b o hc) (hcell b' o' hc')).mono ?_
      rintro e w' ⟨rfl, q, rfl⟩
      exact ⟨by simp, q, rfl⟩
def wantL (zs : List Int) (q : Nat) : List Int := ((List.range q).map Int.ofNat).filter fun k => flagKnown k && zs.contains (flagCls k)
theorem wantL_succ (zs : List Int) (q : Nat) : wantL zs (q + 1) = if (flagKnown (q : Int) && zs.contains (flagCls (q : Int))) = true then wantL zs q ++ [(q : Int)] else wantL zs q := by
  unfold wantL
  rw [List.range_succ, List.map_append, List.filter_append]
  split
  · rename_i h
    rw [List.map_cons, List.map_nil, List.filter_cons, if_pos (show (flagKnown (Int.ofNat q) && zs.contains (flagCls (Int.ofNat q))) = true from h)]
    rfl
  · rename_i h
    rw [List.map_cons, List.map_nil, List.filter_cons, if_neg (show ¬ (flagKnown (Int.ofNat q) && zs.contains (flagCls (Int.ofNat q))) = true from h)]
    simp
theorem wantL_len (zs : List Int) (q : Nat) : (wantL zs q).length ≤ q := by
  unfold wantL
  refine Nat.le_trans (List.length_filter_le _ _) ?_
  simp
theorem want_known : (((List.range 256).map Int.ofNat).filter fun k => flagKnown k) = KS := by decide +kernel
theorem wantL_all (zs : List Int) : wantL zs 256 = tyL zs := by
  unfold wantL tyL
  rw [← want_known, List.filter_filter]
  congr 1
  funext k
  rw [Bool.and_comm]
set_option maxRecDepth 100000 in
theorem sl_int : SliceOf Tryd.prog 38 3 1 8 := SliceOf.mk Tryd.underlying38 (z := .int .i64 0) (by kernel_rfl) rfl (by decide)
set_option maxRecDepth 100000 in
set_option maxHeartbeats 3200000 in
theorem fnames_walk (k : Int) (h0 : -9223372036854775808 ≤ k) (h1 : k ≤ 9223372036854775807) (A6 : Option Addr) (n6 c6 : Nat) (zs : List Int) (w : World) (ht : Tens w) (hn : FNames w) (hz : I64s w w.heap.size A6 n6 zs) (hm : n6 ≤ maxLen) :
    Calls Tryd.prog 8 #[.int .i64 k, .slice A6 n6 c6] w fun e w' => e = .returned (.bool true) ∧ Below w.heap.size w w' := by
  unfold maxLen at hm
  by_cases h20 : 20 < n6
  · have q1 : (20 : Int) < (n6 : Int) := by omega
    go_enter Tryd.func8, Tryd.ntmps8
    go_wp2_with fail
    refine (alive10_any _).mono ?_
    rintro e w1 ⟨rfl, hb⟩
    go_wp2
    go_ret
    exact ⟨rfl, hb⟩
  · have q1 : ¬ ((20 : Int) < (n6 : Int)) := by omega
    have hn20 : n6 ≤ 20 := by omega
    have HZ := Lib.hid hz
    have HT := Lib.hid ht
    have HF := Lib.hid hn
    have hN := Lib.hid (fun W (hb : Below w.heap.size w W) => fname_any k h0 h1 W (HT.out.below hb) (HF.out.below hb))
    have hRN := Lib.hid (fun W => rname_any k h0 h1 W)
    have hTy := Lib.hid (fun W (hb : Below w.heap.size w W) => types_any A6 n6 c6 zs W ((HZ.out.below hb).more hb.size) (by omega))
    have hCl := Lib.hid (fun (q : Nat) W => rclass_any (q : Int) W)
    have hCt := Lib.hid (fun (x : Int) W (hb : Below w.heap.size w W) => contains_any A6 n6 c6 zs x W w.heap.size (HZ.out.below hb) (by omega))
    have hSc := Lib.hid (fun q => wantL_succ zs q)
    have hAll := Lib.hid (wantL_all zs)
    have hWl := Lib.hid (fun q => wantL_len zs q)
    generalize tyL zs = T at *
    have h00 : wantL zs 0 = [] := rfl
    generalize wantL zs = wl at *
    generalize nmB k = V at *
    clear hz ht hn
    go_enter Tryd.func8, Tryd.ntmps8
    go_wp2
    go_loopw [5, 6] (fun v i wr => ∃ q : Nat, q ≤ 256 ∧ i = .int .i64 q ∧ wr.ownsRow w.heap.size 3 1 v (wl q).length ((wl q).map (Value.int .i64)) ∧ Below w.heap.size w wr) (fun _ i _ => 256 - (intOf i).toNat)
    case atStart => exact ⟨0, Nat.zero_le _, rfl, by rw [h00]; exact World.ownsRow_nil _ _ _ _, bl_refl w⟩
    case round =>
      obtain ⟨q, hq, rfl, hrow, hbr⟩ := hrel
      clear h00
      have hwl := hWl.out q
      by_cases hlt : q < 256
      · have hS := hSc.out q
        obtain ⟨kn, hkn⟩ : ∃ kn, flagKnown (q : Int) = kn := ⟨_, rfl⟩
        obtain ⟨ct, hct⟩ : ∃ ct, zs.contains (flagCls (q : Int)) = ct := ⟨_, rfl⟩
        rw [hkn, hct] at hS
        have HS := Lib.hid hS
        have HKn := Lib.hid hkn
        have HCt := Lib.hid hct
        clear hS hkn hct
        go_wp2_with fail
        refine (hCl.out q _).mono ?_
        rintro e w' ⟨rfl, rfl⟩
        rw [HKn.out]
        have hc2 := hCt.out (flagCls (q : Int)) wr hbr
        rw [HCt.out] at hc2
        have HC2 := Lib.hid hc2
        clear hc2
        generalize flagCls (q : Int) = cl at *
        cases kn
        · go_wp2
          go_roundw
          case rel => exact ⟨q + 1, hlt, by go_num, by rw [HS.out]; exact hrow, hbr⟩
          case measure => simp [intOf]; omega
        · go_wp2_with fail
          refine HC2.out.mono ?_
          rintro e w' ⟨rfl, rfl⟩
          cases ct
          · go_wp2
            go_roundw
            case rel => exact ⟨q + 1, hlt, by go_num, by rw [HS.out]; exact hrow, hbr⟩
            case measure => simp [intOf]; omega
          · obtain ⟨A5, c5, rfl⟩ := own_form hrow
            have hoq := hrow
            have hbs := hbr.size
            go_wp2_with (at_builtin; refine wpList_append_grow _ rfl _ _ rfl sl_int w.heap.size _ _ _ rfl (hoq.alloc _) (w'.heap.size + 1) (some ⟨w'.heap.size, 0, none⟩) 1 1 [_] rfl rfl (Shows.of_owned (Own.new _ _ _) (by simp)) (one1 rfl) (by unfold maxLen; omega) (by omega) (by simp; omega) ?_; intro v3 w3 ho3 hg3)
            have hb3 := (hbr.alloc hbs (.cells #[.int .i64 (q : Int)] 3)).grown hg3 (by simp; omega) (fun j hj => (row_typed hrow hj).2)
            go_roundw
            case rel => exact ⟨q + 1, hlt, by go_num, by rw [HS.out, if_pos (show (true && true) = true from rfl), List.length_append, List.map_append]; exact ho3, hb3⟩
            case measure => simp [intOf]; omega
      · have hq256 : q = 256 := by omega
        rw [hq256, hAll.out] at hrow
        obtain ⟨A5, c5, rfl⟩ := own_form hrow
        have hWT : T.length ≤ 256 := by rw [← hAll.out]; exact hWl.out 256
        have HW := Lib.hid (show I64s wr wr.heap.size A5 T.length T from ⟨rfl, Shows.of_own hrow⟩)
        clear hrow
        go_wp2_with fail
        refine (alive10_any _).mono ?_
        rintro e w2 ⟨rfl, hb2⟩
        have hB2 := bl_trans hbr hb2
        go_wp2_with fail
        refine (hN.out w2 hB2).mono ?_
        rintro e w3 ⟨rfl, hb3⟩
        have hB3 := bl_trans hB2 hb3
        go_wp2_with fail
        refine (hRN.out w3).mono ?_
        rintro e w4 ⟨rfl, hb4⟩
        have hB4 := bl_trans hB3 hb4
        go_wp2_with fail
        refine (hTy.out w4 hB4).mono ?_
        rintro e w5 ⟨A9, c9, rfl, hL, hb5⟩
        have hB5 := bl_trans hB4 hb5
        have hW5 := HW.out.below (bl_trans (bl_trans (bl_trans hb2 hb3) hb4) hb5)
        go_wp2_with fail
        refine (eqI_any A9 A5 T.length c9 c5 T w5 w5.heap.size wr.heap.size hL hW5 (by omega)).mono ?_
        rintro e w6 ⟨rfl, qq, rfl⟩
        go_wp2
        go_ret
        exact ⟨rfl, bl_drewN hB5 qq⟩
end Go.Proofs.YtngeldgohijheaaDoor

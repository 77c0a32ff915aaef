/- PrefixReads -/
import Derived.Test.YtiehbmhekncbhaaDoorAl2
import Derived.Test.YtiehbmhekncbhaaDoorQread
import Derived.Test.YtiehbmhekncbhaaDoorNm
import Derived.Test.YtiehbmhekncbhaaDoorPeq
namespace Go.Proofs.YtiehbmhekncbhaaDoor
open Go.RowKit Go.Sort

set_option maxRecDepth 100000 in
theorem preads_early (f : Int) (A : Option Addr) (n c : Nat) (w : World) (hm : n ≤ maxLen) (h : 300 < n) (ht : Tens w) :
    Calls Tryd.prog 3 #[.int .i64 f, .slice A n c] w fun e w' => e = .returned (.bool true) ∧ Below w.heap.size w w' := by
  unfold maxLen at hm
  go_enter Tryd.func3, Tryd.ntmps3
  go_wp2_with fail
  refine (alive2_any _ ht).mono ?_
  rintro e w1 ⟨rfl, hb1⟩
  go_wp2
  go_ret
  exact ⟨rfl, hb1⟩
set_option maxRecDepth 100000 in
theorem rread_all (f : Int) (A : Option Addr) (n c : Nat) (xs : List Int) (p : Nat) (w : World) (hx : Bytes w w.heap.size A n xs) (hc : n ≤ c) (hn : n ≤ 100000000) (hp : p ≤ 100000000) :
    Calls Tryd.prog 18 #[.int .i64 f, .agg #[.slice A n c, .int .i64 p]] w fun e w' => RReadTo f A n xs p e ∧ Below w.heap.size w w' := by
  match xs, hx with
  | [], hx => exact rread_nil f A n c p w (by simpa using hx.1)
  | x :: ys, hx =>
    by_cases hk : lenOk f x = true
    · by_cases hs : ys.length < (sizeOfBits x).toNat
      · exact rread_short f A n c x ys p w hx hc hn hp hk hs
      · exact rread_yes f A n c x ys p w hx hc hn hp hk (by omega)
    · exact rread_bad f A n c x ys p w hx hc hn hp (by simpa using hk)
set_option maxRecDepth 100000 in
set_option maxHeartbeats 1600000 in
theorem preads_main (f : Int) (A : Option Addr) (n c : Nat) (xs : List Int) (w : World) (hx : Bytes w w.heap.size A n xs) (hc : n ≤ c) (h : n ≤ 300) (ht : Tens w) :
    Calls Tryd.prog 3 #[.int .i64 f, .slice A n c] w fun e w' => e = .returned (.bool true) ∧ Below w.heap.size w w' := by
  have HX := Lib.hid hx
  have hxl := hx.1
  have HL := Lib.hid hxl
  have hz18 : #[.int .i64 0, .int .i64 0, .int .u8 0, .int .u8 0, .int .u8 0, .int .u8 0, .int .u8 0, .int .u8 0, .int .u8 0, .int .u8 0, .int .u8 0, .int .u8 0, .int .u8 0, .int .u8 0, .int .u8 0, .int .u8 0, .int .u8 0, .int .u8 0] = pfx 0 0 zero16 := pfx_zero.symm
  have hA := pA_addr (f := f) hx.2.1
  have HV := Lib.hid (fun hk => (pread_valid (f := f) hx.2.1 hk).2)
  have HLe := Lib.hid (fun hk : pOk f xs = true => pOk_len hk)
  clear hx hxl
  go_enter Tryd.func3, Tryd.ntmps3
  go_wp2_with fail
  refine (new_any A n c xs w HX.out (by omega)).mono ?_
  rintro e w1 ⟨g, rfl, hg, hr, hb1⟩
  have hrB := hr.toB
  have hx1 := (HX.out.below hb1)
  go_wp2_with fail
  refine (pread_any w1.heap.size f xs g 0 w1 hrB (by rw [← HL.out]; omega) (by omega)).mono ?_
  rintro e w2 ⟨rfl, hr2, hg2⟩
  have HR2 := Lib.hid hr2
  have hb2 : Below w.heap.size w w2 := bl_only hb1 hg2 hg
  have hx2 := (HX.out.below hb2).more hb2.size
  have hgl : g < w2.heap.size := Nat.lt_of_lt_of_le hr.lt hg2.size
  clear hr2 hg2 hr hrB hb1 hx1
  generalize hF : pF f xs = F at *
  generalize hLl : pL f xs = L at *
  generalize hAa : pA f xs = Aa at *
  generalize hK : pOk f xs = K at *
  have HF := Lib.hid hF
  have HLl := Lib.hid hLl
  have HAa := Lib.hid hAa
  have HK := Lib.hid hK
  have i18 := Lib.hid (pfx_info (f := F) (l := L) hA.1)
  have s18 := Lib.hid ((pfx_size (f := 0) (l := 0) zero16_addr.1).trans (pfx_size (f := F) (l := L) hA.1).symm)
  clear hF hLl hAa hK
  have o3 := (Own.new w2 28 (pfx 0 0 zero16)).setRow (cs' := pfx F L Aa)
  have hb3 := bl_setRow (cs := pfx F L Aa) (bl_alloc hb2 (.cells (pfx 0 0 zero16) 28)) hb2.size
  have hx3 := (HX.out.below hb3).more hb3.size
  have hr3 : Hid (K = true → RdrB w1.heap.size ((w2.alloc (.cells (pfx 0 0 zero16) 28)).setRow w2.heap.size (pfx F L Aa)) g (xs.drop (pN xs)) (0 + pN xs)) := Lib.hid (fun hk => ((HR2.out hk).below (bl_alloc (bl_refl w2) (.cells (pfx 0 0 zero16) 28))).setRow (HR2.out hk).size (by omega))
  go_wp2_with (refine wpList_store_row rfl 28 _ _ rfl w2.heap.size (pfx F L Aa) rfl rfl 28 (pfx 0 0 zero16) (Own.new w2 _ _) i18.out s18.out (pfx_one _ _ _) ?_)
  generalize (w2.alloc (.cells (pfx 0 0 zero16) 28)).setRow w2.heap.size (pfx F L Aa) = w3 at *
  refine (rread_all f A n c xs 0 w3 hx3 hc (by omega) (by omega)).mono ?_
  rintro e w4 ⟨⟨A1, n1, c1, p1, rfl, hP⟩, hb4⟩
  rw [HF.out, HLl.out, HAa.out, HK.out]
  rw [HK.out] at hP
  have hp1 := Lib.hid (fun hk => (hP hk).2.2.1)
  have hr4 := Lib.hid (fun hk => (hr3.out hk).below hb4)
  have o4 := o3.step hb4
  have hb5 := bl_trans hb3 hb4
  have hsz : (w4.alloc (.cells #[.slice A1 n1 c1, .int .i64 p1] 32)).heap.size = w4.heap.size + 1 := by simp
  have q8 := ((Own.new w4 32 #[.slice A1 n1 c1, .int .i64 p1]).alloc (.cells (pfx 0 0 zero16) 28))
  have q9 := Own.new (w4.alloc (.cells #[.slice A1 n1 c1, .int .i64 p1] 32)) 28 (pfx 0 0 zero16)
  rw [hsz] at q9
  have q8' := q8.keep (setRow_other ((w4.alloc (.cells #[.slice A1 n1 c1, .int .i64 p1] 32)).alloc (.cells (pfx 0 0 zero16) 28)) (w4.heap.size + 1) w4.heap.size (pfx F L Aa) (by omega))
  have q9' := q9.setRow (cs' := pfx F L Aa)
  have q4 := (((o4.alloc (.cells #[.slice A1 n1 c1, .int .i64 p1] 32)).alloc (.cells (pfx 0 0 zero16) 28))).keep (setRow_other ((w4.alloc (.cells #[.slice A1 n1 c1, .int .i64 p1] 32)).alloc (.cells (pfx 0 0 zero16) 28)) (w4.heap.size + 1) w2.heap.size (pfx F L Aa) (by have := o4.lt; omega))
  have hb6 := bl_setRow (g := w4.heap.size + 1) (cs := pfx F L Aa) (bl_alloc (bl_alloc hb5 (.cells #[.slice A1 n1 c1, .int .i64 p1] 32)) (.cells (pfx 0 0 zero16) 28)) (by have := hb5.size; omega)
  have hr6 := Lib.hid (fun hk : K = true => (((hr4.out hk).below (bl_alloc (bl_alloc (bl_refl w4) (.cells #[.slice A1 n1 c1, .int .i64 p1] 32)) (.cells (pfx 0 0 zero16) 28)))).setRow (k := w4.heap.size + 1) (cs := pfx F L Aa) (by have := (hr4.out hk).size; omega) (by have := (hr4.out hk).lt; omega))
  clear hP hr3 o3 hb3 hb4 hx3 hsz q8 o4 hr4 hb5
  go_wp2_with (refine wpList_store_row rfl 28 _ _ rfl (w4.heap.size + 1) (pfx F L Aa) rfl rfl 28 (pfx 0 0 zero16) q9 i18.out s18.out (pfx_one _ _ _) ?_)
  generalize ((w4.alloc (.cells #[.slice A1 n1 c1, .int .i64 p1] 32)).alloc (.cells (pfx 0 0 zero16) 28)).setRow (w4.heap.size + 1) (pfx F L Aa) = w6 at *
  clear q9
  have ht6 := ht.below hb6
  have hal := Lib.hid (rg_of (w := w6) (fun W hW => alive2_any W (ht6.below hW)))
  have heq := fun W => eql_pfx_same (f := F) (l := L) hA W
  cases K
  · clear hr6 hp1
    refine wp_region_quiet_below (by kernel_rfl) (by kernel_rfl) ?_
    go_big_quiet_step (exact hal.out _ _)
    go_big_quiet_step (exact hal.out _ _)
    refine wpQuiet_load_row (by rfl) 28 _ rfl w2.heap.size rfl 28 (pfx F L Aa) (.struct (Tryd.prog.fieldsOf 28)) q4.rg (by kernel_rfl) rfl i18.out ?_
    go_simp
    refine wpQuiet_load_row (by rfl) 28 _ rfl (w4.heap.size + 1) rfl 28 (pfx F L Aa) (.struct (Tryd.prog.fieldsOf 28)) q9'.rg (by kernel_rfl) rfl i18.out ?_
    go_simp
    repeat (go_big_quiet_step (exact hal.out _ _))
    refine wpQuiet_nil ?_
    rintro ⟨dq, osq⟩
    have hb7 := bl_trans hb6 (below_regrown w6 dq osq)
    generalize grow (redrawn w6 dq) osq = w7 at *
    go_wp2
    go_ret
    exact ⟨rfl, hb7⟩
  · have hp2 := hp1.out rfl
    subst hp2
    have hr7 := hr6.out rfl
    have hat := Lib.hid (rg_of (w := w6) (fun W hW => (at_any g _ _ W (hr7.below hW).rdr).mono (fun e w' h => ⟨h.1, by rw [← h.2]; exact bl_refl W⟩)))
    have hvl := Lib.hid (rg_of (w := w6) (v := .bool true) (fun W hW => (pvalid_any F L Aa W hA).mono (fun e w' h => ⟨by rw [h.1, HV.out rfl], h.2⟩)))
    have c1 := cell_regrown (q8'.cell (i := 1) (v := .int .i64 ((0 + pN xs : Nat) : Int)) rfl)
    clear hr6 hp1 hr7
    refine wp_region_quiet_below (by kernel_rfl) (by kernel_rfl) ?_
    go_big_quiet_step (exact hal.out _ _)
    go_big_quiet_step (exact hal.out _ _)
    refine wpQuiet_load_row (by rfl) 28 _ rfl w2.heap.size rfl 28 (pfx F L Aa) (.struct (Tryd.prog.fieldsOf 28)) q4.rg (by kernel_rfl) rfl i18.out ?_
    go_simp
    refine wpQuiet_load_row (by rfl) 28 _ rfl (w4.heap.size + 1) rfl 28 (pfx F L Aa) (.struct (Tryd.prog.fieldsOf 28)) q9'.rg (by kernel_rfl) rfl i18.out ?_
    go_simp
    repeat (go_big_quiet_step (first | exact hat.out _ _ | exact hvl.out _ _))
    refine wpQuiet_load_row (by rfl) 28 _ rfl w2.heap.size rfl 28 (pfx F L Aa) (.struct (Tryd.prog.fieldsOf 28)) q4.rg (by kernel_rfl) rfl i18.out ?_
    go_simp
    repeat (go_big_quiet_step (first | exact hat.out _ _ | exact hvl.out _ _))
    refine wpQuiet_nil ?_
    rintro ⟨dq, osq⟩
    have hb7 := bl_trans hb6 (below_regrown w6 dq osq)
    generalize grow (redrawn w6 dq) osq = w7 at *
    go_wp2
    go_ret
    exact ⟨rfl, hb7⟩
set_option maxRecDepth 100000 in
theorem preads_all (f : Int) (A : Option Addr) (n c : Nat) (xs : List Int) (w : World) (hx : Bytes w w.heap.size A n xs) (hc : n ≤ c) (hm : n ≤ maxLen) (ht : Tens w) :
    Calls Tryd.prog 3 #[.int .i64 f, .slice A n c] w fun e w' => e = .returned (.bool true) ∧ Below w.heap.size w w' := by
  by_cases h : 300 < n
  · exact preads_early f A n c w hm h ht
  · exact preads_main f A n c xs w hx hc (by omega) ht
end Go.Proofs.YtiehbmhekncbhaaDoor

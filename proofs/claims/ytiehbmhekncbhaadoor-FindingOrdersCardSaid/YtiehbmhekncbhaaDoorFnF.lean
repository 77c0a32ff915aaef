/- FindingTexts -/
import Derived.Test.YtiehbmhekncbhaaDoorFnE
namespace Go.Proofs.YtiehbmhekncbhaaDoor
open Go.RowKit Go.Sort

set_option maxRecDepth 100000 in
theorem vd_info5 (a b c d e : Value) : (Tryd.prog.info? 51).map (·.size) = some (#[a, b, c, d, e] : Array Value).size := by kernel_rfl
set_option maxRecDepth 100000 in
set_option maxHeartbeats 1600000 in
theorem ftexts_all (k c s t : Int) (A : Option Addr) (n cp : Nat) (xs : List Int) (w : World) (ht : Tens w) (hx : Bytes w w.heap.size A n xs) (hm : n ≤ maxLen) (h1 : t ≤ 9223372036854775807) :
    Calls Tryd.prog 10 #[.agg #[.int .i64 k, .int .i64 c, .int .i64 s, .slice A n cp, .int .i64 t]] w fun e w' => e = .returned (.bool true) ∧ Below w.heap.size w w' := by
  unfold maxLen at hm
  have hb := bl_alloc (bl_refl w) (.cells #[.int .i64 k, .int .i64 c, .int .i64 s, .slice A n cp, .int .i64 t] 51)
  have o0 := Own.new w 51 #[.int .i64 k, .int .i64 c, .int .i64 s, .slice A n cp, .int .i64 t]
  have hx1 := (hx.below hb).more hb.size
  have HX := Lib.hid hx1
  clear hx hx1
  go_enter Tryd.func10, Tryd.ntmps10
  go_wp2_with fail
  generalize w.alloc (.cells #[.int .i64 k, .int .i64 c, .int .i64 s, .slice A n cp, .int .i64 t] 51) = w1 at *
  have ht1 := ht.below hb
  have q3 := cell_regrown (vd_cells o0).2.2.2.1
  have hal := Lib.hid (rg_of (w := w1) (fun W hW => alive11_any W (ht1.below hW)))
  by_cases h : 500 < n
  · have hlt : decide ((500 : Int) < (n : Int)) = true := by simp; omega
    refine wp_region_quiet_below (by kernel_rfl) (by kernel_rfl) ?_
    repeat (go_big_quiet_step (exact hal.out _ _))
    refine wpQuiet_nil ?_
    rintro _ ⟨⟨dq, osq⟩, rfl⟩
    have hb2 := bl_trans hb (below_regrown w1 dq osq)
    generalize grow (redrawn w1 dq) osq = w2 at *
    go_wp2
    go_ret
    exact ⟨rfl, hb2⟩
  · have hlt : decide ((500 : Int) < (n : Int)) = false := by simp; omega
    have hp := Lib.hid (rg_of (w := w1) (fun W _ => fproper_any k c s t A n cp W))
    have hrp := Lib.hid (rg_of (w := w1) (fun W _ => rproper_any k c s t A n cp W))
    have hfx := Lib.hid (rg_of (w := w1) (fun W hW => ftext_any k c s t A n cp xs W (ht1.below hW) ((HX.out.below hW).more hW.size) (by omega) h1))
    have hrx := Lib.hid (rg_of (w := w1) (fun W hW => rvtext_any k c s t A n cp xs W ((HX.out.below hW).more hW.size) (by omega) h1))
    generalize (if vdOk k c s n t = true then vtext k c s xs t else ⟨#[]⟩) = T at *
    generalize vdOk k c s n t = V at *
    refine wp_region_quiet_below (by kernel_rfl) (by kernel_rfl) ?_
    repeat (first
      | (refine wpQuiet_load_row (by rfl) 51 _ rfl w.heap.size rfl 51 #[.int .i64 k, .int .i64 c, .int .i64 s, .slice A n cp, .int .i64 t] (.struct (Tryd.prog.fieldsOf 51)) o0.rg (by kernel_rfl) rfl (vd_info5 _ _ _ _ _) ?_; go_simp)
      | go_big_quiet_step (first | exact hal.out _ _ | exact hp.out _ _ | exact hrp.out _ _ | exact hfx.out _ _ | exact hrx.out _ _))
    refine wpQuiet_nil ?_
    rintro ⟨dq, osq⟩
    have hb2 := bl_trans hb (below_regrown w1 dq osq)
    generalize grow (redrawn w1 dq) osq = w2 at *
    go_wp2
    go_ret
    exact ⟨rfl, hb2⟩
end Go.Proofs.YtiehbmhekncbhaaDoor

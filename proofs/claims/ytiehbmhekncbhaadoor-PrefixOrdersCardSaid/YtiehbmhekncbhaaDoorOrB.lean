/- cmp.Or of three; prefix.Compare -/
import Derived.Test.YtiehbmhekncbhaaDoorOrA
namespace Go.Proofs.YtiehbmhekncbhaaDoor
open Go.RowKit Go.Sort

def or3 (x y z : Int) : Int := if x ≠ 0 then x else if y ≠ 0 then y else z
set_option maxRecDepth 100000 in
set_option maxHeartbeats 800000 in
theorem or3_any (g : Nat) (x y z : Int) (w : World) (o : Own w g 3 #[.int .i64 x, .int .i64 y, .int .i64 z]) :
    Calls Tryd.prog 77 #[.slice (some ⟨g, 0, none⟩) 3 3] w fun e w' => e = .returned (.int .i64 (or3 x y z)) ∧ w = w' := by
  have c0 := o.cell (i := 0) (v := .int .i64 x) rfl
  have c1 := o.cell (i := 1) (v := .int .i64 y) rfl
  have c2 := o.cell (i := 2) (v := .int .i64 z) rfl
  have hO : Hid (or3 x y z = if x ≠ 0 then x else if y ≠ 0 then y else z) := Lib.hid rfl
  go_enter Tryd.func77, Tryd.ntmps77
  go_wp2
  go_loop [8] (fun i => ∃ k : Nat, k ≤ 3 ∧ i = .int .i64 k ∧ Hid ((1 ≤ k → x = 0) ∧ (2 ≤ k → y = 0) ∧ (3 ≤ k → z = 0))) (fun i => 3 - (intOf i).toNat)
  case atStart => exact ⟨0, by omega, rfl, Lib.hid ⟨by omega, by omega, by omega⟩⟩
  case round =>
    obtain ⟨k, hk, rfl, hz⟩ := hrel
    have hcases : k = 0 ∨ k = 1 ∨ k = 2 ∨ k = 3 := by omega
    rcases hcases with rfl | rfl | rfl | rfl
    · by_cases h : x = 0
      · have hq : (x != 0) = false := by simpa using h
        have hn := Lib.hid h
        clear h
        go_wp2
        go_round
        case rel => exact ⟨1, by omega, rfl, Lib.hid ⟨fun _ => hn.out, by omega, by omega⟩⟩
        case measure => simp [intOf]
      · have hq : (x != 0) = true := by simpa using h
        have HO : Hid (or3 x y z = x) := Lib.hid (by rw [hO.out, if_pos h])
        clear h
        go_wp2
        go_ret
        exact ⟨by rw [HO.out]; rfl, rfl⟩
    · have hx : x = 0 := hz.out.1 (by omega)
      have HX := Lib.hid hx
      clear hx
      by_cases h : y = 0
      · have hq : (y != 0) = false := by simpa using h
        have hn := Lib.hid h
        clear h
        go_wp2
        go_round
        case rel => exact ⟨2, by omega, rfl, Lib.hid ⟨fun _ => HX.out, fun _ => hn.out, by omega⟩⟩
        case measure => simp [intOf]
      · have hq : (y != 0) = true := by simpa using h
        have HO : Hid (or3 x y z = y) := Lib.hid (by rw [hO.out, if_neg (by rw [HX.out]; simp), if_pos h])
        clear h
        go_wp2
        go_ret
        exact ⟨by rw [HO.out]; rfl, rfl⟩
    · have HX := Lib.hid (hz.out.1 (by omega))
      have HY := Lib.hid (hz.out.2.1 (by omega))
      have HO : Hid (or3 x y z = z) := Lib.hid (by rw [hO.out, if_neg (by rw [HX.out]; simp), if_neg (by rw [HY.out]; simp)])
      by_cases h : z = 0
      · have hq : (z != 0) = false := by simpa using h
        have hn := Lib.hid h
        clear h
        go_wp2
        go_round
        case rel => exact ⟨3, by omega, rfl, Lib.hid ⟨fun _ => HX.out, fun _ => HY.out, fun _ => hn.out⟩⟩
        case measure => simp [intOf]
      · have hq : (z != 0) = true := by simpa using h
        clear h
        go_wp2
        go_ret
        exact ⟨by rw [HO.out]; rfl, rfl⟩
    · have HX := Lib.hid (hz.out.1 (by omega))
      have HY := Lib.hid (hz.out.2.1 (by omega))
      have HZ := Lib.hid (hz.out.2.2 (by omega))
      have HO : Hid (or3 x y z = 0) := Lib.hid (by rw [hO.out, if_neg (by rw [HX.out]; simp), if_neg (by rw [HY.out]; simp), HZ.out])
      go_wp2
      go_ret
      exact ⟨by rw [HO.out]; rfl, rfl⟩
/-- How two prefixes are ordered. -/
def pcmp (f l : Int) (a : List Int) (f' l' : Int) (b : List Int) : Int := or3 (cmpI f f') (Lib.compareBytes (Lib.bytesOf a) (Lib.bytesOf b)) (cmpI l l')
set_option maxRecDepth 100000 in
set_option maxHeartbeats 1600000 in
theorem pcompare_any (f l f' l' : Int) (a b : List Int) (w : World) (ha : IsAddr a) (hb : IsAddr b) :
    Calls Tryd.prog 26 #[.agg (pfx f l a), .agg (pfx f' l' b)] w fun e w' => e = .returned (.int .i64 (pcmp f l a f' l' b)) ∧ Below w.heap.size w w' := by
  have hb0 := bl_alloc (bl_alloc (bl_refl w) (.cells (pfx f l a) 28)) (.cells (pfx f' l' b) 28)
  have o1 := (Own.new w 28 (pfx f l a)).alloc (.cells (pfx f' l' b) 28)
  have o2 := Own.new (w.alloc (.cells (pfx f l a) 28)) 28 (pfx f' l' b)
  rw [show (w.alloc (.cells (pfx f l a) 28)).heap.size = w.heap.size + 1 by simp] at o2
  go_enter Tryd.func26, Tryd.ntmps26
  go_wp2_with fail
  generalize (w.alloc (.cells (pfx f l a) 28)).alloc (.cells (pfx f' l' b) 28) = W at *
  generalize w.heap.size + 1 = g2 at o2 ⊢
  have c0 := (o1.cell (pfx_0 f l a))
  have c1 := (o1.cell (pfx_1 f l a))
  have d0 := (o2.cell (pfx_0 f' l' b))
  have d1 := (o2.cell (pfx_1 f' l' b))
  have hx : ∀ i v, (a.map (Value.int .u8))[i]? = some v → W.cell? ⟨w.heap.size, 2 + i, none⟩ = some v := fun i v hv => pfx_range o1 i v hv
  have hy : ∀ i v, (b.map (Value.int .u8))[i]? = some v → W.cell? ⟨g2, 2 + i, none⟩ = some v := fun i v hv => pfx_range o2 i v hv
  have HX := Lib.hid hx
  have HY := Lib.hid hy
  have bc := Lib.hid (fun c c' => bcompare_any w.heap.size 2 g2 2 c c' a b W.drew HX.out HY.out)
  rw [ha.1, hb.1] at bc
  clear hx hy
  refine wp_region_still_tail 15 (by kernel_rfl) (by kernel_rfl) ?_
  simp only [List.take_succ_cons, List.take_zero, List.drop_succ_cons, List.drop_zero]
  repeat still_step
  still_call (icmp_any _ _ _)
  repeat still_step
  still_call (bc.out _ _)
  repeat still_step
  still_call (icmp_any _ _ _)
  refine wpStill_nil ?_
  change wpList _ _ _ _ _ W.drew
  have hb1 := bl_drewN hb0 1
  have hdr : W.drewN 1 = W.drew := rfl
  rw [hdr] at hb1
  clear c0 c1 d0 d1 HX HY bc o1 o2 hb0 hdr
  generalize W.drew = V at *
  have hP : Hid (pcmp f l a f' l' b = or3 (cmpI f f') (Lib.compareBytes (Lib.bytesOf a) (Lib.bytesOf b)) (cmpI l l')) := Lib.hid rfl
  generalize cmpI f f' = X at *
  generalize Lib.compareBytes (Lib.bytesOf a) (Lib.bytesOf b) = Y at *
  generalize cmpI l l' = Z at *
  go_wp2_with fail
  refine (or3_any V.heap.size X Y Z _ (Own.new V 3 #[.int .i64 X, .int .i64 Y, .int .i64 Z])).mono ?_
  rintro e w' ⟨rfl, rfl⟩
  go_wp2
  go_ret
  refine ⟨?_, bl_alloc hb1 _⟩
  rw [hP.out]
  rfl
end Go.Proofs.YtiehbmhekncbhaaDoor

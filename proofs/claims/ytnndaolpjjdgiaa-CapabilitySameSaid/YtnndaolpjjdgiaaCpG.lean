/- peerageref16.Read -/
import Derived.Test.YtnndaolpjjdgiaaCpF
import Derived.Test.YtnndaolpjjdgiaaStepG
namespace Go.Proofs.Ytnndaolpjjdgiaa
open Go.RowKit

theorem bytes_cutC {w : World} {B b o n c : Nat} {xs : List Int} (h : Bytes w B (some ⟨b, o, none⟩) n xs) {k : Nat} (hk : k ≤ n) (hc : n ≤ c) : ∃ A', Bytes w B A' (n - k) (xs.drop k) ∧ ((c = k ∧ A' = some ⟨b, o, none⟩) ∨ (¬ c = k ∧ A' = some ⟨b, o + k, none⟩)) := by
  have h2 := h.cut (cap := c) hk hc
  by_cases e : c = k
  · rw [if_pos e] at h2
    exact ⟨_, h2, .inl ⟨e, rfl⟩⟩
  · rw [if_neg e, Option.map_some, Addr.add_lit] at h2
    exact ⟨_, h2, .inr ⟨e, rfl⟩⟩
set_option maxRecDepth 100000 in
set_option maxHeartbeats 12800000 in
theorem rcread_any (A : Option Addr) (n c : Nat) (xs : List Int) (w : World) (h : Bytes w w.heap.size A n xs) (hn : n ≤ 20000) (hc : n ≤ c) (hcm : c ≤ maxLen) :
    Calls Try.prog 16 #[.slice A n c] w fun e w' => ∃ v L q, e = .returned (.tuple #[v, .bool q]) ∧ CRow 44 w' w.heap.size v L ∧ Hid (GotC (readC (xs.length + 1) xs) q L) ∧ Below w.heap.size w w' := by
  have hl := h.1
  have HL := Lib.hid (show xs.length ≤ 20000 by omega)
  have HX := Lib.hid (show byteC xs from h.2.1)
  unfold maxLen at hcm
  obtain rfl := hl
  have HBy := Lib.hid h
  have HCm := Lib.hid (And.intro hc hcm)
  clear h hn hc hcm
  go_enter Try.func16, Try.ntmps16
  go_wp2_with fail
  go_loopw [0, 4, 5] (fun bv ov _ wr => ∃ (A' : Option Addr) (c' : Nat) (ys : List Int) (L : List Cp), bv = .slice A' ys.length c' ∧ Hid (ys.length ≤ c' ∧ c' ≤ 9223372036854775807 ∧ Bytes w w.heap.size A' ys.length ys) ∧ CRow 44 wr w.heap.size ov L ∧ Hid (ComeC xs (L.map cpK) ys ∧ byteC ys ∧ 2 * L.length + ys.length ≤ xs.length ∧ ∀ s ∈ L, s.n ≤ 1000) ∧ Below w.heap.size w wr) (fun bv _ _ _ => lenOfC bv)
  case atStart => exact ⟨A, c, xs, [], rfl, Lib.hid ⟨HCm.out.1, HCm.out.2, HBy.out⟩, CRow.nil _ _ _, Lib.hid ⟨ComeC.start xs, HX.out, by simp, (fun _ h => by cases h)⟩, bl_refl _⟩
  case round =>
    obtain ⟨A', c', ys, L, rfl, hy, hrow, hL, hb⟩ := hrel
    obtain ⟨A0, c0, rfl⟩ := hrow.form
    have hrg := hL.out.2.1
    have hLl := hL.out.2.2.1
    have hxl := HL.out
    have HRow := Lib.hid hrow
    have HB := Lib.hid hb
    clear hrow hb
    match ys, hy, hL, hrg, hLl with
    | [], hy, hL, hrg, hLl =>
      have hG := Lib.hid (show GotC (readC (xs.length + 1) xs) true L from ⟨.inl ⟨hL.out.1.done, rfl⟩, by omega, hL.out.2.2.2⟩)
      clear hrg
      go_wp2
      go_ret2
      exact ⟨_, L, true, rfl, HRow.out, hG, HB.out⟩
    | [a], hy, hL, hrg, hLl =>
      have hG := Lib.hid (show GotC (readC (xs.length + 1) xs) false [] from ⟨.inr ⟨hL.out.1.fail (by simp) (by unfold okC; exact decide_eq_false (by simp)), rfl, rfl⟩, by simp, (fun _ h => by cases h)⟩)
      clear hrg hLl
      go_wp2
      go_ret2
      exact ⟨_, [], false, rfl, CRow.nil _ _ _, hG, HB.out⟩
    | a :: b :: zs, hy, hL, hrg, hLl =>
      have ha := hrg a (by simp)
      have hbb := hrg b (by simp)
      have HZ := Lib.hid (show byteC zs from fun y hy => hrg y (by simp [hy]))
      simp only [List.length_cons] at hLl
      obtain ⟨m, rfl⟩ : ∃ m : Nat, b = (m : Int) := ⟨b.toNat, by omega⟩
      have hok : Hid (okC (a :: (m : Int) :: zs) = decide (m ≤ zs.length)) := Lib.hid (by
        unfold okC
        rw [show nth (a :: (m : Int) :: zs) 1 = (m : Int) from rfl, Int.toNat_natCast, Bool.eq_iff_iff, decide_eq_true_iff, decide_eq_true_iff]
        simp only [List.length_cons]
        omega)
      have hrest : Hid (restC (a :: (m : Int) :: zs) = (a :: (m : Int) :: zs).drop (2 + m)) := Lib.hid rfl
      have hseg : Hid (segC (a :: (m : Int) :: zs) = (a, zs.take m)) := Lib.hid (by
        unfold segC
        rw [show nth (a :: (m : Int) :: zs) 1 = (m : Int) from rfl, Int.toNat_natCast]
        rfl)
      obtain ⟨bb, oo, rfl, hbB, e0, _, _⟩ := hy.out.2.2.at_ (k := 0) (by simp)
      obtain ⟨bb2, oo2, hA2, _, e1, _, _⟩ := hy.out.2.2.at_ (k := 1) (by simp)
      cases hA2
      have e0 : w.cell? ⟨bb, oo, none⟩ = some (.int .u8 a) := e0
      have e1 : w.cell? ⟨bb, oo + 1, none⟩ = some (.int .u8 (m : Int)) := e1
      have f0 := (HB.out.cell (p := ⟨bb, oo, none⟩) hbB).trans e0
      have f1 := (HB.out.cell (p := ⟨bb, oo + 1, none⟩) hbB).trans e1
      have hbs := HB.out.size
      have hbw : bb < wr.heap.size := by omega
      simp only [List.length_cons] at *
      clear hrg e0 e1
      by_cases hlt : m ≤ zs.length
      · have hok2 : Hid (okC (a :: (m : Int) :: zs) = true) := Lib.hid (hok.out.trans (decide_eq_true hlt))
        have hCs := Lib.hid (hL.out.1.step (by simp) hok2.out)
        rw [hrest.out, hseg.out] at hCs
        obtain ⟨Ad, hAd, hcd⟩ := bytes_cutC (k := 2) hy.out.2.2 (by omega) hy.out.1
        obtain ⟨Ar, hAr, hcr⟩ := bytes_cutC (k := 2 + m) hy.out.2.2 (by omega) hy.out.1
        have hc1 := hy.out.1
        have hc2 := hy.out.2.1
        have hAd2 := hAd.front (k := m) (by omega)
        have hdt : ((a :: (m : Int) :: zs).drop 2).take m = zs.take m := rfl
        rw [hdt] at hAd2
        have HAd := Lib.hid hAd2
        have HAr := Lib.hid hAr
        have g1 : ¬ ((zs.length : Int) + 1 + 1 < 2) := by omega
        have g2 : ¬ ((zs.length : Int) + 1 + 1 < 2 + (m : Int)) := by omega
        clear hok hrest hseg hAd hAr hAd2 hdt
        have hw1 : IntKind.i64.wrap (2 + (m : Int)) = 2 + (m : Int) := by rw [IntKind.wrap_i64]; omega
        have s1 : (0 : Int) ≤ 2 + (m : Int) := by omega
        have s2 : 2 + (m : Int) ≤ (c' : Int) := by omega
        have s3 : (2 : Int) ≤ 2 + (m : Int) := by omega
        have s4 : (2 + (m : Int)).toNat = 2 + m := by omega
        have s5 : 2 + m ≤ c' := by omega
        have s6 : 2 + m ≤ zs.length + 1 + 1 := by omega
        have s7 : 2 + (m : Int) ≤ (zs.length : Int) + 1 + 1 := by omega
        have hlen := Lib.hid (show m = (zs.take m).length by rw [List.length_take]; omega)
        have hdl := Lib.hid (show ((a :: (m : Int) :: zs).drop (2 + m)).length = zs.length + 1 + 1 - (2 + m) by rw [List.length_drop]; rfl)
        have hwa := Lib.hid (show IntKind.i64.wrap a = a by rw [IntKind.wrap_i64]; omega)
        clear hlt
        rcases hcd with ⟨t1, rfl⟩ | ⟨t1, rfl⟩
        · subst t1
          have s8 : 2 + (m : Int) ≤ 2 := by omega
          have hm0 : m = 0 := by omega
          have hCs0 := hCs.out
          rw [show zs.take m = [] by rw [hm0]; rfl] at hCs0
          have hCs0 := Lib.hid hCs0
          clear hm0
          go_wp2_with fail
          go_region_law ((first
            | (refine step_append_at _ rfl _ _ rfl sl_bytes wr.heap.size _ 0 [] rfl (Own.row (cs := []) (show Own (wr.alloc (.cells #[] 5)).drew wr.heap.size 5 #[] from (Own.new wr 5 #[]).drew) rfl (Nat.le_refl _) (by unfold maxLen; omega)) w.heap.size (some ⟨bb, oo, none⟩) 0 0 [] rfl rfl (.inl rfl) (fun _ h => by cases h) (by unfold maxLen; omega) (by omega) (by simp) ?_; intro v3 w3 hr3 hg3 _; obtain ⟨A3, c3, rfl⟩ := own_form hr3; have hb3 : Below wr.heap.size wr w3 := (show Below wr.heap.size wr (wr.alloc (.cells #[] 5)).drew from bl_drewN (bl_alloc (bl_refl wr) _) 1).grown hg3 (by simp) (fun k hk => by cases hk; exact Nat.le_refl _); have f0x := (hb3.cell (p := ⟨bb, oo, none⟩) hbw).trans f0; have HB3 := Lib.hid hb3; have HR3 := Lib.hid hr3; have hs3 := hb3.size; have HRow3 := Lib.hid (HRow.out.below hb3); clear hr3 hg3 hb3)
            | (refine step_append_at _ rfl _ _ rfl sl_rcps w.heap.size _ L.length (cellsP L) rfl (own_belowG HRow3.out.1 (bl_alloc (bl_refl w3) _)) (w3.heap.size + 1) (some ⟨w3.heap.size, 0, none⟩) 1 1 [.int .i64 (IntKind.i64.wrap a), .slice A3 0 c3] rfl rfl (Shows.of_owned (xs := [.int .i64 (IntKind.i64.wrap a), .slice A3 0 c3]) (Own.new w3 44 #[.int .i64 (IntKind.i64.wrap a), .slice A3 0 c3]) (Nat.lt_succ_self _)) (oneP _ _ _ _) (by unfold maxLen; omega) (by omega) (by simp; omega) ?_; intro v4 w4 hr4 hg4 _)))
          all_goals
            rw [hwa.out] at hr4
            have hD4 : CD (w3.alloc (.cells #[.int .i64 (IntKind.i64.wrap a), .slice A3 0 c3] 44)) w.heap.size ⟨a, A3, 0, c3, []⟩ := CD.lift (base := wr.heap.size) ⟨own_belowG HR3.out (bl_alloc (bl_refl w3) _), rfl, fun x hx => by cases hx⟩ hbs
            have row4 := Lib.hid ((HRow3.out.below (bl_alloc (bl_refl w3) (.cells #[.int .i64 (IntKind.i64.wrap a), .slice A3 0 c3] 44))).push cp_types.2.1 (q := ⟨a, A3, 0, c3, []⟩) hD4 hr4 hg4)
            have hb4 := Lib.hid ((bl_trans HB.out (HB3.out.alloc HB3.out.size (.cells #[.int .i64 (IntKind.i64.wrap a), .slice A3 0 c3] 44))).grown hg4 (by simp; omega) (fun j hj => own_base HRow3.out.1 j hj))
            obtain ⟨A5, c5, hv4⟩ := row4.out.form
            rw [List.length_append, List.length_singleton] at hv4
            subst hv4
            clear hD4 hr4 hg4
            have hm0 : m = 0 := by omega
            have hz0 : zs = [] := List.eq_nil_of_length_eq_zero (by omega)
            have hAr0 : Ar = some ⟨bb, oo, none⟩ := by
              rcases hcr with ⟨_, h⟩ | ⟨t2, _⟩
              · exact h
              · exact absurd (by omega) t2
            clear hcr
            have HR4 := Lib.hid (show Bytes w w.heap.size (some ⟨bb, oo, none⟩) 0 [] from Bytes.nil _ _ _)
            have hCs1 := hCs0.out
            rw [hm0, hz0] at hCs1
            have hCs1 := Lib.hid (show ComeC xs (L.map cpK ++ [(a, [])]) [] from hCs1)
            have hr4' := row4.out
            have hb4' := hb4.out
            have hL4 := hL.out.2.2.2
            have hl4 : 2 * (L.length + 1) ≤ xs.length := by omega
            clear s1 s2 s3 s4 s5 s6 s7 s8 hw1 g1 g2 hbb hc1 hc2 HAr HAd hlen hdl hCs hCs0 HL hxl hLl hy
            subst hm0 hz0
            go_wp2
            go_roundw
            case rel => exact ⟨_, _, [], L ++ [⟨a, A3, 0, c3, []⟩], rfl, Lib.hid ⟨Nat.zero_le _, by omega, HR4.out⟩, hr4', Lib.hid ⟨by rw [List.map_append]; exact hCs1.out, (fun _ h => by cases h), by rw [List.length_append, List.length_singleton]; simp; omega, fun s hs => by
              rcases List.mem_append.1 hs with hs | hs
              · exact hL4 s hs
              · rw [List.mem_singleton] at hs
                subst hs
                show 0 ≤ 1000
                omega⟩, hb4'⟩
            case measure => simp [lenOfC]
        · go_wp2_with fail
          go_region_law ((first
            | (refine step_append_at _ rfl _ _ rfl sl_bytes wr.heap.size _ 0 [] rfl (Own.row (cs := []) (show Own (wr.alloc (.cells #[] 5)).drew wr.heap.size 5 #[] from (Own.new wr 5 #[]).drew) rfl (Nat.le_refl _) (by unfold maxLen; omega)) w.heap.size (some ⟨bb, oo + 2, none⟩) m (c' - 2) ((zs.take m).map (Value.int .u8)) rfl (by rw [List.length_map, ← hlen.out, Nat.mul_one]) ((HAd.out.below (show Below w.heap.size w (wr.alloc (.cells #[] 5)).drew from bl_drewN (HB.out.alloc HB.out.size _) 1)).2.2) (one8 _) (by unfold maxLen; omega) (by omega) (by simp) ?_; intro v3 w3 hr3 hg3 _; rw [Nat.zero_add, List.nil_append] at hr3; obtain ⟨A3, c3, rfl⟩ := own_form hr3; have hb3 : Below wr.heap.size wr w3 := (show Below wr.heap.size wr (wr.alloc (.cells #[] 5)).drew from bl_drewN (bl_alloc (bl_refl wr) _) 1).grown hg3 (by simp) (fun k hk => by cases hk; exact Nat.le_refl _); have f0x := (hb3.cell (p := ⟨bb, oo, none⟩) hbw).trans f0; have HB3 := Lib.hid hb3; have HR3 := Lib.hid hr3; have hs3 := hb3.size; have HRow3 := Lib.hid (HRow.out.below hb3); clear hr3 hg3 hb3)
            | (refine step_append_at _ rfl _ _ rfl sl_rcps w.heap.size _ L.length (cellsP L) rfl (own_belowG HRow3.out.1 (bl_alloc (bl_refl w3) _)) (w3.heap.size + 1) (some ⟨w3.heap.size, 0, none⟩) 1 1 [.int .i64 (IntKind.i64.wrap a), .slice A3 m c3] rfl rfl (Shows.of_owned (xs := [.int .i64 (IntKind.i64.wrap a), .slice A3 m c3]) (Own.new w3 44 #[.int .i64 (IntKind.i64.wrap a), .slice A3 m c3]) (Nat.lt_succ_self _)) (oneP _ _ _ _) (by unfold maxLen; omega) (by omega) (by simp; omega) ?_; intro v4 w4 hr4 hg4 _)))
          all_goals
            rw [hwa.out] at hr4
            have hD4 : CD (w3.alloc (.cells #[.int .i64 (IntKind.i64.wrap a), .slice A3 m c3] 44)) w.heap.size ⟨a, A3, m, c3, zs.take m⟩ := CD.lift (base := wr.heap.size) ⟨own_belowG HR3.out (bl_alloc (bl_refl w3) _), hlen.out, fun x hx => HZ.out x (List.mem_of_mem_take hx)⟩ hbs
            have row4 := Lib.hid ((HRow3.out.below (bl_alloc (bl_refl w3) (.cells #[.int .i64 (IntKind.i64.wrap a), .slice A3 m c3] 44))).push cp_types.2.1 (q := ⟨a, A3, m, c3, zs.take m⟩) hD4 hr4 hg4)
            have hb4 := Lib.hid ((bl_trans HB.out (HB3.out.alloc HB3.out.size (.cells #[.int .i64 (IntKind.i64.wrap a), .slice A3 m c3] 44))).grown hg4 (by simp; omega) (fun j hj => own_base HRow3.out.1 j hj))
            obtain ⟨A5, c5, hv4⟩ := row4.out.form
            rw [List.length_append, List.length_singleton] at hv4
            subst hv4
            clear hD4 hr4 hg4
            rcases hcr with ⟨t2, rfl⟩ | ⟨t2, rfl⟩
            all_goals
              go_wp2
              go_roundw
              case rel => exact ⟨_, _, (a :: (m : Int) :: zs).drop (2 + m), L ++ [⟨a, A3, m, c3, zs.take m⟩], by rw [hdl.out], Lib.hid ⟨by rw [hdl.out]; omega, by omega, by rw [hdl.out]; exact HAr.out⟩, row4.out, Lib.hid ⟨by rw [List.map_append]; exact hCs.out, hL.out.2.1.drop _, by rw [List.length_append, List.length_singleton, hdl.out]; omega, fun s hs => by
                rcases List.mem_append.1 hs with hs | hs
                · exact hL.out.2.2.2 s hs
                · rw [List.mem_singleton] at hs
                  subst hs
                  show m ≤ 1000
                  omega⟩, hb4.out⟩
              case measure => simp [lenOfC]; omega
      · have hok2 : Hid (okC (a :: (m : Int) :: zs) = false) := Lib.hid (hok.out.trans (decide_eq_false hlt))
        have hG := Lib.hid (show GotC (readC (xs.length + 1) xs) false [] from ⟨.inr ⟨hL.out.1.fail (by simp) hok2.out, rfl, rfl⟩, by simp, (fun _ h => by cases h)⟩)
        have g1 : ¬ ((zs.length : Int) + 1 + 1 < 2) := by omega
        have g2 : ((zs.length : Int) + 1 + 1 < 2 + (m : Int)) := by omega
        clear hok hrest hseg hlt
        go_wp2
        go_ret2
        first
          | exact ⟨_, [], false, rfl, CRow.nil _ _ _, hG, HB.out⟩
          | exact ⟨_, [], .inl ⟨rfl, CRow.nil _ _ _, hG, HB.out⟩⟩
end Go.Proofs.Ytnndaolpjjdgiaa

/- XOqM2: XCpG, XOqG, XOsM, XOsA, XOqP, XOqK in one text -/
import Derived.Test.YtniheakafkakhaaCpF
import Derived.Test.YtniheakafkakhaaStepG
import Derived.Test.YtniheakafkakhaaOqM1
import Derived.Test.YtniheakafkakhaaCqA
import Derived.Test.YtniheakafkakhaaObA
import Derived.Test.YtniheakafkakhaaCpB
import Derived.Test.YtniheakafkakhaaCpH
import Derived.Test.YtniheakafkakhaaEq
import Derived.Test.YtniheakafkakhaaBstr
import Derived.Laws.BytesArg
/- peerageref16.Read -/
namespace Go.Proofs.Ytniheakafkakhaa
open Go.RowKit

theorem bytes_cutC {w : World} {B b o n c : Nat} {xs : List Int} (h : Bytes w B (some ⟨b, o, none⟩) n xs) {k : Nat} (hk : k ≤ n) (hc : n ≤ c) : ∃ A', Bytes w B A' (n - k) (xs.drop k) ∧ ((c = k ∧ A' = some ⟨b, o, none⟩) ∨ (¬ c = k ∧ A' = some ⟨b, o + k, none⟩)) := by
  have h2 := h.cut (cap := c) hk hc
  by_cases e : c = k
  · rw [if_pos e] at h2
    exact ⟨_, h2, .inl ⟨e, rfl⟩⟩
  · rw [if_neg e, Option.map_some, Addr.add_lit] at h2
    exact ⟨_, h2, .inr ⟨e, rfl⟩⟩
set_option maxRecDepth 100000 in
set_option maxHeartbeats 12800000 in
theorem rcread_any (A : Option Addr) (n c : Nat) (xs : List Int) (w : World) (h : Bytes w w.heap.size A n xs) (hn : n ≤ 20000) (hc : n ≤ c) (hcm : c ≤ maxLen) :
    Calls Try.prog 29 #[.slice A n c] w fun e w' => ∃ v L q, e = .returned (.tuple #[v, .bool q]) ∧ CRow 68 w' w.heap.size v L ∧ Hid (GotC (readC (xs.length + 1) xs) q L) ∧ Below w.heap.size w w' := by
  have hl := h.1
  have HL := Lib.hid (show xs.length ≤ 20000 by omega)
  have HX := Lib.hid (show byteC xs from h.2.1)
  unfold maxLen at hcm
  obtain rfl := hl
  have HBy := Lib.hid h
  have HCm := Lib.hid (And.intro hc hcm)
  clear h hn hc hcm
  go_enter Try.func29, Try.ntmps29
  go_wp2_with fail
  go_loopw [0, 4, 5] (fun bv ov _ wr => ∃ (A' : Option Addr) (c' : Nat) (ys : List Int) (L : List Cp), bv = .slice A' ys.length c' ∧ Hid (ys.length ≤ c' ∧ c' ≤ 9223372036854775807 ∧ Bytes w w.heap.size A' ys.length ys) ∧ CRow 68 wr w.heap.size ov L ∧ Hid (ComeC xs (L.map cpK) ys ∧ byteC ys ∧ 2 * L.length + ys.length ≤ xs.length ∧ ∀ s ∈ L, s.n ≤ 1000) ∧ Below w.heap.size w wr) (fun bv _ _ _ => lenOfC bv)
  case atStart => exact ⟨A, c, xs, [], rfl, Lib.hid ⟨HCm.out.1, HCm.out.2, HBy.out⟩, CRow.nil _ _ _, Lib.hid ⟨ComeC.start xs, HX.out, by simp, (fun _ h => by cases h)⟩, bl_refl _⟩
  case round =>
    obtain ⟨A', c', ys, L, rfl, hy, hrow, hL, hb⟩ := hrel
    obtain ⟨A0, c0, rfl⟩ := hrow.form
    have hrg := hL.out.2.1
    have hLl := hL.out.2.2.1
    have hxl := HL.out
    have HRow := Lib.hid hrow
    have HB := Lib.hid hb
    clear hrow hb
    match ys, hy, hL, hrg, hLl with
    | [], hy, hL, hrg, hLl =>
      have hG := Lib.hid (show GotC (readC (xs.length + 1) xs) true L from ⟨.inl ⟨hL.out.1.done, rfl⟩, by omega, hL.out.2.2.2⟩)
      clear hrg
      go_wp2
      go_ret2
      exact ⟨_, L, true, rfl, HRow.out, hG, HB.out⟩
    | [a], hy, hL, hrg, hLl =>
      have hG := Lib.hid (show GotC (readC (xs.length + 1) xs) false [] from ⟨.inr ⟨hL.out.1.fail (by simp) (by unfold okC; exact decide_eq_false (by simp)), rfl, rfl⟩, by simp, (fun _ h => by cases h)⟩)
      clear hrg hLl
      go_wp2
      go_ret2
      exact ⟨_, [], false, rfl, CRow.nil _ _ _, hG, HB.out⟩
    | a :: b :: zs, hy, hL, hrg, hLl =>
      have ha := hrg a (by simp)
      have hbb := hrg b (by simp)
      have HZ := Lib.hid (show byteC zs from fun y hy => hrg y (by simp [hy]))
      simp only [List.length_cons] at hLl
      obtain ⟨m, rfl⟩ : ∃ m : Nat, b = (m : Int) := ⟨b.toNat, by omega⟩
      have hok : Hid (okC (a :: (m : Int) :: zs) = decide (m ≤ zs.length)) := Lib.hid (by
        unfold okC
        rw [show nth (a :: (m : Int) :: zs) 1 = (m : Int) from rfl, Int.toNat_natCast, Bool.eq_iff_iff, decide_eq_true_iff, decide_eq_true_iff]
        simp only [List.length_cons]
        omega)
      have hrest : Hid (restC (a :: (m : Int) :: zs) = (a :: (m : Int) :: zs).drop (2 + m)) := Lib.hid rfl
      have hseg : Hid (segC (a :: (m : Int) :: zs) = (a, zs.take m)) := Lib.hid (by
        unfold segC
        rw [show nth (a :: (m : Int) :: zs) 1 = (m : Int) from rfl, Int.toNat_natCast]
        rfl)
      obtain ⟨bb, oo, rfl, hbB, e0, _, _⟩ := hy.out.2.2.at_ (k := 0) (by simp)
      obtain ⟨bb2, oo2, hA2, _, e1, _, _⟩ := hy.out.2.2.at_ (k := 1) (by simp)
      cases hA2
      have e0 : w.cell? ⟨bb, oo, none⟩ = some (.int .u8 a) := e0
      have e1 : w.cell? ⟨bb, oo + 1, none⟩ = some (.int .u8 (m : Int)) := e1
      have f0 := (HB.out.cell (p := ⟨bb, oo, none⟩) hbB).trans e0
      have f1 := (HB.out.cell (p := ⟨bb, oo + 1, none⟩) hbB).trans e1
      have hbs := HB.out.size
      have hbw : bb < wr.heap.size := by omega
      simp only [List.length_cons] at *
      clear hrg e0 e1
      by_cases hlt : m ≤ zs.length
      · have hok2 : Hid (okC (a :: (m : Int) :: zs) = true) := Lib.hid (hok.out.trans (decide_eq_true hlt))
        have hCs := Lib.hid (hL.out.1.step (by simp) hok2.out)
        rw [hrest.out, hseg.out] at hCs
        obtain ⟨Ad, hAd, hcd⟩ := bytes_cutC (k := 2) hy.out.2.2 (by omega) hy.out.1
        obtain ⟨Ar, hAr, hcr⟩ := bytes_cutC (k := 2 + m) hy.out.2.2 (by omega) hy.out.1
        have hc1 := hy.out.1
        have hc2 := hy.out.2.1
        have hAd2 := hAd.front (k := m) (by omega)
        have hdt : ((a :: (m : Int) :: zs).drop 2).take m = zs.take m := rfl
        rw [hdt] at hAd2
        have HAd := Lib.hid hAd2
        have HAr := Lib.hid hAr
        have g1 : ¬ ((zs.length : Int) + 1 + 1 < 2) := by omega
        have g2 : ¬ ((zs.length : Int) + 1 + 1 < 2 + (m : Int)) := by omega
        clear hok hrest hseg hAd hAr hAd2 hdt
        have hw1 : IntKind.i64.wrap (2 + (m : Int)) = 2 + (m : Int) := by rw [IntKind.wrap_i64]; omega
        have s1 : (0 : Int) ≤ 2 + (m : Int) := by omega
        have s2 : 2 + (m : Int) ≤ (c' : Int) := by omega
        have s3 : (2 : Int) ≤ 2 + (m : Int) := by omega
        have s4 : (2 + (m : Int)).toNat = 2 + m := by omega
        have s5 : 2 + m ≤ c' := by omega
        have s6 : 2 + m ≤ zs.length + 1 + 1 := by omega
        have s7 : 2 + (m : Int) ≤ (zs.length : Int) + 1 + 1 := by omega
        have hlen := Lib.hid (show m = (zs.take m).length by rw [List.length_take]; omega)
        have hdl := Lib.hid (show ((a :: (m : Int) :: zs).drop (2 + m)).length = zs.length + 1 + 1 - (2 + m) by rw [List.length_drop]; rfl)
        have hwa := Lib.hid (show IntKind.i64.wrap a = a by rw [IntKind.wrap_i64]; omega)
        clear hlt
        rcases hcd with ⟨t1, rfl⟩ | ⟨t1, rfl⟩
        · subst t1
          have s8 : 2 + (m : Int) ≤ 2 := by omega
          have hm0 : m = 0 := by omega
          have hCs0 := hCs.out
          rw [show zs.take m = [] by rw [hm0]; rfl] at hCs0
          have hCs0 := Lib.hid hCs0
          clear hm0
          go_wp2_with fail
          go_region_law ((first
            | (refine step_append_at _ rfl _ _ rfl sl_bytes wr.heap.size _ 0 [] rfl (Own.row (cs := []) (show Own (wr.alloc (.cells #[] 5)).drew wr.heap.size 5 #[] from (Own.new wr 5 #[]).drew) rfl (Nat.le_refl _) (by unfold maxLen; omega)) w.heap.size (some ⟨bb, oo, none⟩) 0 0 [] rfl rfl (.inl rfl) (fun _ h => by cases h) (by unfold maxLen; omega) (by omega) (by simp) ?_; intro v3 w3 hr3 hg3 _; obtain ⟨A3, c3, rfl⟩ := own_form hr3; have hb3 : Below wr.heap.size wr w3 := (show Below wr.heap.size wr (wr.alloc (.cells #[] 5)).drew from bl_drewN (bl_alloc (bl_refl wr) _) 1).grown hg3 (by simp) (fun k hk => by cases hk; exact Nat.le_refl _); have f0x := (hb3.cell (p := ⟨bb, oo, none⟩) hbw).trans f0; have HB3 := Lib.hid hb3; have HR3 := Lib.hid hr3; have hs3 := hb3.size; have HRow3 := Lib.hid (HRow.out.below hb3); clear hr3 hg3 hb3)
            | (refine step_append_at _ rfl _ _ rfl sl_rcps w.heap.size _ L.length (cellsP L) rfl (own_belowG HRow3.out.1 (bl_alloc (bl_refl w3) _)) (w3.heap.size + 1) (some ⟨w3.heap.size, 0, none⟩) 1 1 [.int .i64 (IntKind.i64.wrap a), .slice A3 0 c3] rfl rfl (Shows.of_owned (xs := [.int .i64 (IntKind.i64.wrap a), .slice A3 0 c3]) (Own.new w3 68 #[.int .i64 (IntKind.i64.wrap a), .slice A3 0 c3]) (Nat.lt_succ_self _)) (oneP _ _ _ _) (by unfold maxLen; omega) (by omega) (by simp; omega) ?_; intro v4 w4 hr4 hg4 _)))
          all_goals
            rw [hwa.out] at hr4
            have hD4 : CD (w3.alloc (.cells #[.int .i64 (IntKind.i64.wrap a), .slice A3 0 c3] 68)) w.heap.size ⟨a, A3, 0, c3, []⟩ := CD.lift (base := wr.heap.size) ⟨own_belowG HR3.out (bl_alloc (bl_refl w3) _), rfl, fun x hx => by cases hx⟩ hbs
            have row4 := Lib.hid ((HRow3.out.below (bl_alloc (bl_refl w3) (.cells #[.int .i64 (IntKind.i64.wrap a), .slice A3 0 c3] 68))).push cp_types.2.1 (q := ⟨a, A3, 0, c3, []⟩) hD4 hr4 hg4)
            have hb4 := Lib.hid ((bl_trans HB.out (HB3.out.alloc HB3.out.size (.cells #[.int .i64 (IntKind.i64.wrap a), .slice A3 0 c3] 68))).grown hg4 (by simp; omega) (fun j hj => own_base HRow3.out.1 j hj))
            obtain ⟨A5, c5, hv4⟩ := row4.out.form
            rw [List.length_append, List.length_singleton] at hv4
            subst hv4
            clear hD4 hr4 hg4
            have hm0 : m = 0 := by omega
            have hz0 : zs = [] := List.eq_nil_of_length_eq_zero (by omega)
            have hAr0 : Ar = some ⟨bb, oo, none⟩ := by
              rcases hcr with ⟨_, h⟩ | ⟨t2, _⟩
              · exact h
              · exact absurd (by omega) t2
            clear hcr
            have HR4 := Lib.hid (show Bytes w w.heap.size (some ⟨bb, oo, none⟩) 0 [] from Bytes.nil _ _ _)
            have hCs1 := hCs0.out
            rw [hm0, hz0] at hCs1
            have hCs1 := Lib.hid (show ComeC xs (L.map cpK ++ [(a, [])]) [] from hCs1)
            have hr4' := row4.out
            have hb4' := hb4.out
            have hL4 := hL.out.2.2.2
            have hl4 : 2 * (L.length + 1) ≤ xs.length := by omega
            clear s1 s2 s3 s4 s5 s6 s7 s8 hw1 g1 g2 hbb hc1 hc2 HAr HAd hlen hdl hCs hCs0 HL hxl hLl hy
            subst hm0 hz0
            go_wp2
            go_roundw
            case rel => exact ⟨_, _, [], L ++ [⟨a, A3, 0, c3, []⟩], rfl, Lib.hid ⟨Nat.zero_le _, by omega, HR4.out⟩, hr4', Lib.hid ⟨by rw [List.map_append]; exact hCs1.out, (fun _ h => by cases h), by rw [List.length_append, List.length_singleton]; simp; omega, fun s hs => by
              rcases List.mem_append.1 hs with hs | hs
              · exact hL4 s hs
              · rw [List.mem_singleton] at hs
                subst hs
                show 0 ≤ 1000
                omega⟩, hb4'⟩
            case measure => simp [lenOfC]
        · go_wp2_with fail
          go_region_law ((first
            | (refine step_append_at _ rfl _ _ rfl sl_bytes wr.heap.size _ 0 [] rfl (Own.row (cs := []) (show Own (wr.alloc (.cells #[] 5)).drew wr.heap.size 5 #[] from (Own.new wr 5 #[]).drew) rfl (Nat.le_refl _) (by unfold maxLen; omega)) w.heap.size (some ⟨bb, oo + 2, none⟩) m (c' - 2) ((zs.take m).map (Value.int .u8)) rfl (by rw [List.length_map, ← hlen.out, Nat.mul_one]) ((HAd.out.below (show Below w.heap.size w (wr.alloc (.cells #[] 5)).drew from bl_drewN (HB.out.alloc HB.out.size _) 1)).2.2) (one8 _) (by unfold maxLen; omega) (by omega) (by simp) ?_; intro v3 w3 hr3 hg3 _; rw [Nat.zero_add, List.nil_append] at hr3; obtain ⟨A3, c3, rfl⟩ := own_form hr3; have hb3 : Below wr.heap.size wr w3 := (show Below wr.heap.size wr (wr.alloc (.cells #[] 5)).drew from bl_drewN (bl_alloc (bl_refl wr) _) 1).grown hg3 (by simp) (fun k hk => by cases hk; exact Nat.le_refl _); have f0x := (hb3.cell (p := ⟨bb, oo, none⟩) hbw).trans f0; have HB3 := Lib.hid hb3; have HR3 := Lib.hid hr3; have hs3 := hb3.size; have HRow3 := Lib.hid (HRow.out.below hb3); clear hr3 hg3 hb3)
            | (refine step_append_at _ rfl _ _ rfl sl_rcps w.heap.size _ L.length (cellsP L) rfl (own_belowG HRow3.out.1 (bl_alloc (bl_refl w3) _)) (w3.heap.size + 1) (some ⟨w3.heap.size, 0, none⟩) 1 1 [.int .i64 (IntKind.i64.wrap a), .slice A3 m c3] rfl rfl (Shows.of_owned (xs := [.int .i64 (IntKind.i64.wrap a), .slice A3 m c3]) (Own.new w3 68 #[.int .i64 (IntKind.i64.wrap a), .slice A3 m c3]) (Nat.lt_succ_self _)) (oneP _ _ _ _) (by unfold maxLen; omega) (by omega) (by simp; omega) ?_; intro v4 w4 hr4 hg4 _)))
          all_goals
            rw [hwa.out] at hr4
            have hD4 : CD (w3.alloc (.cells #[.int .i64 (IntKind.i64.wrap a), .slice A3 m c3] 68)) w.heap.size ⟨a, A3, m, c3, zs.take m⟩ := CD.lift (base := wr.heap.size) ⟨own_belowG HR3.out (bl_alloc (bl_refl w3) _), hlen.out, fun x hx => HZ.out x (List.mem_of_mem_take hx)⟩ hbs
            have row4 := Lib.hid ((HRow3.out.below (bl_alloc (bl_refl w3) (.cells #[.int .i64 (IntKind.i64.wrap a), .slice A3 m c3] 68))).push cp_types.2.1 (q := ⟨a, A3, m, c3, zs.take m⟩) hD4 hr4 hg4)
            have hb4 := Lib.hid ((bl_trans HB.out (HB3.out.alloc HB3.out.size (.cells #[.int .i64 (IntKind.i64.wrap a), .slice A3 m c3] 68))).grown hg4 (by simp; omega) (fun j hj => own_base HRow3.out.1 j hj))
            obtain ⟨A5, c5, hv4⟩ := row4.out.form
            rw [List.length_append, List.length_singleton] at hv4
            subst hv4
            clear hD4 hr4 hg4
            rcases hcr with ⟨t2, rfl⟩ | ⟨t2, rfl⟩
            all_goals
              go_wp2
              go_roundw
              case rel => exact ⟨_, _, (a :: (m : Int) :: zs).drop (2 + m), L ++ [⟨a, A3, m, c3, zs.take m⟩], by rw [hdl.out], Lib.hid ⟨by rw [hdl.out]; omega, by omega, by rw [hdl.out]; exact HAr.out⟩, row4.out, Lib.hid ⟨by rw [List.map_append]; exact hCs.out, hL.out.2.1.drop _, by rw [List.length_append, List.length_singleton, hdl.out]; omega, fun s hs => by
                rcases List.mem_append.1 hs with hs | hs
                · exact hL.out.2.2.2 s hs
                · rw [List.mem_singleton] at hs
                  subst hs
                  show m ≤ 1000
                  omega⟩, hb4.out⟩
              case measure => simp [lenOfC]; omega
      · have hok2 : Hid (okC (a :: (m : Int) :: zs) = false) := Lib.hid (hok.out.trans (decide_eq_false hlt))
        have hG := Lib.hid (show GotC (readC (xs.length + 1) xs) false [] from ⟨.inr ⟨hL.out.1.fail (by simp) hok2.out, rfl, rfl⟩, by simp, (fun _ h => by cases h)⟩)
        have g1 : ¬ ((zs.length : Int) + 1 + 1 < 2) := by omega
        have g2 : ((zs.length : Int) + 1 + 1 < 2 + (m : Int)) := by omega
        clear hok hrest hseg hlt
        go_wp2
        go_ret2
        first
          | exact ⟨_, [], false, rfl, CRow.nil _ _ _, hG, HB.out⟩
          | exact ⟨_, [], .inl ⟨rfl, CRow.nil _ _ _, hG, HB.out⟩⟩
end Go.Proofs.Ytniheakafkakhaa

/- peerageref17.Parse -/
namespace Go.Proofs.Ytniheakafkakhaa
open Go.RowKit Go.Sort
set_option maxRecDepth 100000 in
theorem big_bl (A : Option Addr) (n c : Nat) (xs : List Int) (W : World) (B : Nat) (hx : Bytes W B A n xs) (hn : n ≤ 4) : Calls Try.prog 27 #[.slice A n c] W fun e w' => e = .returned (.int .u32 (big xs)) ∧ Below W.heap.size W w' :=
  (rbig_any A n c xs W B hx hn).mono (fun e w' h => ⟨h.1, by rw [← h.2]; exact bl_refl _⟩)
def holdBO (q : Int) : Bool := q == 0 || (decide (3 ≤ q) && decide (q ≤ 65535))
set_option maxRecDepth 100000 in
set_option maxHeartbeats 1600000 in
theorem rhold17_o (q : Int) (w : World) : Calls Try.prog 28 #[.int .i64 q] w fun e w' => e = .returned (.bool (holdBO q)) ∧ w = w' := by
  have HK : Hid (holdBO q = (q == 0 || (decide (3 ≤ q) && decide (q ≤ 65535)))) := Lib.hid rfl
  by_cases h1 : q = 0
  · have hv := Lib.hid (show holdBO q = true by rw [HK.out, h1]; rfl)
    subst h1
    clear HK
    go_enter Try.func28, Try.ntmps28
    go_wp2
    go_ret
    exact ⟨by rw [hv.out]; first | done | rfl, rfl⟩
  · have e1 : (q == 0) = false := by simpa using h1
    by_cases h2 : 3 ≤ q
    · have d2 : decide (3 ≤ q) = true := decide_eq_true h2
      have hv := Lib.hid (show holdBO q = decide (q ≤ 65535) by rw [HK.out, e1, d2]; rfl)
      clear HK h1 h2
      go_enter Try.func28, Try.ntmps28
      go_wp2
      go_ret
      exact ⟨by rw [hv.out]; first | done | rfl, rfl⟩
    · have d2 : decide (3 ≤ q) = false := decide_eq_false h2
      have hv := Lib.hid (show holdBO q = false by rw [HK.out, e1, d2]; rfl)
      clear HK h1 h2
      go_enter Try.func28, Try.ntmps28
      go_wp2
      go_ret
      exact ⟨by rw [hv.out]; first | done | rfl, rfl⟩
/-- What the region leaves that makes the OPEN. -/
def RGx (X : World) (a hd id : Int) (v : Value) (wx : World) : Prop := ∃ g, v = .pointer (some ⟨g, 0, none⟩) ∧ X.heap.size ≤ g ∧ Own wx g 34 #[.int .u32 a, .int .i64 hd, .int .u32 id, .slice none 0 0] ∧ Below X.heap.size X wx
/-- How far the reference's loop has come, in memory. -/
def RPI (bs : List Int) (w : World) (g : Nat) (a hd id : Int) (q : Nat) (wr : World) : Prop := ∃ A n c L, Own wr g 34 #[.int .u32 a, .int .i64 hd, .int .u32 id, .slice A n c] ∧ Own wr w.heap.size 34 #[.int .u32 0, .int .i64 0, .int .u32 0, .slice none 0 0] ∧ Own wr (w.heap.size + 1) 29 #[.int .i64 0, .int .i64 0, .int .i64 0, .slice none 0 0, .int .i64 0] ∧ CRow 68 wr (g + 1) (.slice A n c) L ∧ Below w.heap.size w wr ∧ Hid (RCome bs q (L.map cpK))
theorem RPI.next {bs : List Int} {w : World} {g : Nat} {a hd id : Int} {q m : Nat} {A : Option Addr} {n c : Nat} {L M : List Cp} {wr : World} (ho : Own wr g 34 #[.int .u32 a, .int .i64 hd, .int .u32 id, .slice A n c]) (oR : Own wr w.heap.size 34 #[.int .u32 0, .int .i64 0, .int .u32 0, .slice none 0 0]) (oV : Own wr (w.heap.size + 1) 29 #[.int .i64 0, .int .i64 0, .int .i64 0, .slice none 0 0, .int .i64 0]) (hC : CRow 68 wr (g + 1) (.slice A n c) (L ++ M)) (hb : Below w.heap.size w wr) (hR : RCome bs (q + 2 + m) (L.map cpK ++ M.map cpK)) : RPI bs w g a hd id (q + 2 + m) wr :=
  ⟨A, n, c, L ++ M, ho, oR, oV, hC, hb, Lib.hid (by rw [List.map_append]; exact hR)⟩

set_option maxRecDepth 100000 in
set_option maxHeartbeats 12800000 in
theorem ropen_any (A : Option Addr) (n c : Nat) (bs : List Int) (w : World) (hx : Bytes w w.heap.size A n bs) (hc : n ≤ c ∧ c ≤ 9223372036854775807) (hl : bs.length ≤ 700) :
    Calls Try.prog 8 #[.slice A n c] w fun e w' => OPR bs w e w' := by
  obtain ⟨X, hX, oR, oV, hb, hXs⟩ := two_boxesN w #[.int .u32 0, .int .i64 0, .int .u32 0, .slice none 0 0] #[.int .i64 0, .int .i64 0, .int .i64 0, .slice none 0 0, .int .i64 0] 34 29
  obtain rfl := hx.1
  have HXS := Lib.hid hXs
  have HX0 := Lib.hid hx
  have HBX := Lib.hid (hx.below hb)
  clear hXs hx
  go_enter Try.func8, Try.ntmps8
  go_upto_region 1 with fail
  rw [← hX]
  clear hX
  by_cases h10 : bs.length < 10
  · have hsp : oParse bs = .inl (0, (bs.length : Int), []) := by unfold oParse; rw [if_pos h10]
    have d10 : (bs.length : Int) < 10 := by omega
    have HSP := Lib.hid hsp
    clear hsp h10 hl hc
    go_wp2_with fail
    refine (rbad_any 0 (bs.length : Int) _).mono ?_
    rintro e w9 ⟨rfl, hb9⟩
    have o1 := oR.step hb9
    have o2 := oV.step hb9
    have hb5 := bl_trans hb hb9
    clear oR oV hb hb9
    have P1 := sets4P_own (a := .int .u32 0) (b := .int .i64 0) (c := .int .u32 0) (d := .slice none 0 0) o1
    have P2 := sets4P_far (g := w.heap.size) (a := .int .u32 0) (b := .int .i64 0) (c := .int .u32 0) (d := .slice none 0 0) o2 (by omega)
    have P4 := sets4P_below (g := w.heap.size) (a := .int .u32 0) (b := .int .i64 0) (c := .int .u32 0) (d := .slice none 0 0) hb5 (Nat.le_refl _)
    have Q1 := Lib.hid (sets5P_far (g := w.heap.size + 1) (a := .int .i64 4) (b := .int .i64 2) (c := .int .i64 0) (d := .slice none 0 0) (e := .int .i64 (bs.length : Int)) P1 (by omega))
    have Q2 := Lib.hid (sets5P_own (a := .int .i64 4) (b := .int .i64 2) (c := .int .i64 0) (d := .slice none 0 0) (e := .int .i64 (bs.length : Int)) P2)
    have Q4 := Lib.hid (sets5P_below (g := w.heap.size + 1) (a := .int .i64 4) (b := .int .i64 2) (c := .int .i64 0) (d := .slice none 0 0) (e := .int .i64 (bs.length : Int)) P4 (by omega))
    obtain ⟨e0, e1, e2, e3⟩ := own_end o1
    obtain ⟨d0, d1, d2, d3, d4⟩ := own_5 o2
    have f0 := o1.frozen 0
    have f1 := o1.frozen 1
    have f2 := o1.frozen 2
    have f3 := o1.frozen 3
    have k0 := o2.frozen 0
    have k1 := o2.frozen 1
    have k2 := o2.frozen 2
    have k3 := o2.frozen 3
    have k4 := o2.frozen 4
    clear P1 P2 P4 
    clear o1 o2 hb5
    dsimp only
    repeat (first | go_values | go_skip | go_guarded | go_step | go_upon)
    refine bodyPost_ret (results_twoN (p := 2) (q := 3) (fn := Try.f8) rfl _ _ w.heap.size 34 _ _ (w.heap.size + 1) 29 _ _ rfl Q1.out ro_descP rfl (ro_infoP _ _ _ _) rfl Q2.out ve_descN rfl (ve_infoN _ _ _ _ _)) rfl (.inl ⟨0, (bs.length : Int), [], none, 0, 0, HSP.out, rfl, Bytes.nil _ _ _, Q4.out⟩)
  · have hEQ := Lib.hid (oParse_at (bs := bs) (by omega))
    have d10 : ¬ ((bs.length : Int) < 10) := by omega
    obtain ⟨bb, oo, rfl, hbb, e90, _, _⟩ := HBX.out.at_ (k := 0) (by omega)
    obtain ⟨bb2, oo2, hA2, _, e99, r90, r91⟩ := HBX.out.at_ (k := 9) (by omega)
    cases hA2
    have e90 : X.cell? ⟨bb, oo, none⟩ = some (.int .u8 (nth bs 0)) := e90
    by_cases hv : nth bs 0 = 4
    rotate_left
    · have q4 : (nth bs 0 == 4) = false := by simpa using hv
      have HSP := Lib.hid (show oParse bs = .inl (1, 0, [0, 4]) by rw [hEQ.out, if_neg hv])
      have lt1 := oR.lt
      have lt2 := oV.lt
      have HR := Lib.hid oR
      have HV := Lib.hid oV
      have HBB := Lib.hid hb
      go_upto_region 4 with fail
      clear oR oV hb hv hEQ e99 e90 q4
      iterate 10 (first | go_values | go_skip | go_guarded | go_step | go_upon | go_back)
      have hba := bl_alloc (bl_refl X) (.cells #[.int .u8 0, .int .u8 4] 5)
      have oA := Own.new X 5 #[.int .u8 0, .int .u8 4]
      have o1 := HR.out.step hba
      have o2 := HV.out.step hba
      have hb5 := bl_trans HBB.out hba
      have hBy := Bytes.of_owned (xs := [0, 4]) oA (by decide) oA.lt
      clear hba oA lt1 lt2 HR HV HBB
      generalize (X.alloc (.cells #[.int .u8 0, .int .u8 4] 5)) = Y at *
      have P1 := sets4P_own (a := .int .u32 0) (b := .int .i64 0) (c := .int .u32 0) (d := .slice none 0 0) o1
      have P2 := sets4P_far (g := w.heap.size) (a := .int .u32 0) (b := .int .i64 0) (c := .int .u32 0) (d := .slice none 0 0) o2 (by omega)
      have P4 := sets4P_below (g := w.heap.size) (a := .int .u32 0) (b := .int .i64 0) (c := .int .u32 0) (d := .slice none 0 0) hb5 (Nat.le_refl _)
      have Q1 := Lib.hid (sets5P_far (g := w.heap.size + 1) (a := .int .i64 4) (b := .int .i64 2) (c := .int .i64 1) (d := .slice (some ⟨X.heap.size, 0, none⟩) 2 2) (e := .int .i64 0) P1 (by omega))
      have Q2 := Lib.hid (sets5P_own (a := .int .i64 4) (b := .int .i64 2) (c := .int .i64 1) (d := .slice (some ⟨X.heap.size, 0, none⟩) 2 2) (e := .int .i64 0) P2)
      have Q4 := Lib.hid (sets5P_below (g := w.heap.size + 1) (a := .int .i64 4) (b := .int .i64 2) (c := .int .i64 1) (d := .slice (some ⟨X.heap.size, 0, none⟩) 2 2) (e := .int .i64 0) P4 (by omega))
      have P6 := sets4P_bytes (a := .int .u32 0) (b := .int .i64 0) (c := .int .u32 0) (d := .slice none 0 0) hBy o1 (by intro i z; rcases i with _ | _ | _ | _ | i <;> simp) (by simp) (by simp) (by simp)
      have Q6 := Lib.hid ((sets5P_bytes (a := .int .i64 4) (b := .int .i64 2) (c := .int .i64 1) (d := .slice (some ⟨X.heap.size, 0, none⟩) 2 2) (e := .int .i64 0) P6 P2 (by intro i z; rcases i with _ | _ | _ | _ | _ | i <;> simp) (by simp) (by simp) (by simp) (by simp)).more (B' := (sets5P (sets4P Y w.heap.size (.int .u32 0) (.int .i64 0) (.int .u32 0) (.slice none 0 0)) (w.heap.size + 1) (.int .i64 4) (.int .i64 2) (.int .i64 1) (.slice (some ⟨X.heap.size, 0, none⟩) 2 2) (.int .i64 0)).heap.size) (by rw [sets5P_size, sets4P_size]; exact Nat.le_refl _))
      obtain ⟨e0, e1, e2, e3⟩ := own_end o1
      obtain ⟨d0, d1, d2, d3, d4⟩ := own_5 o2
      have f0 := o1.frozen 0
      have f1 := o1.frozen 1
      have f2 := o1.frozen 2
      have f3 := o1.frozen 3
      have k0 := o2.frozen 0
      have k1 := o2.frozen 1
      have k2 := o2.frozen 2
      have k3 := o2.frozen 3
      have k4 := o2.frozen 4
      clear P6 P1 P2 P4 
      clear o1 o2 hb5 hBy
      go_wp2
      refine bodyPost_ret (results_twoN (p := 2) (q := 3) (fn := Try.f8) rfl _ _ w.heap.size 34 _ _ (w.heap.size + 1) 29 _ _ rfl Q1.out ro_descP rfl (ro_infoP _ _ _ _) rfl Q2.out ve_descN rfl (ve_infoN _ _ _ _ _)) rfl (.inl ⟨1, 0, [0, 4], some ⟨X.heap.size, 0, none⟩, 2, 2, HSP.out, rfl, Q6.out, Q4.out⟩)
    · have q4 : (nth bs 0 == 4) = true := by simpa using hv
      have hEQ2 := hEQ.out
      rw [if_pos hv] at hEQ2
      have hB1 := Lib.hid (((HBX.out.cut (k := 1) (by omega) hc.1).front (k := 2) (by omega)))
      have hB3 := Lib.hid (((HBX.out.cut (k := 3) (by omega) hc.1).front (k := 2) (by omega)))
      have hB5 := Lib.hid (((HBX.out.cut (k := 5) (by omega) hc.1).front (k := 4) (by omega)))
      have n1 : ¬ c = 1 := by omega
      have n3 : ¬ c = 3 := by omega
      have n5 : ¬ c = 5 := by omega
      rw [if_neg n1] at hB1
      rw [if_neg n3] at hB3
      rw [if_neg n5] at hB5
      have r1 := big2_rng (xs := bs.drop 1) (fun x hx => HBX.out.2.1 x (List.mem_of_mem_drop hx))
      have r3 := big2_rng (xs := bs.drop 3) (fun x hx => HBX.out.2.1 x (List.mem_of_mem_drop hx))
      have c1 := Lib.hid (fun (W : World) (k : Below X.heap.size X W) => big_bl (some ⟨bb, oo + 1, none⟩) 2 (c - 1) _ W w.heap.size (hB1.out.below (k.mono (by have := HXS.out; omega))) (by omega))
      have c3 := Lib.hid (fun (W : World) (k : Below X.heap.size X W) => big_bl (some ⟨bb, oo + 3, none⟩) 2 (c - 3) _ W w.heap.size (hB3.out.below (k.mono (by have := HXS.out; omega))) (by omega))
      have c5 := Lib.hid (fun (W : World) (k : Below X.heap.size X W) => big_bl (some ⟨bb, oo + 5, none⟩) 4 (c - 5) _ W w.heap.size (hB5.out.below (k.mono (by have := HXS.out; omega))) (by omega))
      clear hEQ hB1 hB3 hB5
      generalize big ((bs.drop 1).take 2) = a at *
      generalize big ((bs.drop 3).take 2) = hd at *
      generalize big ((bs.drop 5).take 4) = id at *
      have HEQ := Lib.hid hEQ2
      have whd : IntKind.i64.wrap hd = hd := IntWalk.i64_in _ (by omega)
      have l3 : (3 : Int) ≤ (c : Int) := by omega
      have l5 : (5 : Int) ≤ (c : Int) := by omega
      have l9 : (9 : Int) ≤ (c : Int) := by omega
      have m3 : (3 : Nat) ≤ c := by omega
      have m5 : (5 : Nat) ≤ c := by omega
      have m9 : (9 : Nat) ≤ c := by omega
      clear hEQ2
      go_upto_region 5 with fail
      go_cut [4] (fun v4 wx => RGx X a hd id v4 wx)
      case first =>
        refine wp_region_held_drew (S := (fun _ => True)) (by kernel_rfl) trivial (fun hHeld => ?_)
        have bb0 : Below X.heap.size X X.drew := bl_drewN (bl_refl X) 1
        generalize X.drew = Y0 at *
        refine wpAnyH_take (i := 0) (v := ?_) rfl (by kernel_rfl) (by kernel_rfl) (by kernel_rfl) (fun _ _ _ h => h) (Or.inl ⟨by rfl, ?_⟩) (by assumption) ?_
        rotate_left
        · (intro W hSw; skip; go_simp; try with_reducible rfl)
        simp only [Act.put, List.getElem_toArray, List.getElem_cons_zero, List.setIfInBounds_toArray, List.set_cons_zero, List.set_cons_succ]
        refine wpAnyH_take (i := 1) (v := ?_) rfl (by kernel_rfl) (by kernel_rfl) (by kernel_rfl) (fun _ _ _ h => h) (Or.inl ⟨by rfl, ?_⟩) (by assumption) ?_
        rotate_left
        · (intro W hSw; skip; go_simp; try with_reducible rfl)
        simp only [Act.put, List.getElem_toArray, List.getElem_cons_zero, List.getElem_cons_succ, List.setIfInBounds_toArray, List.set_cons_zero, List.set_cons_succ]
        refine wpAnyH_take (i := 3) (v := ?_) rfl (by kernel_rfl) (by kernel_rfl) (by kernel_rfl) (fun _ _ _ h => h) (Or.inl ⟨by rfl, ?_⟩) (by assumption) ?_
        rotate_left
        · (intro W hSw; skip; go_simp; try with_reducible rfl)
        simp only [Act.put, List.getElem_toArray, List.getElem_cons_zero, List.getElem_cons_succ, List.setIfInBounds_toArray, List.set_cons_zero, List.set_cons_succ]
        refine wpAnyH_take (i := 4) (v := ?_) rfl (by kernel_rfl) (by kernel_rfl) (by kernel_rfl) (fun _ _ _ h => h) (Or.inl ⟨by rfl, ?_⟩) (by assumption) ?_
        rotate_left
        · (intro W hSw; skip; go_simp; try with_reducible rfl)
        simp only [Act.put, List.getElem_toArray, List.getElem_cons_zero, List.getElem_cons_succ, List.setIfInBounds_toArray, List.set_cons_zero, List.set_cons_succ]
        refine wpAnyH_take (i := 7) (v := ?_) rfl (by kernel_rfl) (by kernel_rfl) (by kernel_rfl) (fun _ _ _ h => h) (Or.inl ⟨by rfl, ?_⟩) (by assumption) ?_
        rotate_left
        · (intro W hSw; skip; go_simp; try with_reducible rfl)
        simp only [Act.put, List.getElem_toArray, List.getElem_cons_zero, List.getElem_cons_succ, List.setIfInBounds_toArray, List.set_cons_zero, List.set_cons_succ]
        refine wpAnyH_take (i := 8) (v := ?_) rfl (by kernel_rfl) (by kernel_rfl) (by kernel_rfl) (fun _ _ _ h => h) (Or.inl ⟨by rfl, ?_⟩) (by assumption) ?_
        rotate_left
        · (intro W hSw; skip; go_simp; try with_reducible rfl)
        simp only [Act.put, List.getElem_toArray, List.getElem_cons_zero, List.getElem_cons_succ, List.setIfInBounds_toArray, List.set_cons_zero, List.set_cons_succ]
        refine wpAnyH_ready (rs := [2, 11]) (by kernel_rfl) (by simp) ?_
        refine (AllReadyH.cons rfl (fun K hK => ?_) (AllReadyH.cons rfl (fun K hK => ?_) AllReadyH.nil))
        · go_simp
          go_at_call 27
          refine (c1.out Y0 bb0).mono ?_
          rintro e W1 ⟨rfl, hx1⟩
          have bb1 := bl_trans bb0 hx1
          refine hK.out _ _ trivial (fun hHeld2 => ?_)
          clear hK K hHeld
          have hHeld := hHeld2
          clear hHeld2
          try simp only [Act.put, List.getElem_toArray, List.getElem_cons_zero, List.getElem_cons_succ, List.setIfInBounds_toArray, List.set_cons_zero, List.set_cons_succ]
          refine wpAnyH_ready (rs := [5, 11]) (by kernel_rfl) (by simp) ?_
          refine (AllReadyH.cons rfl (fun K hK => ?_) (AllReadyH.cons rfl (fun K hK => ?_) AllReadyH.nil))
          · go_simp
            go_at_call 27
            refine (c3.out W1 bb1).mono ?_
            rintro e W2 ⟨rfl, hx2⟩
            have bb2 := bl_trans bb1 hx2
            refine hK.out _ _ trivial (fun hHeld2 => ?_)
            clear hK K hHeld
            have hHeld := hHeld2
            clear hHeld2
            try simp only [Act.put, List.getElem_toArray, List.getElem_cons_zero, List.getElem_cons_succ, List.setIfInBounds_toArray, List.set_cons_zero, List.set_cons_succ]
            refine wpAnyH_take (i := 6) (v := ?_) rfl (by kernel_rfl) (by kernel_rfl) (by kernel_rfl) (fun _ _ _ h => h) (Or.inl ⟨by rfl, ?_⟩) (by assumption) ?_
            rotate_left
            · (intro W hSw; skip; go_simp; try with_reducible rfl)
            simp only [Act.put, List.getElem_toArray, List.getElem_cons_zero, List.getElem_cons_succ, List.setIfInBounds_toArray, List.set_cons_zero, List.set_cons_succ]
            refine wpAnyH_ready (rs := [9, 11]) (by kernel_rfl) (by simp) ?_
            refine (AllReadyH.cons rfl (fun K hK => ?_) (AllReadyH.cons rfl (fun K hK => ?_) AllReadyH.nil))
            · go_simp
              go_at_call 27
              refine (c5.out W2 bb2).mono ?_
              rintro e W3 ⟨rfl, hx3⟩
              have bb3 := bl_trans bb2 hx3
              refine hK.out _ _ trivial (fun hHeld2 => ?_)
              clear hK K hHeld
              have hHeld := hHeld2
              clear hHeld2
              try simp only [Act.put, List.getElem_toArray, List.getElem_cons_zero, List.getElem_cons_succ, List.setIfInBounds_toArray, List.set_cons_zero, List.set_cons_succ]
              refine wpAnyH_take (i := 10) (v := ?_) rfl (by kernel_rfl) (by kernel_rfl) (by kernel_rfl) (fun _ _ _ h => h) (Or.inl ⟨by rfl, ?_⟩) (by assumption) ?_
              rotate_left
              · (intro W hSw; skip; go_simp; try with_reducible rfl)
              simp only [Act.put, List.getElem_toArray, List.getElem_cons_zero, List.getElem_cons_succ, List.setIfInBounds_toArray, List.set_cons_zero, List.set_cons_succ]
              refine wpAnyH_ready (rs := [11]) (by kernel_rfl) (by simp) ?_
              refine (AllReadyH.cons rfl (fun K hK => ?_) AllReadyH.nil)
              go_simp
              have hx4 := bl_alloc (bl_refl W3) (.cells #[.int .u32 0, .int .i64 0, .int .u32 0, .slice none 0 0] 34)
              have b0_4 := Own.new W3 34 #[.int .u32 0, .int .i64 0, .int .u32 0, .slice none 0 0]
              have hlo4 := bb3.size
              have bb4 := bl_trans bb3 hx4
              generalize hgx4 : (W3.alloc (.cells #[.int .u32 0, .int .i64 0, .int .u32 0, .slice none 0 0] 34)) = W4 at *
              clear hgx4
              refine hK.out _ _ trivial (fun hHeld2 => ?_)
              clear hK K hHeld
              have hHeld := hHeld2
              clear hHeld2
              try simp only [Act.put, List.getElem_toArray, List.getElem_cons_zero, List.getElem_cons_succ, List.setIfInBounds_toArray, List.set_cons_zero, List.set_cons_succ]
              refine wpAnyH_ready (rs := [12]) (by kernel_rfl) (by simp) ?_
              refine (AllReadyH.cons rfl (fun K hK => ?_) AllReadyH.nil)
              have z0 := b0_4.frozen 0
              have z1 := b0_4.frozen 1
              have z2 := b0_4.frozen 2
              have z3 := b0_4.frozen 3
              obtain ⟨y0_, y1_, y2_, y3_⟩ := own_end b0_4
              go_simp
              rw [show ((((W4.setCell ⟨W3.heap.size, 0, none⟩ (.int .u32 a)).setCell ⟨W3.heap.size, 1, none⟩ (.int .i64 hd)).setCell ⟨W3.heap.size, 2, none⟩ (.int .u32 id)).setCell ⟨W3.heap.size, 3, none⟩ (.slice none 0 0)) = sets4P W4 (W3.heap.size) (.int .u32 a) (.int .i64 hd) (.int .u32 id) (.slice none 0 0) from rfl]
              have qs0_4 := sets4P_own (a := .int .u32 a) (b := .int .i64 hd) (c := .int .u32 id) (d := .slice none 0 0) b0_4
              have far : ∀ k T cs, Own W4 k T cs → k ≠ W3.heap.size → Own (sets4P W4 (W3.heap.size) (.int .u32 a) (.int .i64 hd) (.int .u32 id) (.slice none 0 0)) k T cs := fun _ _ _ h hk => sets4P_far h hk
              have bbs0_4 := sets4P_below (g := W3.heap.size) (a := .int .u32 a) (b := .int .i64 hd) (c := .int .u32 id) (d := .slice none 0 0) bb4 (by omega)
              clear far z0 y0_ z1 y1_ z2 y2_ z3 y3_ b0_4
              generalize hges0_4 : sets4P W4 (W3.heap.size) (.int .u32 a) (.int .i64 hd) (.int .u32 id) (.slice none 0 0) = V0_4 at *
              clear hges0_4
              refine hK.out _ _ trivial (fun hHeld2 => ?_)
              clear hK K hHeld
              have hHeld := hHeld2
              clear hHeld2
              try simp only [Act.put, List.getElem_toArray, List.getElem_cons_zero, List.getElem_cons_succ, List.setIfInBounds_toArray, List.set_cons_zero, List.set_cons_succ]
              refine wpAnyH_done (by kernel_rfl) ?_ _
              try refine NoPanic.normal ?_
              go_wp2_with fail
              go_meet
              exact ⟨W3.heap.size, rfl, by omega, qs0_4, bbs0_4⟩
            · go_simp
              have hx5 := bl_alloc (bl_refl W2) (.cells #[.int .u32 0, .int .i64 0, .int .u32 0, .slice none 0 0] 34)
              have b0_5 := Own.new W2 34 #[.int .u32 0, .int .i64 0, .int .u32 0, .slice none 0 0]
              have hlo5 := bb2.size
              have bb5 := bl_trans bb2 hx5
              generalize hgx5 : (W2.alloc (.cells #[.int .u32 0, .int .i64 0, .int .u32 0, .slice none 0 0] 34)) = W5 at *
              clear hgx5
              refine hK.out _ _ trivial (fun hHeld2 => ?_)
              clear hK K hHeld
              have hHeld := hHeld2
              clear hHeld2
              try simp only [Act.put, List.getElem_toArray, List.getElem_cons_zero, List.getElem_cons_succ, List.setIfInBounds_toArray, List.set_cons_zero, List.set_cons_succ]
              refine wpAnyH_ready (rs := [9]) (by kernel_rfl) (by simp) ?_
              refine (AllReadyH.cons rfl (fun K hK => ?_) AllReadyH.nil)
              go_simp
              go_at_call 27
              refine (c5.out W5 bb5).mono ?_
              rintro e W6 ⟨rfl, hx6⟩
              have b0_6 := b0_5.step hx6
              have bb6 := bl_trans bb5 hx6
              refine hK.out _ _ trivial (fun hHeld2 => ?_)
              clear hK K hHeld
              have hHeld := hHeld2
              clear hHeld2
              try simp only [Act.put, List.getElem_toArray, List.getElem_cons_zero, List.getElem_cons_succ, List.setIfInBounds_toArray, List.set_cons_zero, List.set_cons_succ]
              refine wpAnyH_take (i := 10) (v := ?_) rfl (by kernel_rfl) (by kernel_rfl) (by kernel_rfl) (fun _ _ _ h => h) (Or.inl ⟨by rfl, ?_⟩) (by assumption) ?_
              rotate_left
              · (intro W hSw; skip; go_simp; try with_reducible rfl)
              simp only [Act.put, List.getElem_toArray, List.getElem_cons_zero, List.getElem_cons_succ, List.setIfInBounds_toArray, List.set_cons_zero, List.set_cons_succ]
              refine wpAnyH_ready (rs := [12]) (by kernel_rfl) (by simp) ?_
              refine (AllReadyH.cons rfl (fun K hK => ?_) AllReadyH.nil)
              have z0 := b0_6.frozen 0
              have z1 := b0_6.frozen 1
              have z2 := b0_6.frozen 2
              have z3 := b0_6.frozen 3
              obtain ⟨y0_, y1_, y2_, y3_⟩ := own_end b0_6
              go_simp
              rw [show ((((W6.setCell ⟨W2.heap.size, 0, none⟩ (.int .u32 a)).setCell ⟨W2.heap.size, 1, none⟩ (.int .i64 hd)).setCell ⟨W2.heap.size, 2, none⟩ (.int .u32 id)).setCell ⟨W2.heap.size, 3, none⟩ (.slice none 0 0)) = sets4P W6 (W2.heap.size) (.int .u32 a) (.int .i64 hd) (.int .u32 id) (.slice none 0 0) from rfl]
              have qs0_6 := sets4P_own (a := .int .u32 a) (b := .int .i64 hd) (c := .int .u32 id) (d := .slice none 0 0) b0_6
              have far : ∀ k T cs, Own W6 k T cs → k ≠ W2.heap.size → Own (sets4P W6 (W2.heap.size) (.int .u32 a) (.int .i64 hd) (.int .u32 id) (.slice none 0 0)) k T cs := fun _ _ _ h hk => sets4P_far h hk
              have bbs0_6 := sets4P_below (g := W2.heap.size) (a := .int .u32 a) (b := .int .i64 hd) (c := .int .u32 id) (d := .slice none 0 0) bb6 (by omega)
              clear far z0 y0_ z1 y1_ z2 y2_ z3 y3_ b0_6
              generalize hges0_6 : sets4P W6 (W2.heap.size) (.int .u32 a) (.int .i64 hd) (.int .u32 id) (.slice none 0 0) = V0_6 at *
              clear hges0_6
              refine hK.out _ _ trivial (fun hHeld2 => ?_)
              clear hK K hHeld
              have hHeld := hHeld2
              clear hHeld2
              try simp only [Act.put, List.getElem_toArray, List.getElem_cons_zero, List.getElem_cons_succ, List.setIfInBounds_toArray, List.set_cons_zero, List.set_cons_succ]
              refine wpAnyH_done (by kernel_rfl) ?_ _
              try refine NoPanic.normal ?_
              go_wp2_with fail
              go_meet
              exact ⟨W2.heap.size, rfl, by omega, qs0_6, bbs0_6⟩
          · go_simp
            have hx7 := bl_alloc (bl_refl W1) (.cells #[.int .u32 0, .int .i64 0, .int .u32 0, .slice none 0 0] 34)
            have b0_7 := Own.new W1 34 #[.int .u32 0, .int .i64 0, .int .u32 0, .slice none 0 0]
            have hlo7 := bb1.size
            have bb7 := bl_trans bb1 hx7
            generalize hgx7 : (W1.alloc (.cells #[.int .u32 0, .int .i64 0, .int .u32 0, .slice none 0 0] 34)) = W7 at *
            clear hgx7
            refine hK.out _ _ trivial (fun hHeld2 => ?_)
            clear hK K hHeld
            have hHeld := hHeld2
            clear hHeld2
            try simp only [Act.put, List.getElem_toArray, List.getElem_cons_zero, List.getElem_cons_succ, List.setIfInBounds_toArray, List.set_cons_zero, List.set_cons_succ]
            refine wpAnyH_ready (rs := [5]) (by kernel_rfl) (by simp) ?_
            refine (AllReadyH.cons rfl (fun K hK => ?_) AllReadyH.nil)
            go_simp
            go_at_call 27
            refine (c3.out W7 bb7).mono ?_
            rintro e W8 ⟨rfl, hx8⟩
            have b0_8 := b0_7.step hx8
            have bb8 := bl_trans bb7 hx8
            refine hK.out _ _ trivial (fun hHeld2 => ?_)
            clear hK K hHeld
            have hHeld := hHeld2
            clear hHeld2
            try simp only [Act.put, List.getElem_toArray, List.getElem_cons_zero, List.getElem_cons_succ, List.setIfInBounds_toArray, List.set_cons_zero, List.set_cons_succ]
            refine wpAnyH_take (i := 6) (v := ?_) rfl (by kernel_rfl) (by kernel_rfl) (by kernel_rfl) (fun _ _ _ h => h) (Or.inl ⟨by rfl, ?_⟩) (by assumption) ?_
            rotate_left
            · (intro W hSw; skip; go_simp; try with_reducible rfl)
            simp only [Act.put, List.getElem_toArray, List.getElem_cons_zero, List.getElem_cons_succ, List.setIfInBounds_toArray, List.set_cons_zero, List.set_cons_succ]
            refine wpAnyH_ready (rs := [9]) (by kernel_rfl) (by simp) ?_
            refine (AllReadyH.cons rfl (fun K hK => ?_) AllReadyH.nil)
            go_simp
            go_at_call 27
            refine (c5.out W8 bb8).mono ?_
            rintro e W9 ⟨rfl, hx9⟩
            have b0_9 := b0_8.step hx9
            have bb9 := bl_trans bb8 hx9
            refine hK.out _ _ trivial (fun hHeld2 => ?_)
            clear hK K hHeld
            have hHeld := hHeld2
            clear hHeld2
            try simp only [Act.put, List.getElem_toArray, List.getElem_cons_zero, List.getElem_cons_succ, List.setIfInBounds_toArray, List.set_cons_zero, List.set_cons_succ]
            refine wpAnyH_take (i := 10) (v := ?_) rfl (by kernel_rfl) (by kernel_rfl) (by kernel_rfl) (fun _ _ _ h => h) (Or.inl ⟨by rfl, ?_⟩) (by assumption) ?_
            rotate_left
            · (intro W hSw; skip; go_simp; try with_reducible rfl)
            simp only [Act.put, List.getElem_toArray, List.getElem_cons_zero, List.getElem_cons_succ, List.setIfInBounds_toArray, List.set_cons_zero, List.set_cons_succ]
            refine wpAnyH_ready (rs := [12]) (by kernel_rfl) (by simp) ?_
            refine (AllReadyH.cons rfl (fun K hK => ?_) AllReadyH.nil)
            have z0 := b0_9.frozen 0
            have z1 := b0_9.frozen 1
            have z2 := b0_9.frozen 2
            have z3 := b0_9.frozen 3
            obtain ⟨y0_, y1_, y2_, y3_⟩ := own_end b0_9
            go_simp
            rw [show ((((W9.setCell ⟨W1.heap.size, 0, none⟩ (.int .u32 a)).setCell ⟨W1.heap.size, 1, none⟩ (.int .i64 hd)).setCell ⟨W1.heap.size, 2, none⟩ (.int .u32 id)).setCell ⟨W1.heap.size, 3, none⟩ (.slice none 0 0)) = sets4P W9 (W1.heap.size) (.int .u32 a) (.int .i64 hd) (.int .u32 id) (.slice none 0 0) from rfl]
            have qs0_9 := sets4P_own (a := .int .u32 a) (b := .int .i64 hd) (c := .int .u32 id) (d := .slice none 0 0) b0_9
            have far : ∀ k T cs, Own W9 k T cs → k ≠ W1.heap.size → Own (sets4P W9 (W1.heap.size) (.int .u32 a) (.int .i64 hd) (.int .u32 id) (.slice none 0 0)) k T cs := fun _ _ _ h hk => sets4P_far h hk
            have bbs0_9 := sets4P_below (g := W1.heap.size) (a := .int .u32 a) (b := .int .i64 hd) (c := .int .u32 id) (d := .slice none 0 0) bb9 (by omega)
            clear far z0 y0_ z1 y1_ z2 y2_ z3 y3_ b0_9
            generalize hges0_9 : sets4P W9 (W1.heap.size) (.int .u32 a) (.int .i64 hd) (.int .u32 id) (.slice none 0 0) = V0_9 at *
            clear hges0_9
            refine hK.out _ _ trivial (fun hHeld2 => ?_)
            clear hK K hHeld
            have hHeld := hHeld2
            clear hHeld2
            try simp only [Act.put, List.getElem_toArray, List.getElem_cons_zero, List.getElem_cons_succ, List.setIfInBounds_toArray, List.set_cons_zero, List.set_cons_succ]
            refine wpAnyH_done (by kernel_rfl) ?_ _
            try refine NoPanic.normal ?_
            go_wp2_with fail
            go_meet
            exact ⟨W1.heap.size, rfl, by omega, qs0_9, bbs0_9⟩
        · go_simp
          have hx10 := bl_alloc (bl_refl Y0) (.cells #[.int .u32 0, .int .i64 0, .int .u32 0, .slice none 0 0] 34)
          have b0_10 := Own.new Y0 34 #[.int .u32 0, .int .i64 0, .int .u32 0, .slice none 0 0]
          have hlo10 := bb0.size
          have bb10 := bl_trans bb0 hx10
          generalize hgx10 : (Y0.alloc (.cells #[.int .u32 0, .int .i64 0, .int .u32 0, .slice none 0 0] 34)) = W10 at *
          clear hgx10
          refine hK.out _ _ trivial (fun hHeld2 => ?_)
          clear hK K hHeld
          have hHeld := hHeld2
          clear hHeld2
          try simp only [Act.put, List.getElem_toArray, List.getElem_cons_zero, List.getElem_cons_succ, List.setIfInBounds_toArray, List.set_cons_zero, List.set_cons_succ]
          refine wpAnyH_ready (rs := [2]) (by kernel_rfl) (by simp) ?_
          refine (AllReadyH.cons rfl (fun K hK => ?_) AllReadyH.nil)
          go_simp
          go_at_call 27
          refine (c1.out W10 bb10).mono ?_
          rintro e W11 ⟨rfl, hx11⟩
          have b0_11 := b0_10.step hx11
          have bb11 := bl_trans bb10 hx11
          refine hK.out _ _ trivial (fun hHeld2 => ?_)
          clear hK K hHeld
          have hHeld := hHeld2
          clear hHeld2
          try simp only [Act.put, List.getElem_toArray, List.getElem_cons_zero, List.getElem_cons_succ, List.setIfInBounds_toArray, List.set_cons_zero, List.set_cons_succ]
          refine wpAnyH_ready (rs := [5]) (by kernel_rfl) (by simp) ?_
          refine (AllReadyH.cons rfl (fun K hK => ?_) AllReadyH.nil)
          go_simp
          go_at_call 27
          refine (c3.out W11 bb11).mono ?_
          rintro e W12 ⟨rfl, hx12⟩
          have b0_12 := b0_11.step hx12
          have bb12 := bl_trans bb11 hx12
          refine hK.out _ _ trivial (fun hHeld2 => ?_)
          clear hK K hHeld
          have hHeld := hHeld2
          clear hHeld2
          try simp only [Act.put, List.getElem_toArray, List.getElem_cons_zero, List.getElem_cons_succ, List.setIfInBounds_toArray, List.set_cons_zero, List.set_cons_succ]
          refine wpAnyH_take (i := 6) (v := ?_) rfl (by kernel_rfl) (by kernel_rfl) (by kernel_rfl) (fun _ _ _ h => h) (Or.inl ⟨by rfl, ?_⟩) (by assumption) ?_
          rotate_left
          · (intro W hSw; skip; go_simp; try with_reducible rfl)
          simp only [Act.put, List.getElem_toArray, List.getElem_cons_zero, List.getElem_cons_succ, List.setIfInBounds_toArray, List.set_cons_zero, List.set_cons_succ]
          refine wpAnyH_ready (rs := [9]) (by kernel_rfl) (by simp) ?_
          refine (AllReadyH.cons rfl (fun K hK => ?_) AllReadyH.nil)
          go_simp
          go_at_call 27
          refine (c5.out W12 bb12).mono ?_
          rintro e W13 ⟨rfl, hx13⟩
          have b0_13 := b0_12.step hx13
          have bb13 := bl_trans bb12 hx13
          refine hK.out _ _ trivial (fun hHeld2 => ?_)
          clear hK K hHeld
          have hHeld := hHeld2
          clear hHeld2
          try simp only [Act.put, List.getElem_toArray, List.getElem_cons_zero, List.getElem_cons_succ, List.setIfInBounds_toArray, List.set_cons_zero, List.set_cons_succ]
          refine wpAnyH_take (i := 10) (v := ?_) rfl (by kernel_rfl) (by kernel_rfl) (by kernel_rfl) (fun _ _ _ h => h) (Or.inl ⟨by rfl, ?_⟩) (by assumption) ?_
          rotate_left
          · (intro W hSw; skip; go_simp; try with_reducible rfl)
          simp only [Act.put, List.getElem_toArray, List.getElem_cons_zero, List.getElem_cons_succ, List.setIfInBounds_toArray, List.set_cons_zero, List.set_cons_succ]
          refine wpAnyH_ready (rs := [12]) (by kernel_rfl) (by simp) ?_
          refine (AllReadyH.cons rfl (fun K hK => ?_) AllReadyH.nil)
          have z0 := b0_13.frozen 0
          have z1 := b0_13.frozen 1
          have z2 := b0_13.frozen 2
          have z3 := b0_13.frozen 3
          obtain ⟨y0_, y1_, y2_, y3_⟩ := own_end b0_13
          go_simp
          rw [show ((((W13.setCell ⟨Y0.heap.size, 0, none⟩ (.int .u32 a)).setCell ⟨Y0.heap.size, 1, none⟩ (.int .i64 hd)).setCell ⟨Y0.heap.size, 2, none⟩ (.int .u32 id)).setCell ⟨Y0.heap.size, 3, none⟩ (.slice none 0 0)) = sets4P W13 (Y0.heap.size) (.int .u32 a) (.int .i64 hd) (.int .u32 id) (.slice none 0 0) from rfl]
          have qs0_13 := sets4P_own (a := .int .u32 a) (b := .int .i64 hd) (c := .int .u32 id) (d := .slice none 0 0) b0_13
          have far : ∀ k T cs, Own W13 k T cs → k ≠ Y0.heap.size → Own (sets4P W13 (Y0.heap.size) (.int .u32 a) (.int .i64 hd) (.int .u32 id) (.slice none 0 0)) k T cs := fun _ _ _ h hk => sets4P_far h hk
          have bbs0_13 := sets4P_below (g := Y0.heap.size) (a := .int .u32 a) (b := .int .i64 hd) (c := .int .u32 id) (d := .slice none 0 0) bb13 (by omega)
          clear far z0 y0_ z1 y1_ z2 y2_ z3 y3_ b0_13
          generalize hges0_13 : sets4P W13 (Y0.heap.size) (.int .u32 a) (.int .i64 hd) (.int .u32 id) (.slice none 0 0) = V0_13 at *
          clear hges0_13
          refine hK.out _ _ trivial (fun hHeld2 => ?_)
          clear hK K hHeld
          have hHeld := hHeld2
          clear hHeld2
          try simp only [Act.put, List.getElem_toArray, List.getElem_cons_zero, List.getElem_cons_succ, List.setIfInBounds_toArray, List.set_cons_zero, List.set_cons_succ]
          refine wpAnyH_done (by kernel_rfl) ?_ _
          try refine NoPanic.normal ?_
          go_wp2_with fail
          go_meet
          exact ⟨Y0.heap.size, rfl, by omega, qs0_13, bbs0_13⟩
      case rest =>
      obtain ⟨wd, hwd⟩ : ∃ z, z = wc := ⟨_, rfl⟩
      subst hwd
      obtain ⟨g, rfl, hgX, ox, hbx⟩ := hcut
      have hb1 := bl_trans hb hbx
      have oR1 := oR.step hbx
      have oV1 := oV.step hbx
      have HG := Lib.hid (show w.heap.size + 2 ≤ g by have := HXS.out; omega)
      have e99 := (hbx.cell (p := ⟨bb, oo + 9, none⟩) (by show bb < _; have := HXS.out; omega)).trans e99
      clear oR oV hb hgX hbx HBX HXS e90 q4 hv n1 n3 n5 c1 c3 c5 whd l3 l5 l9 m3 m5 m9 r1
      obtain ⟨p0, p1, p2, p3⟩ := own_end ox
      by_cases ha : a = 0
      · have qa : (a == 0) = true := by simpa using ha
        have HSP := Lib.hid (show oParse bs = .inl (2, 1, []) by rw [HEQ.out, if_pos ha])
        clear ha HEQ e99
        go_wp2_with fail
        refine (rbad_any 2 1 _).mono ?_
        rintro e w9 ⟨rfl, hb9⟩
        have o1 := oR1.step hb9
        have o2 := oV1.step hb9
        have hb5 := bl_trans hb1 hb9
        clear p0 p1 p2 p3 ox
        clear oR1 oV1 hb1 hb9
        have P1 := sets4P_own (a := .int .u32 0) (b := .int .i64 0) (c := .int .u32 0) (d := .slice none 0 0) o1
        have P2 := sets4P_far (g := w.heap.size) (a := .int .u32 0) (b := .int .i64 0) (c := .int .u32 0) (d := .slice none 0 0) o2 (by omega)
        have P4 := sets4P_below (g := w.heap.size) (a := .int .u32 0) (b := .int .i64 0) (c := .int .u32 0) (d := .slice none 0 0) hb5 (Nat.le_refl _)
        have Q1 := Lib.hid (sets5P_far (g := w.heap.size + 1) (a := .int .i64 4) (b := .int .i64 2) (c := .int .i64 2) (d := .slice none 0 0) (e := .int .i64 1) P1 (by omega))
        have Q2 := Lib.hid (sets5P_own (a := .int .i64 4) (b := .int .i64 2) (c := .int .i64 2) (d := .slice none 0 0) (e := .int .i64 1) P2)
        have Q4 := Lib.hid (sets5P_below (g := w.heap.size + 1) (a := .int .i64 4) (b := .int .i64 2) (c := .int .i64 2) (d := .slice none 0 0) (e := .int .i64 1) P4 (by omega))
        obtain ⟨e0, e1, e2, e3⟩ := own_end o1
        obtain ⟨d0, d1, d2, d3, d4⟩ := own_5 o2
        have f0 := o1.frozen 0
        have f1 := o1.frozen 1
        have f2 := o1.frozen 2
        have f3 := o1.frozen 3
        have k0 := o2.frozen 0
        have k1 := o2.frozen 1
        have k2 := o2.frozen 2
        have k3 := o2.frozen 3
        have k4 := o2.frozen 4
        clear P1 P2 P4 
        clear o1 o2 hb5
        dsimp only
        repeat (first | go_values | go_skip | go_guarded | go_step | go_upon)
        refine bodyPost_ret (results_twoN (p := 2) (q := 3) (fn := Try.f8) rfl _ _ w.heap.size 34 _ _ (w.heap.size + 1) 29 _ _ rfl Q1.out ro_descP rfl (ro_infoP _ _ _ _) rfl Q2.out ve_descN rfl (ve_infoN _ _ _ _ _)) rfl (.inl ⟨2, 1, [], none, 0, 0, HSP.out, rfl, Bytes.nil _ _ _, Q4.out⟩)
      · have qa : (a == 0) = false := by simpa using ha
        have HA := Lib.hid ha
        have HEQ := Lib.hid (HEQ.out.trans (if_neg ha))
        clear ha
        by_cases hh : 0 < hd ∧ hd < 3
        · have hho : holdBO hd = false := by
            unfold holdBO
            rw [show (hd == 0) = false by simp; omega, decide_eq_false (show ¬ 3 ≤ hd by omega)]; rfl
          have hH : Hid (∀ W, Calls Try.prog 28 #[.int .i64 hd] W fun e w' => e = .returned (.bool false) ∧ W = w') := Lib.hid fun W => by have := rhold17_o hd W; rwa [hho] at this
          have HSP := Lib.hid (show oParse bs = .inl (6, 3, []) by rw [HEQ.out, if_pos hh])
          clear HEQ hh hho e99 HA
          go_wp2_with fail
          refine (hH.out _).mono ?_
          rintro e w3 ⟨rfl, rfl⟩
          go_wp2_with fail
          refine (rbad_any 6 3 _).mono ?_
          rintro e w9 ⟨rfl, hb9⟩
          have o1 := oR1.step hb9
          have o2 := oV1.step hb9
          have hb5 := bl_trans hb1 hb9
          clear p0 p1 p2 p3 ox
          clear oR1 oV1 hb1 hb9
          have P1 := sets4P_own (a := .int .u32 0) (b := .int .i64 0) (c := .int .u32 0) (d := .slice none 0 0) o1
          have P2 := sets4P_far (g := w.heap.size) (a := .int .u32 0) (b := .int .i64 0) (c := .int .u32 0) (d := .slice none 0 0) o2 (by omega)
          have P4 := sets4P_below (g := w.heap.size) (a := .int .u32 0) (b := .int .i64 0) (c := .int .u32 0) (d := .slice none 0 0) hb5 (Nat.le_refl _)
          have Q1 := Lib.hid (sets5P_far (g := w.heap.size + 1) (a := .int .i64 4) (b := .int .i64 2) (c := .int .i64 6) (d := .slice none 0 0) (e := .int .i64 3) P1 (by omega))
          have Q2 := Lib.hid (sets5P_own (a := .int .i64 4) (b := .int .i64 2) (c := .int .i64 6) (d := .slice none 0 0) (e := .int .i64 3) P2)
          have Q4 := Lib.hid (sets5P_below (g := w.heap.size + 1) (a := .int .i64 4) (b := .int .i64 2) (c := .int .i64 6) (d := .slice none 0 0) (e := .int .i64 3) P4 (by omega))
          obtain ⟨e0, e1, e2, e3⟩ := own_end o1
          obtain ⟨d0, d1, d2, d3, d4⟩ := own_5 o2
          have f0 := o1.frozen 0
          have f1 := o1.frozen 1
          have f2 := o1.frozen 2
          have f3 := o1.frozen 3
          have k0 := o2.frozen 0
          have k1 := o2.frozen 1
          have k2 := o2.frozen 2
          have k3 := o2.frozen 3
          have k4 := o2.frozen 4
          clear P1 P2 P4 
          clear o1 o2 hb5
          dsimp only
          repeat (first | go_values | go_skip | go_guarded | go_step | go_upon)
          refine bodyPost_ret (results_twoN (p := 2) (q := 3) (fn := Try.f8) rfl _ _ w.heap.size 34 _ _ (w.heap.size + 1) 29 _ _ rfl Q1.out ro_descP rfl (ro_infoP _ _ _ _) rfl Q2.out ve_descN rfl (ve_infoN _ _ _ _ _)) rfl (.inl ⟨6, 3, [], none, 0, 0, HSP.out, rfl, Bytes.nil _ _ _, Q4.out⟩)
        · have hho : holdBO hd = true := by
            unfold holdBO
            by_cases h0 : hd = 0
            · rw [h0]; rfl
            · rw [decide_eq_true (show 3 ≤ hd by omega), decide_eq_true (show hd ≤ 65535 by omega)]; simp
          have hH : Hid (∀ W, Calls Try.prog 28 #[.int .i64 hd] W fun e w' => e = .returned (.bool true) ∧ W = w') := Lib.hid fun W => by have := rhold17_o hd W; rwa [hho] at this
          have HEQ := Lib.hid (HEQ.out.trans (if_neg hh))
          clear hh hho
          by_cases hi : id = 0
          · have qi : (id == 0) = true := by simpa using hi
            have HSP := Lib.hid (show oParse bs = .inl (3, 5, []) by rw [HEQ.out, if_pos hi])
            clear hi HEQ e99 HA
            go_wp2_with fail
            refine (hH.out _).mono ?_
            rintro e w3 ⟨rfl, rfl⟩
            go_wp2_with fail
            refine (rbad_any 3 5 _).mono ?_
            rintro e w9 ⟨rfl, hb9⟩
            have o1 := oR1.step hb9
            have o2 := oV1.step hb9
            have hb5 := bl_trans hb1 hb9
            clear p0 p1 p2 p3 ox
            clear oR1 oV1 hb1 hb9
            have P1 := sets4P_own (a := .int .u32 0) (b := .int .i64 0) (c := .int .u32 0) (d := .slice none 0 0) o1
            have P2 := sets4P_far (g := w.heap.size) (a := .int .u32 0) (b := .int .i64 0) (c := .int .u32 0) (d := .slice none 0 0) o2 (by omega)
            have P4 := sets4P_below (g := w.heap.size) (a := .int .u32 0) (b := .int .i64 0) (c := .int .u32 0) (d := .slice none 0 0) hb5 (Nat.le_refl _)
            have Q1 := Lib.hid (sets5P_far (g := w.heap.size + 1) (a := .int .i64 4) (b := .int .i64 2) (c := .int .i64 3) (d := .slice none 0 0) (e := .int .i64 5) P1 (by omega))
            have Q2 := Lib.hid (sets5P_own (a := .int .i64 4) (b := .int .i64 2) (c := .int .i64 3) (d := .slice none 0 0) (e := .int .i64 5) P2)
            have Q4 := Lib.hid (sets5P_below (g := w.heap.size + 1) (a := .int .i64 4) (b := .int .i64 2) (c := .int .i64 3) (d := .slice none 0 0) (e := .int .i64 5) P4 (by omega))
            obtain ⟨e0, e1, e2, e3⟩ := own_end o1
            obtain ⟨d0, d1, d2, d3, d4⟩ := own_5 o2
            have f0 := o1.frozen 0
            have f1 := o1.frozen 1
            have f2 := o1.frozen 2
            have f3 := o1.frozen 3
            have k0 := o2.frozen 0
            have k1 := o2.frozen 1
            have k2 := o2.frozen 2
            have k3 := o2.frozen 3
            have k4 := o2.frozen 4
            clear P1 P2 P4 
            clear o1 o2 hb5
            dsimp only
            repeat (first | go_values | go_skip | go_guarded | go_step | go_upon)
            refine bodyPost_ret (results_twoN (p := 2) (q := 3) (fn := Try.f8) rfl _ _ w.heap.size 34 _ _ (w.heap.size + 1) 29 _ _ rfl Q1.out ro_descP rfl (ro_infoP _ _ _ _) rfl Q2.out ve_descN rfl (ve_infoN _ _ _ _ _)) rfl (.inl ⟨3, 5, [], none, 0, 0, HSP.out, rfl, Bytes.nil _ _ _, Q4.out⟩)
          · have qi : (id == 0) = false := by simpa using hi
            have HEQ := Lib.hid (HEQ.out.trans (if_neg hi))
            have w9 : IntKind.i64.wrap (nth bs 9) = nth bs 9 := IntWalk.i64_in _ (by omega)
            have wl : IntKind.i64.wrap ((bs.length : Int) - 10) = (bs.length : Int) - 10 := IntWalk.i64_in _ (by omega)
            have i9 : (9 : Int) < (bs.length : Int) := by omega
            clear hi
            by_cases h9 : nth bs 9 = (bs.length : Int) - 10
            rotate_left
            · have q9 : (nth bs 9 == (bs.length : Int) - 10) = false := by simpa using h9
              have HSP := Lib.hid (show oParse bs = .inl (0, 9, []) by rw [HEQ.out, if_neg h9])
              clear h9 HEQ HA
              go_wp2_with fail
              refine (hH.out _).mono ?_
              rintro e w3 ⟨rfl, rfl⟩
              go_wp2_with fail
              refine (rbad_any 0 9 _).mono ?_
              rintro e w9 ⟨rfl, hb9⟩
              have o1 := oR1.step hb9
              have o2 := oV1.step hb9
              have hb5 := bl_trans hb1 hb9
              clear p0 p1 p2 p3 ox
              clear oR1 oV1 hb1 hb9
              have P1 := sets4P_own (a := .int .u32 0) (b := .int .i64 0) (c := .int .u32 0) (d := .slice none 0 0) o1
              have P2 := sets4P_far (g := w.heap.size) (a := .int .u32 0) (b := .int .i64 0) (c := .int .u32 0) (d := .slice none 0 0) o2 (by omega)
              have P4 := sets4P_below (g := w.heap.size) (a := .int .u32 0) (b := .int .i64 0) (c := .int .u32 0) (d := .slice none 0 0) hb5 (Nat.le_refl _)
              have Q1 := Lib.hid (sets5P_far (g := w.heap.size + 1) (a := .int .i64 4) (b := .int .i64 2) (c := .int .i64 0) (d := .slice none 0 0) (e := .int .i64 9) P1 (by omega))
              have Q2 := Lib.hid (sets5P_own (a := .int .i64 4) (b := .int .i64 2) (c := .int .i64 0) (d := .slice none 0 0) (e := .int .i64 9) P2)
              have Q4 := Lib.hid (sets5P_below (g := w.heap.size + 1) (a := .int .i64 4) (b := .int .i64 2) (c := .int .i64 0) (d := .slice none 0 0) (e := .int .i64 9) P4 (by omega))
              obtain ⟨e0, e1, e2, e3⟩ := own_end o1
              obtain ⟨d0, d1, d2, d3, d4⟩ := own_5 o2
              have f0 := o1.frozen 0
              have f1 := o1.frozen 1
              have f2 := o1.frozen 2
              have f3 := o1.frozen 3
              have k0 := o2.frozen 0
              have k1 := o2.frozen 1
              have k2 := o2.frozen 2
              have k3 := o2.frozen 3
              have k4 := o2.frozen 4
              clear P1 P2 P4 
              clear o1 o2 hb5
              dsimp only
              repeat (first | go_values | go_skip | go_guarded | go_step | go_upon)
              refine bodyPost_ret (results_twoN (p := 2) (q := 3) (fn := Try.f8) rfl _ _ w.heap.size 34 _ _ (w.heap.size + 1) 29 _ _ rfl Q1.out ro_descP rfl (ro_infoP _ _ _ _) rfl Q2.out ve_descN rfl (ve_infoN _ _ _ _ _)) rfl (.inl ⟨0, 9, [], none, 0, 0, HSP.out, rfl, Bytes.nil _ _ _, Q4.out⟩)
            · have q9 : (nth bs 9 == (bs.length : Int) - 10) = true := by simpa using h9
              have q9n : (nth bs 9 != (bs.length : Int) - 10) = false := by simp [h9]
              have HPP := Lib.hid (HEQ.out.trans (if_pos h9))
              have hI0 : RPI bs w g a hd id 10 wd := ⟨none, 0, 0, [], ox, oR1, oV1, CRow.nil _ _ _, hb1, Lib.hid (RCome.start (by omega))⟩
              have HI0 := Lib.hid hI0
              have hLB : Hid (bs.length ≤ 700 ∧ 10 ≤ bs.length) := Lib.hid ⟨by omega, by omega⟩
              have HC := Lib.hid hc
              have HBB := Lib.hid hbb
              clear h9 HEQ oR1 oV1 hb1 ox hI0
              go_wp2_with fail
              refine (hH.out _).mono ?_
              rintro e w3 ⟨rfl, rfl⟩
              go_upto_region 14 with fail
              clear p0 p1 p2 p3 e99 hH qi w9 wl q9 q9n hc hl h10 d10 hbb
              go_wp2_with fail
              go_loopw [5, 6, 7, 8] (fun v5 _ _ _ wr => ∃ q : Nat, v5 = .int .i64 q ∧ RPI bs w g a hd id q wr) (fun v5 _ _ _ _ => bs.length - (intOf v5).toNat)
              case atStart => exact ⟨10, rfl, HI0.out⟩
              case round =>
                obtain ⟨q, rfl, A', n', c', L, ox, oR, oV, hC, hb, hR⟩ := hrel
                clear HI0
                have HNL := Lib.hid hC.len
                have hq1 := hR.out.1
                have hl7 := hLB.out
                have hgw := HG.out
                obtain ⟨p0, p1, p2, p3⟩ := own_end ox
                by_cases hqn : q < bs.length
                rotate_left
                · have hqe : q = bs.length := by omega
                  have hR2 := hR.out
                  rw [hqe] at hR2
                  have hEN := Lib.hid (HPP.out.trans (hR2.done a hd id))
                  have hcp : Caps wr wr.heap.size A' n' L := by have := hC.caps; rwa [← HNL.out] at this
                  have hL7 : 2 * L.length ≤ q := by have := hR.out.2.1; rwa [List.length_map] at this
                  have hSy := Lib.hid (rcsys_any A' n' c' L wr hcp (by have := HNL.out; omega))
                  have dq : ¬ ((q : Int) < (bs.length : Int)) := by omega
                  clear hR2 hR hcp hqe hqn HPP
                  cases hv : sysK (L.map cpK) with
                  | none =>
                    have HSP := Lib.hid (show .inr (a, hd, id, L.map cpK) = oParse bs by rw [hEN.out]; unfold oPn; rw [hv])
                    rw [hv] at hSy
                    clear hv hEN
                    go_wp2_with fail
                    refine hSy.out.mono ?_
                    rintro e w3 ⟨rfl, rfl⟩
                    go_upto_region 31 with fail
                    clear p0 p1 p2 p3
                    have P1 := sets4P_own (a := .int .u32 a) (b := .int .i64 hd) (c := .int .u32 id) (d := .slice A' n' c') oR
                    have P2 := sets4P_far (g := w.heap.size) (a := .int .u32 a) (b := .int .i64 hd) (c := .int .u32 id) (d := .slice A' n' c') oV (by omega)
                    have P4 := sets4P_below (g := w.heap.size) (a := .int .u32 a) (b := .int .i64 hd) (c := .int .u32 id) (d := .slice A' n' c') hb (Nat.le_refl _)
                    have Q1 := Lib.hid (sets5P_far (g := w.heap.size + 1) (a := .int .i64 0) (b := .int .i64 0) (c := .int .i64 0) (d := .slice none 0 0) (e := .int .i64 0) P1 (by omega))
                    have Q2 := Lib.hid (sets5P_own (a := .int .i64 0) (b := .int .i64 0) (c := .int .i64 0) (d := .slice none 0 0) (e := .int .i64 0) P2)
                    have Q4 := Lib.hid (sets5P_below (g := w.heap.size + 1) (a := .int .i64 0) (b := .int .i64 0) (c := .int .i64 0) (d := .slice none 0 0) (e := .int .i64 0) P4 (by omega))
                    have P5 := sets4P_crow (g := w.heap.size) (a := .int .u32 a) (b := .int .i64 hd) (c := .int .u32 id) (d := .slice A' n' c') hC (by omega)
                    have Q5 := sets5P_crow (g := w.heap.size + 1) (a := .int .i64 0) (b := .int .i64 0) (c := .int .i64 0) (d := .slice none 0 0) (e := .int .i64 0) P5 (by omega)
                    have QN := Lib.hid Q5.len
                    have QC := Lib.hid Q5.caps
                    obtain ⟨e0, e1, e2, e3⟩ := own_end oR
                    obtain ⟨d0, d1, d2, d3, d4⟩ := own_5 oV
                    have f0 := oR.frozen 0
                    have f1 := oR.frozen 1
                    have f2 := oR.frozen 2
                    have f3 := oR.frozen 3
                    have k0 := oV.frozen 0
                    have k1 := oV.frozen 1
                    have k2 := oV.frozen 2
                    have k3 := oV.frozen 3
                    have k4 := oV.frozen 4
                    clear P1 P2 P4 P5 Q5 
                    obtain ⟨p0, p1, p2, p3⟩ := own_end ox
                    clear ox oR oV hb hC
                    repeat (first | go_values | go_skip | go_guarded | go_step | go_upon)
                    refine bodyPost_ret (results_twoN (p := 2) (q := 3) (fn := Try.f8) rfl _ _ w.heap.size 34 _ _ (w.heap.size + 1) 29 _ _ rfl Q1.out ro_descP rfl (ro_infoP _ _ _ _) rfl Q2.out ve_descN rfl (ve_infoN _ _ _ _ _)) rfl (.inr ⟨a, hd, id, A', n', c', L, HSP.out, rfl, by have := QC.out; rwa [← QN.out] at this, Q4.out⟩)
                  | some s =>
                    have HS0 := Lib.hid hv
                    rw [hv] at hSy
                    clear hv
                    have z0 := ox.frozen 0
                    have oxs := Lib.hid (ox.set_ 0 (.int .u32 s))
                    have oRs := Lib.hid (oR.far (p := ⟨g, 0, none⟩) (by show w.heap.size ≠ g; omega) (.int .u32 s))
                    have oVs := Lib.hid (oV.far (p := ⟨g, 0, none⟩) (by show w.heap.size + 1 ≠ g; omega) (.int .u32 s))
                    have hbs := Lib.hid (hb.setCell (p := ⟨g, 0, none⟩) (by show w.heap.size ≤ g; omega) (.int .u32 s))
                    have hCs := Lib.hid (hC.offG (i := 0) (u := .int .u32 s))
                    clear oR oV hb hC
                    go_wp2_with fail
                    refine hSy.out.mono ?_
                    rintro e w3 ⟨rfl, rfl⟩
                    go_upto_region 29 with fail
                    have ox1 := oxs.out
                    have oR := oRs.out
                    have oV := oVs.out
                    have hb := hbs.out
                    have hC := hCs.out
                    clear oxs oRs oVs hbs hCs z0 hSy p0 p1 p2 p3 ox
                    generalize (wr.setCell ⟨g, 0, none⟩ (.int .u32 s)) = wy at *
                    have ox : Own wy g 34 #[.int .u32 s, .int .i64 hd, .int .u32 id, .slice A' n' c'] := ox1
                    clear ox1
                    obtain ⟨p0, p1, p2, p3⟩ := own_end ox
                    by_cases h0 : s = 0
                    · have q0 : (s == 0) = true := by simpa using h0
                      have HSP := Lib.hid (show oParse bs = .inl (2, 1, []) by rw [hEN.out]; unfold oPn; rw [HS0.out]; exact if_pos h0)
                      clear h0 hEN HS0 hC
                      go_wp2_with fail
                      refine (rbad_any 2 1 _).mono ?_
                      rintro e w9 ⟨rfl, hb9⟩
                      have o1 := oR.step hb9
                      have o2 := oV.step hb9
                      have hb5 := bl_trans hb hb9
                      clear p0 p1 p2 p3 ox
                      clear oR oV hb hb9
                      have P1 := sets4P_own (a := .int .u32 0) (b := .int .i64 0) (c := .int .u32 0) (d := .slice none 0 0) o1
                      have P2 := sets4P_far (g := w.heap.size) (a := .int .u32 0) (b := .int .i64 0) (c := .int .u32 0) (d := .slice none 0 0) o2 (by omega)
                      have P4 := sets4P_below (g := w.heap.size) (a := .int .u32 0) (b := .int .i64 0) (c := .int .u32 0) (d := .slice none 0 0) hb5 (Nat.le_refl _)
                      have Q1 := Lib.hid (sets5P_far (g := w.heap.size + 1) (a := .int .i64 4) (b := .int .i64 2) (c := .int .i64 2) (d := .slice none 0 0) (e := .int .i64 1) P1 (by omega))
                      have Q2 := Lib.hid (sets5P_own (a := .int .i64 4) (b := .int .i64 2) (c := .int .i64 2) (d := .slice none 0 0) (e := .int .i64 1) P2)
                      have Q4 := Lib.hid (sets5P_below (g := w.heap.size + 1) (a := .int .i64 4) (b := .int .i64 2) (c := .int .i64 2) (d := .slice none 0 0) (e := .int .i64 1) P4 (by omega))
                      obtain ⟨e0, e1, e2, e3⟩ := own_end o1
                      obtain ⟨d0, d1, d2, d3, d4⟩ := own_5 o2
                      have f0 := o1.frozen 0
                      have f1 := o1.frozen 1
                      have f2 := o1.frozen 2
                      have f3 := o1.frozen 3
                      have k0 := o2.frozen 0
                      have k1 := o2.frozen 1
                      have k2 := o2.frozen 2
                      have k3 := o2.frozen 3
                      have k4 := o2.frozen 4
                      clear P1 P2 P4 
                      clear o1 o2 hb5
                      dsimp only
                      repeat (first | go_values | go_skip | go_guarded | go_step | go_upon)
                      refine bodyPost_ret (results_twoN (p := 2) (q := 3) (fn := Try.f8) rfl _ _ w.heap.size 34 _ _ (w.heap.size + 1) 29 _ _ rfl Q1.out ro_descP rfl (ro_infoP _ _ _ _) rfl Q2.out ve_descN rfl (ve_infoN _ _ _ _ _)) rfl (.inl ⟨2, 1, [], none, 0, 0, HSP.out, rfl, Bytes.nil _ _ _, Q4.out⟩)
                    · have q0 : (s == 0) = false := by simpa using h0
                      have HSP := Lib.hid (show .inr (s, hd, id, L.map cpK) = oParse bs by rw [hEN.out]; unfold oPn; rw [HS0.out]; exact (if_neg h0).symm)
                      clear h0 hEN HS0
                      go_upto_region 31 with fail
                      clear p0 p1 p2 p3
                      have P1 := sets4P_own (a := .int .u32 s) (b := .int .i64 hd) (c := .int .u32 id) (d := .slice A' n' c') oR
                      have P2 := sets4P_far (g := w.heap.size) (a := .int .u32 s) (b := .int .i64 hd) (c := .int .u32 id) (d := .slice A' n' c') oV (by omega)
                      have P4 := sets4P_below (g := w.heap.size) (a := .int .u32 s) (b := .int .i64 hd) (c := .int .u32 id) (d := .slice A' n' c') hb (Nat.le_refl _)
                      have Q1 := Lib.hid (sets5P_far (g := w.heap.size + 1) (a := .int .i64 0) (b := .int .i64 0) (c := .int .i64 0) (d := .slice none 0 0) (e := .int .i64 0) P1 (by omega))
                      have Q2 := Lib.hid (sets5P_own (a := .int .i64 0) (b := .int .i64 0) (c := .int .i64 0) (d := .slice none 0 0) (e := .int .i64 0) P2)
                      have Q4 := Lib.hid (sets5P_below (g := w.heap.size + 1) (a := .int .i64 0) (b := .int .i64 0) (c := .int .i64 0) (d := .slice none 0 0) (e := .int .i64 0) P4 (by omega))
                      have P5 := sets4P_crow (g := w.heap.size) (a := .int .u32 s) (b := .int .i64 hd) (c := .int .u32 id) (d := .slice A' n' c') hC (by omega)
                      have Q5 := sets5P_crow (g := w.heap.size + 1) (a := .int .i64 0) (b := .int .i64 0) (c := .int .i64 0) (d := .slice none 0 0) (e := .int .i64 0) P5 (by omega)
                      have QN := Lib.hid Q5.len
                      have QC := Lib.hid Q5.caps
                      obtain ⟨e0, e1, e2, e3⟩ := own_end oR
                      obtain ⟨d0, d1, d2, d3, d4⟩ := own_5 oV
                      have f0 := oR.frozen 0
                      have f1 := oR.frozen 1
                      have f2 := oR.frozen 2
                      have f3 := oR.frozen 3
                      have k0 := oV.frozen 0
                      have k1 := oV.frozen 1
                      have k2 := oV.frozen 2
                      have k3 := oV.frozen 3
                      have k4 := oV.frozen 4
                      clear P1 P2 P4 P5 Q5 
                      obtain ⟨p0, p1, p2, p3⟩ := own_end ox
                      clear ox oR oV hb hC
                      repeat (first | go_values | go_skip | go_guarded | go_step | go_upon)
                      refine bodyPost_ret (results_twoN (p := 2) (q := 3) (fn := Try.f8) rfl _ _ w.heap.size 34 _ _ (w.heap.size + 1) 29 _ _ rfl Q1.out ro_descP rfl (ro_infoP _ _ _ _) rfl Q2.out ve_descN rfl (ve_infoN _ _ _ _ _)) rfl (.inr ⟨s, hd, id, A', n', c', L, HSP.out, rfl, by have := QC.out; rwa [← QN.out] at this, Q4.out⟩)
                · have dq : (q : Int) < (bs.length : Int) := by omega
                  have w2 : IntKind.i64.wrap ((q : Int) + 2) = (q : Int) + 2 := IntWalk.i64_in _ (by omega)
                  have w1 : IntKind.i64.wrap ((q : Int) + 1) = (q : Int) + 1 := IntWalk.i64_in _ (by omega)
                  have HXr := Lib.hid (HX0.out.below hb)
                  by_cases h2 : q + 2 ≤ bs.length
                  rotate_left
                  · have g1 : (bs.length : Int) < (q : Int) + 2 := by omega
                    have HSP := Lib.hid (show oParse bs = .inl (0, (q : Int), []) from HPP.out.trans (hR.out.bad hqn (ps_1 (by omega)) a hd id))
                    clear h2 HPP hR hC HNL HXr hqn
                    go_wp2_with fail
                    refine (rbad_any 0 (q : Int) _).mono ?_
                    rintro e w9 ⟨rfl, hb9⟩
                    have o1 := oR.step hb9
                    have o2 := oV.step hb9
                    have hb5 := bl_trans hb hb9
                    clear p0 p1 p2 p3 ox
                    clear oR oV hb hb9
                    have P1 := sets4P_own (a := .int .u32 0) (b := .int .i64 0) (c := .int .u32 0) (d := .slice none 0 0) o1
                    have P2 := sets4P_far (g := w.heap.size) (a := .int .u32 0) (b := .int .i64 0) (c := .int .u32 0) (d := .slice none 0 0) o2 (by omega)
                    have P4 := sets4P_below (g := w.heap.size) (a := .int .u32 0) (b := .int .i64 0) (c := .int .u32 0) (d := .slice none 0 0) hb5 (Nat.le_refl _)
                    have Q1 := Lib.hid (sets5P_far (g := w.heap.size + 1) (a := .int .i64 4) (b := .int .i64 2) (c := .int .i64 0) (d := .slice none 0 0) (e := .int .i64 (q : Int)) P1 (by omega))
                    have Q2 := Lib.hid (sets5P_own (a := .int .i64 4) (b := .int .i64 2) (c := .int .i64 0) (d := .slice none 0 0) (e := .int .i64 (q : Int)) P2)
                    have Q4 := Lib.hid (sets5P_below (g := w.heap.size + 1) (a := .int .i64 4) (b := .int .i64 2) (c := .int .i64 0) (d := .slice none 0 0) (e := .int .i64 (q : Int)) P4 (by omega))
                    obtain ⟨e0, e1, e2, e3⟩ := own_end o1
                    obtain ⟨d0, d1, d2, d3, d4⟩ := own_5 o2
                    have f0 := o1.frozen 0
                    have f1 := o1.frozen 1
                    have f2 := o1.frozen 2
                    have f3 := o1.frozen 3
                    have k0 := o2.frozen 0
                    have k1 := o2.frozen 1
                    have k2 := o2.frozen 2
                    have k3 := o2.frozen 3
                    have k4 := o2.frozen 4
                    clear P1 P2 P4 
                    clear o1 o2 hb5
                    dsimp only
                    repeat (first | go_values | go_skip | go_guarded | go_step | go_upon)
                    refine bodyPost_ret (results_twoN (p := 2) (q := 3) (fn := Try.f8) rfl _ _ w.heap.size 34 _ _ (w.heap.size + 1) 29 _ _ rfl Q1.out ro_descP rfl (ro_infoP _ _ _ _) rfl Q2.out ve_descN rfl (ve_infoN _ _ _ _ _)) rfl (.inl ⟨0, (q : Int), [], none, 0, 0, HSP.out, rfl, Bytes.nil _ _ _, Q4.out⟩)
                  · have g1 : ¬ ((bs.length : Int) < (q : Int) + 2) := by omega
                    obtain ⟨bb2, oo2, hA2, _, e0, _, _⟩ := HXr.out.at_ (k := q) (by omega)
                    cases hA2
                    obtain ⟨bb2, oo2, hA2, _, e1, y0, y1⟩ := HXr.out.at_ (k := q + 1) (by omega)
                    cases hA2
                    obtain ⟨m, hm⟩ : ∃ m : Nat, nth bs (q + 1) = (m : Int) := ⟨(nth bs (q + 1)).toNat, by omega⟩
                    rw [hm] at e1 y0 y1
                    have hmn : (nth bs (q + 1)).toNat = m := by omega
                    have HM := Lib.hid hmn
                    clear hm hmn
                    have wm : IntKind.i64.wrap (m : Int) = (m : Int) := IntWalk.i64_in _ (by omega)
                    have w3 : IntKind.i64.wrap ((q : Int) + 2 + (m : Int)) = (q : Int) + 2 + (m : Int) := IntWalk.i64_in _ (by omega)
                    have iq : (q : Int) + 1 < (bs.length : Int) := by omega
                    have iq0 : (0 : Int) ≤ (q : Int) + 1 := by omega
                    have tq : ((q : Int) + 1).toNat = q + 1 := by omega
                    by_cases h3 : q + 2 + m ≤ bs.length
                    rotate_left
                    · have g2 : (bs.length : Int) < (q : Int) + 2 + (m : Int) := by omega
                      have HSP := Lib.hid (show oParse bs = .inl (0, (q : Int), []) from HPP.out.trans (hR.out.bad hqn (ps_2 (by omega) (by rw [HM.out]; omega)) a hd id))
                      clear h2 h3 HPP hR hC HNL HXr hqn e0
                      go_wp2_with fail
                      refine (rbad_any 0 (q : Int) _).mono ?_
                      rintro e w9 ⟨rfl, hb9⟩
                      have o1 := oR.step hb9
                      have o2 := oV.step hb9
                      have hb5 := bl_trans hb hb9
                      clear p0 p1 p2 p3 ox
                      clear oR oV hb hb9
                      have P1 := sets4P_own (a := .int .u32 0) (b := .int .i64 0) (c := .int .u32 0) (d := .slice none 0 0) o1
                      have P2 := sets4P_far (g := w.heap.size) (a := .int .u32 0) (b := .int .i64 0) (c := .int .u32 0) (d := .slice none 0 0) o2 (by omega)
                      have P4 := sets4P_below (g := w.heap.size) (a := .int .u32 0) (b := .int .i64 0) (c := .int .u32 0) (d := .slice none 0 0) hb5 (Nat.le_refl _)
                      have Q1 := Lib.hid (sets5P_far (g := w.heap.size + 1) (a := .int .i64 4) (b := .int .i64 2) (c := .int .i64 0) (d := .slice none 0 0) (e := .int .i64 (q : Int)) P1 (by omega))
                      have Q2 := Lib.hid (sets5P_own (a := .int .i64 4) (b := .int .i64 2) (c := .int .i64 0) (d := .slice none 0 0) (e := .int .i64 (q : Int)) P2)
                      have Q4 := Lib.hid (sets5P_below (g := w.heap.size + 1) (a := .int .i64 4) (b := .int .i64 2) (c := .int .i64 0) (d := .slice none 0 0) (e := .int .i64 (q : Int)) P4 (by omega))
                      obtain ⟨e0, e1, e2, e3⟩ := own_end o1
                      obtain ⟨d0, d1, d2, d3, d4⟩ := own_5 o2
                      have f0 := o1.frozen 0
                      have f1 := o1.frozen 1
                      have f2 := o1.frozen 2
                      have f3 := o1.frozen 3
                      have k0 := o2.frozen 0
                      have k1 := o2.frozen 1
                      have k2 := o2.frozen 2
                      have k3 := o2.frozen 3
                      have k4 := o2.frozen 4
                      clear P1 P2 P4 
                      clear o1 o2 hb5
                      dsimp only
                      repeat (first | go_values | go_skip | go_guarded | go_step | go_upon)
                      refine bodyPost_ret (results_twoN (p := 2) (q := 3) (fn := Try.f8) rfl _ _ w.heap.size 34 _ _ (w.heap.size + 1) 29 _ _ rfl Q1.out ro_descP rfl (ro_infoP _ _ _ _) rfl Q2.out ve_descN rfl (ve_infoN _ _ _ _ _)) rfl (.inl ⟨0, (q : Int), [], none, 0, 0, HSP.out, rfl, Bytes.nil _ _ _, Q4.out⟩)
                    · have g2 : ¬ ((bs.length : Int) < (q : Int) + 2 + (m : Int)) := by omega
                      by_cases h4 : nth bs q = 2
                      rotate_left
                      · have q2 : (nth bs q == 2) = false := by simpa using h4
                        have HSP := Lib.hid (show oParse bs = .inl (4, (q : Int), []) from HPP.out.trans (hR.out.bad hqn (ps_3 (by rw [HM.out]; omega) h4) a hd id))
                        clear h2 h3 h4 HPP hR hC HNL HXr hqn
                        go_wp2_with fail
                        refine (rbad_any 4 (q : Int) _).mono ?_
                        rintro e w9 ⟨rfl, hb9⟩
                        have o1 := oR.step hb9
                        have o2 := oV.step hb9
                        have hb5 := bl_trans hb hb9
                        clear p0 p1 p2 p3 ox
                        clear oR oV hb hb9
                        have P1 := sets4P_own (a := .int .u32 0) (b := .int .i64 0) (c := .int .u32 0) (d := .slice none 0 0) o1
                        have P2 := sets4P_far (g := w.heap.size) (a := .int .u32 0) (b := .int .i64 0) (c := .int .u32 0) (d := .slice none 0 0) o2 (by omega)
                        have P4 := sets4P_below (g := w.heap.size) (a := .int .u32 0) (b := .int .i64 0) (c := .int .u32 0) (d := .slice none 0 0) hb5 (Nat.le_refl _)
                        have Q1 := Lib.hid (sets5P_far (g := w.heap.size + 1) (a := .int .i64 4) (b := .int .i64 2) (c := .int .i64 4) (d := .slice none 0 0) (e := .int .i64 (q : Int)) P1 (by omega))
                        have Q2 := Lib.hid (sets5P_own (a := .int .i64 4) (b := .int .i64 2) (c := .int .i64 4) (d := .slice none 0 0) (e := .int .i64 (q : Int)) P2)
                        have Q4 := Lib.hid (sets5P_below (g := w.heap.size + 1) (a := .int .i64 4) (b := .int .i64 2) (c := .int .i64 4) (d := .slice none 0 0) (e := .int .i64 (q : Int)) P4 (by omega))
                        obtain ⟨e0, e1, e2, e3⟩ := own_end o1
                        obtain ⟨d0, d1, d2, d3, d4⟩ := own_5 o2
                        have f0 := o1.frozen 0
                        have f1 := o1.frozen 1
                        have f2 := o1.frozen 2
                        have f3 := o1.frozen 3
                        have k0 := o2.frozen 0
                        have k1 := o2.frozen 1
                        have k2 := o2.frozen 2
                        have k3 := o2.frozen 3
                        have k4 := o2.frozen 4
                        clear P1 P2 P4 
                        clear o1 o2 hb5
                        dsimp only
                        repeat (first | go_values | go_skip | go_guarded | go_step | go_upon)
                        refine bodyPost_ret (results_twoN (p := 2) (q := 3) (fn := Try.f8) rfl _ _ w.heap.size 34 _ _ (w.heap.size + 1) 29 _ _ rfl Q1.out ro_descP rfl (ro_infoP _ _ _ _) rfl Q2.out ve_descN rfl (ve_infoN _ _ _ _ _)) rfl (.inl ⟨4, (q : Int), [], none, 0, 0, HSP.out, rfl, Bytes.nil _ _ _, Q4.out⟩)
                      · have q2 : (nth bs q == 2) = true := by simpa using h4
                        obtain ⟨A2, hA2, hcd⟩ := bytes_cutC (k := q + 2) HXr.out (by omega) HC.out.1
                        have hA3 := hA2.front (k := m) (by omega)
                        have hlm : ((bs.drop (q + 2)).take m).length = m := by rw [List.length_take, List.length_drop]; omega
                        have hRd := Lib.hid (rcread_any A2 m (c - (q + 2)) _ wr (hA3.more (B' := wr.heap.size) hb.size) (by omega) (by have := HC.out.1; omega) (by unfold maxLen; have := HC.out.2; omega))
                        rw [hlm] at hRd
                        have hs4 : readC (m + 1) ((bs.drop (q + 2)).take m) = none → parStep q (bs.drop q) = .inl (0, (q : Int)) := ps_4 HM.out (by omega) h4
                        have hs5 : ∀ M, readC (m + 1) ((bs.drop (q + 2)).take m) = some M → parStep q (bs.drop q) = .inr (m, M) := fun M => ps_5 HM.out (by omega) h4
                        have HS4 := Lib.hid hs4
                        have HS5 := Lib.hid hs5
                        have HQM := Lib.hid (And.intro hqn h3)
                        generalize readC (m + 1) ((bs.drop (q + 2)).take m) = RR at *
                        have v1 : (0 : Int) ≤ (q : Int) + 2 := by omega
                        have v2 : (q : Int) + 2 + (m : Int) ≤ (c : Int) := by have := HC.out.1; omega
                        have v3 : (q : Int) + 2 ≤ (q : Int) + 2 + (m : Int) := by omega
                        have v4 : ((q : Int) + 2).toNat = q + 2 := by omega
                        have v5 : ((q : Int) + 2 + (m : Int)).toNat = q + 2 + m := by omega
                        have v6 : q + 2 + m ≤ c := by have := HC.out.1; omega
                        have v7 : q + 2 + m - (q + 2) = m := by omega
                        clear hA2 hA3 hlm hs4 hs5 h2 h4 hqn h3
                        rcases hcd with ⟨t1, rfl⟩ | ⟨t1, rfl⟩
                        all_goals
                          try subst t1
                          try rw [Nat.sub_self] at hRd
                          go_wp2_with fail
                          refine hRd.out.mono ?_
                          rintro e w5 ⟨v, M, qk, rfl, cm, hgc, hb5⟩
                          have ox5 := ox.step hb5
                          have oR5 := oR.step hb5
                          have oV5 := oV.step hb5
                          have hC5 := hC.below hb5
                          have hbb5 := bl_trans hb hb5
                          have CM := Lib.hid (cm.lift (b := g + 1) (by have := ox.lt; omega))
                          clear ox oR oV hC hb hRd cm hb5 p0 p1 p2 p3 e0 e1
                          obtain ⟨hq | hq, hml, hms⟩ := hgc.out
                          rotate_left
                          · obtain ⟨hq1, rfl, rfl⟩ := hq
                            have HSP := Lib.hid (show oParse bs = .inl (0, (q : Int), []) from HPP.out.trans (hR.out.bad HQM.out.1 (HS4.out hq1) a hd id))
                            clear hq1 hml hms hgc CM HPP hR hC5 HNL HXr HS4 HS5 ox5
                            go_wp2_with fail
                            refine (rbad_any 0 (q : Int) _).mono ?_
                            rintro e w9 ⟨rfl, hb9⟩
                            have o1 := oR5.step hb9
                            have o2 := oV5.step hb9
                            have hb5 := bl_trans hbb5 hb9
                            clear oR5 oV5 hbb5 hb9
                            have P1 := sets4P_own (a := .int .u32 0) (b := .int .i64 0) (c := .int .u32 0) (d := .slice none 0 0) o1
                            have P2 := sets4P_far (g := w.heap.size) (a := .int .u32 0) (b := .int .i64 0) (c := .int .u32 0) (d := .slice none 0 0) o2 (by omega)
                            have P4 := sets4P_below (g := w.heap.size) (a := .int .u32 0) (b := .int .i64 0) (c := .int .u32 0) (d := .slice none 0 0) hb5 (Nat.le_refl _)
                            have Q1 := Lib.hid (sets5P_far (g := w.heap.size + 1) (a := .int .i64 4) (b := .int .i64 2) (c := .int .i64 0) (d := .slice none 0 0) (e := .int .i64 (q : Int)) P1 (by omega))
                            have Q2 := Lib.hid (sets5P_own (a := .int .i64 4) (b := .int .i64 2) (c := .int .i64 0) (d := .slice none 0 0) (e := .int .i64 (q : Int)) P2)
                            have Q4 := Lib.hid (sets5P_below (g := w.heap.size + 1) (a := .int .i64 4) (b := .int .i64 2) (c := .int .i64 0) (d := .slice none 0 0) (e := .int .i64 (q : Int)) P4 (by omega))
                            obtain ⟨e0, e1, e2, e3⟩ := own_end o1
                            obtain ⟨d0, d1, d2, d3, d4⟩ := own_5 o2
                            have f0 := o1.frozen 0
                            have f1 := o1.frozen 1
                            have f2 := o1.frozen 2
                            have f3 := o1.frozen 3
                            have k0 := o2.frozen 0
                            have k1 := o2.frozen 1
                            have k2 := o2.frozen 2
                            have k3 := o2.frozen 3
                            have k4 := o2.frozen 4
                            clear P1 P2 P4 
                            clear o1 o2 hb5
                            dsimp only
                            repeat (first | go_values | go_skip | go_guarded | go_step | go_upon)
                            refine bodyPost_ret (results_twoN (p := 2) (q := 3) (fn := Try.f8) rfl _ _ w.heap.size 34 _ _ (w.heap.size + 1) 29 _ _ rfl Q1.out ro_descP rfl (ro_infoP _ _ _ _) rfl Q2.out ve_descN rfl (ve_infoN _ _ _ _ _)) rfl (.inl ⟨0, (q : Int), [], none, 0, 0, HSP.out, rfl, Bytes.nil _ _ _, Q4.out⟩)
                          · obtain ⟨hq1, rfl⟩ := hq
                            obtain ⟨A5, c5, rfl⟩ := CM.out.form
                            obtain ⟨p0, p1, p2, p3⟩ := own_end ox5
                            have z3 := ox5.frozen 3
                            have hML : M.length ≤ 20000 := hml
                            have hLL : 2 * L.length ≤ q := by have := hR.out.2.1; rwa [List.length_map] at this
                            have HMLL := Lib.hid (And.intro hML hLL)
                            have hnL := HNL.out
                            have HNXT := Lib.hid (hR.out.go (m := m) HQM.out.2 (HS5.out _ hq1))
                            have HOX := Lib.hid ox5
                            have HOR := Lib.hid oR5
                            have HOV := Lib.hid oV5
                            have HCC := Lib.hid hC5
                            have HBL := Lib.hid hbb5
                            clear hq1 hml hms hgc hML hLL hR HS4 HS5 HPP ox5 oR5 oV5 hC5 hbb5 HXr
                            subst hnL
                            go_upto_region 25 with (at_builtin; refine wpList_append_grow _ rfl _ _ rfl sl_rcps (g + 1) _ L.length (cellsP L) rfl HCC.out.1 w5.heap.size A5 M.length c5 (cellsP M) rfl (cellsP_len M) (Shows.of_own CM.out.1) (cellsP_one M) (by unfold maxLen; have := HMLL.out; omega) (by have := HMLL.out; omega) (by have := HOX.out.lt; omega) ?_; intro v6 w6 hrow6 hg6; have cN := HCC.out.pushL cp_types.2.1 CM.out.2 hrow6 hg6; obtain ⟨A6, c6, e6⟩ := cN.form; rw [List.length_append] at e6; subst e6; have R6 := Rest.of_grown hg6 (P := fun j => (Value.slice A' L.length c').ownBlock = some j) (fun j hj => hj); have HOWN : Hid (∀ j, (Value.slice A' L.length c').ownBlock = some j → g + 1 ≤ j) := Lib.hid (fun j hj => (row_typed HCC.out.1 hj).2); have h6 := R6.own HOX.out (fun e => by have := HOWN.out _ e; omega); have hr6 := R6.own HOR.out (fun e => by have := HOWN.out _ e; omega); have hv6 := R6.own HOV.out (fun e => by have := HOWN.out _ e; omega); have b6 := HBL.out.trans (R6.to_below (by have := HBL.out.size; omega) (fun i hi e => by have := HOWN.out _ e; omega)); have CN := Lib.hid cN; have H6 := Lib.hid h6; have HR6 := Lib.hid hr6; have HV6 := Lib.hid hv6; have B6 := Lib.hid b6; clear cN R6 b6 hrow6 hg6 p0 p1 p2 p3 z3 hr6 hv6; have z3 := h6.frozen 3; obtain ⟨p0, p1, p2, p3⟩ := own_end h6; clear h6)
                            have h7 := H6.out.set_ 3 (.slice A6 (L.length + M.length) c6)
                            have r7 := HR6.out.far (p := ⟨g, 3, none⟩) (by show w.heap.size ≠ g; omega) (.slice A6 (L.length + M.length) c6)
                            have o7 := HV6.out.far (p := ⟨g, 3, none⟩) (by show w.heap.size + 1 ≠ g; omega) (.slice A6 (L.length + M.length) c6)
                            have c7 := CN.out.offG (i := 3) (u := .slice A6 (L.length + M.length) c6)
                            have b7 := B6.out.setCell (p := ⟨g, 3, none⟩) (by show w.heap.size ≤ g; omega) (.slice A6 (L.length + M.length) c6)
                            have HN := Lib.hid (RPI.next h7 r7 o7 c7 b7 HNXT.out)
                            clear h7 r7 o7 c7 b7 p0 p1 p2 p3 z3
                            go_wp2
                            go_roundw
                            case rel => exact ⟨q + 2 + m, by first | rfl | simp, HN.out⟩
                            case measure => simp [intOf]; omega
end Go.Proofs.Ytniheakafkakhaa

/- the forms of OPENs: when two are the same -/
namespace Go.Proofs.Ytniheakafkakhaa
open Go.RowKit Go.Sort
theorem kform_inj : ∀ {K M : List (Int × List Int)}, K.flatMap kFormC = M.flatMap kFormC → K = M
  | [], [], _ => rfl
  | [], (k, xs) :: M, h => by simp [kFormC] at h
  | (k, xs) :: K, [], h => by simp [kFormC] at h
  | (k, xs) :: K, (l, ys) :: M, h => by
    rw [List.flatMap_cons, List.flatMap_cons] at h
    unfold kFormC at h
    simp only [List.cons_append, List.cons.injEq] at h
    obtain ⟨h1, h2, h3⟩ := h
    have hl : xs.length = ys.length := by omega
    obtain ⟨h4, h5⟩ := List.append_inj h3 hl
    rw [h1, h4, kform_inj h5]
theorem big_dig2 (x : Int) (h0 : 0 ≤ x) (h1 : x < 65536) : big (digitsOf 2 x) = x := by
  show big [x / 256 ^ 1 % 256, x / 256 ^ 0 % 256] = x
  rw [big_pair]
  omega
theorem big_dig4o (x : Int) (h0 : 0 ≤ x) (h1 : x < 4294967296) : big (digitsOf 4 x) = x := by
  show big [x / 256 ^ 3 % 256, x / 256 ^ 2 % 256, x / 256 ^ 1 % 256, x / 256 ^ 0 % 256] = x
  simp only [big, List.foldl]
  omega
theorem oForm_inj {num q r num' q' r' : Int} {P P' : List Int} (hq : 0 ≤ q ∧ q ≤ 65535) (hq' : 0 ≤ q' ∧ q' ≤ 65535) (hn : 0 ≤ num ∧ num ≤ 65535) (hn' : 0 ≤ num' ∧ num' ≤ 65535) (hr : 0 ≤ r ∧ r < 4294967296) (hr' : 0 ≤ r' ∧ r' < 4294967296) (h : oFormK num q r P = oFormK num' q' r' P') : num = num' ∧ q = q' ∧ r = r' ∧ P = P' := by
  unfold oFormK at h
  have h1 := (List.append_inj h rfl).2
  obtain ⟨e1, h2⟩ := List.append_inj h1 (by rw [digitsOf_len, digitsOf_len])
  obtain ⟨e2, h3⟩ := List.append_inj h2 (by rw [digitsOf_len, digitsOf_len])
  obtain ⟨e3, h4⟩ := List.append_inj h3 (by rw [digitsOf_len, digitsOf_len])
  obtain ⟨_, h5⟩ := List.append_inj h4 rfl
  refine ⟨?_, ?_, ?_, h5⟩
  · rw [← big_dig2 num hn.1 (by omega), e1, big_dig2 num' hn'.1 (by omega)]
  · rw [← big_dig2 q hq.1 (by omega), e2, big_dig2 q' hq'.1 (by omega)]
  · rw [← big_dig4o r hr.1 hr.2, e3, big_dig4o r' hr'.1 hr'.2]
theorem oPar_inj {ss ts : List Cp} (hs : ∀ s ∈ ss, s.n = s.xs.length) (ht : ∀ s ∈ ts, s.n = s.xs.length) (h : oPar ss = oPar ts) : ss.map cpK = ts.map cpK := by
  unfold oPar at h
  by_cases e : ss = []
  · rw [if_pos e] at h
    by_cases e' : ts = []
    · rw [e, e']
    · rw [if_neg e'] at h; exact absurd h (by simp)
  · rw [if_neg e] at h
    by_cases e' : ts = []
    · rw [if_pos e'] at h; exact absurd h (by simp)
    · rw [if_neg e'] at h
      simp only [List.cons.injEq] at h
      have h3 := h.2.2
      rw [cpsForm_k hs, cpsForm_k ht] at h3
      exact kform_inj h3
theorem oPar_congr {ss ts : List Cp} (hs : ∀ s ∈ ss, s.n = s.xs.length) (ht : ∀ s ∈ ts, s.n = s.xs.length) (h : ss.map cpK = ts.map cpK) : oPar ss = oPar ts := by
  unfold oPar
  have hl : ss.length = ts.length := by have := congrArg List.length h; rwa [List.length_map, List.length_map] at this
  have hc : cpsForm ss = cpsForm ts := by rw [cpsForm_k hs, cpsForm_k ht, h]
  by_cases e : ss = []
  · have e' : ts = [] := List.length_eq_zero_iff.1 (by rw [← hl, e]; rfl)
    rw [if_pos e, if_pos e']
  · have e' : ts ≠ [] := fun he => e (List.length_eq_zero_iff.1 (by rw [hl, he]; rfl))
    rw [if_neg e, if_neg e', hc]
theorem oOk_says {p q r : Int} {ss : List Cp} (h : oOk p q r ss = true) : (0 ≤ q ∧ q ≤ 65535) ∧ (if (sysK (ss.map cpK)).isSome = true then (sysK (ss.map cpK)).getD 0 = p else p ≤ 65535) := by
  unfold oOk at h
  rw [Bool.and_eq_true, Bool.and_eq_true] at h
  have hf := h.2.2
  refine ⟨fitB_q hf, ?_⟩
  unfold fitB at hf
  rw [Bool.and_eq_true] at hf
  have h2 := hf.2
  by_cases e : (sysK (ss.map cpK)).isSome = true
  · rw [if_pos e] at h2 ⊢
    exact beq_iff_eq.1 h2
  · rw [if_neg e] at h2 ⊢
    exact of_decide_eq_true h2
theorem oNum_ok {p : Int} (h : 0 ≤ p) : 0 ≤ oNum p ∧ oNum p ≤ 65535 := by
  unfold oNum
  split <;> omega
/-- Valid OPENs have the same form exactly if they are the same. -/
theorem oForm_same {p q r p' q' r' : Int} {ss ts : List Cp} (hp : 0 ≤ p) (hp' : 0 ≤ p') (hr : 0 ≤ r ∧ r < 4294967296) (hr' : 0 ≤ r' ∧ r' < 4294967296) (hs : ∀ s ∈ ss, s.n = s.xs.length) (ht : ∀ s ∈ ts, s.n = s.xs.length) (h : oOk p q r ss = true) (h' : oOk p' q' r' ts = true) :
    decide (oFormK (oNum p) q r (oPar ss) = oFormK (oNum p') q' r' (oPar ts)) = (p == p' && (q == q' && (r == r' && decide (ss.map cpK = ts.map cpK)))) := by
  obtain ⟨a1, a2⟩ := oOk_says h
  obtain ⟨b1, b2⟩ := oOk_says h'
  by_cases e : oFormK (oNum p) q r (oPar ss) = oFormK (oNum p') q' r' (oPar ts)
  · obtain ⟨h1, h2, h3, h4⟩ := oForm_inj a1 b1 (oNum_ok hp) (oNum_ok hp') hr hr' e
    have hK := oPar_inj hs ht h4
    have hpp : p = p' := by
      rw [hK] at a2
      by_cases es : (sysK (ts.map cpK)).isSome = true
      · rw [if_pos es] at a2 b2
        exact a2.symm.trans b2
      · rw [if_neg es] at a2 b2
        unfold oNum at h1
        rw [if_neg (by omega), if_neg (by omega)] at h1
        exact h1
    rw [decide_eq_true e, hpp, h2, h3, decide_eq_true hK]
    simp
  · rw [decide_eq_false e]
    symm
    rw [← Bool.not_eq_true]
    intro hc
    rw [Bool.and_eq_true, Bool.and_eq_true, Bool.and_eq_true, beq_iff_eq, beq_iff_eq, beq_iff_eq, decide_eq_true_iff] at hc
    obtain ⟨c1, c2, c3, c4⟩ := hc
    exact e (by rw [c1, c2, c3, oPar_congr hs ht c4])
end Go.Proofs.Ytniheakafkakhaa

/- open.Same, peerageref17.Same, peeragelaw17.alive -/
namespace Go.Proofs.Ytniheakafkakhaa
open Go.RowKit Go.Sort
theorem caps_nilO (w : World) (B : Nat) : Caps w B none 0 [] := ⟨rfl, (fun s hs => by cases hs), .inl rfl⟩
set_option maxRecDepth 100000 in
set_option maxHeartbeats 3200000 in
theorem rsame17_any (p q r : Int) (A : Option Addr) (n c : Nat) (p' q' r' : Int) (A' : Option Addr) (n' c' : Nat) (ss ts : List Cp) (w : World) (h : Caps w w.heap.size A n ss) (h' : Caps w w.heap.size A' n' ts) (hn : n ≤ 100000) (hn' : n' ≤ 100000) :
    Calls Try.prog 10 #[.agg #[.int .u32 p, .int .i64 q, .int .u32 r, .slice A n c], .agg #[.int .u32 p', .int .i64 q', .int .u32 r', .slice A' n' c']] w fun e w' => e = .returned (.bool (p == p' && (q == q' && (r == r' && decide (ss.map cpK = ts.map cpK))))) ∧ Below w.heap.size w w' := by
  obtain ⟨X, hX, oA, oB, hbX, hXs⟩ := two_boxesN w #[.int .u32 p, .int .i64 q, .int .u32 r, .slice A n c] #[.int .u32 p', .int .i64 q', .int .u32 r', .slice A' n' c'] 34 34
  clear hXs
  have hS := Lib.hid (rcsame_any A A' n n' c c' ss ts X (h.step hbX) (h'.step hbX) hn hn')
  generalize decide (ss.map cpK = ts.map cpK) = sm at *
  have HK : Hid ((p == p' && (q == q' && (r == r' && sm))) = (p == p' && (q == q' && (r == r' && sm)))) := Lib.hid rfl
  obtain ⟨a0, a1, a2, a3⟩ := own_end oA
  obtain ⟨b0, b1, b2, b3⟩ := own_end oB
  clear h h' hn hn'
  generalize hv : (p == p' && (q == q' && (r == r' && sm))) = v at HK ⊢
  replace hv := Lib.hid hv
  clear HK
  rcases hp : (p == p') with _ | _
  · have HV := Lib.hid (show v = false by rw [← hv.out, hp]; rfl)
    clear hv
    have hp2 : ¬ p = p' := by simpa using hp
    go_enter Try.func10, Try.ntmps10
    go_upto_region 1 with fail
    rw [← hX]
    clear hX
    go_wp2
    go_ret
    exact ⟨by rw [HV.out]; first | done | rfl, hbX⟩
  · rcases hq : (q == q') with _ | _
    · have HV := Lib.hid (show v = false by rw [← hv.out, hp, hq]; rfl)
      clear hv
      go_enter Try.func10, Try.ntmps10
      go_upto_region 1 with fail
      rw [← hX]
      clear hX
      go_wp2
      go_ret
      exact ⟨by rw [HV.out]; first | done | rfl, hbX⟩
    · rcases hr : (r == r') with _ | _
      · have HV := Lib.hid (show v = false by rw [← hv.out, hp, hq, hr]; rfl)
        clear hv
        go_enter Try.func10, Try.ntmps10
        go_upto_region 1 with fail
        rw [← hX]
        clear hX
        go_wp2
        go_ret
        exact ⟨by rw [HV.out]; first | done | rfl, hbX⟩
      · have HV := Lib.hid (show v = sm by rw [← hv.out, hp, hq, hr]; rfl)
        clear hv
        go_enter Try.func10, Try.ntmps10
        go_upto_region 1 with fail
        rw [← hX]
        clear hX
        go_wp2_with fail
        refine hS.out.mono ?_
        rintro e w2 ⟨rfl, hb2⟩
        have hb3 := bl_trans hbX hb2
        go_wp2
        go_ret
        exact ⟨by rw [HV.out]; first | done | rfl, hb3⟩
set_option maxRecDepth 100000 in
set_option maxHeartbeats 3200000 in
theorem osame17_any (p q r : Int) (A : Option Addr) (n c : Nat) (p' q' r' : Int) (A' : Option Addr) (n' c' : Nat) (ss ts : List Cp) (w : World) (h : Caps w w.heap.size A n ss) (h' : Caps w w.heap.size A' n' ts) (hn : n ≤ 1000) (hn' : n' ≤ 1000) :
    Calls Try.prog 13 #[.agg #[.int .u32 p, .int .i64 q, .int .u32 r, .slice A n c], .agg #[.int .u32 p', .int .i64 q', .int .u32 r', .slice A' n' c']] w fun e w' => e = .returned (.bool (p == p' && (q == q' && (r == r' && decide (ss.map cpK = ts.map cpK))))) ∧ Below w.heap.size w w' := by
  obtain ⟨X, hX, oA, oB, hbX, hXs⟩ := two_boxesN w #[.int .u32 p, .int .i64 q, .int .u32 r, .slice A n c] #[.int .u32 p', .int .i64 q', .int .u32 r', .slice A' n' c'] 27 27
  clear hXs
  have hS := Lib.hid (csame_any A A' n n' c c' ss ts X (h.step hbX) (h'.step hbX) hn hn')
  generalize decide (ss.map cpK = ts.map cpK) = sm at *
  have HK : Hid ((p == p' && (q == q' && (r == r' && sm))) = (p == p' && (q == q' && (r == r' && sm)))) := Lib.hid rfl
  obtain ⟨a0, a1, a2, a3⟩ := own_end oA
  obtain ⟨b0, b1, b2, b3⟩ := own_end oB
  clear h h' hn hn'
  generalize hv : (p == p' && (q == q' && (r == r' && sm))) = v at HK ⊢
  replace hv := Lib.hid hv
  clear HK
  rcases hp : (p == p') with _ | _
  · have HV := Lib.hid (show v = false by rw [← hv.out, hp]; rfl)
    clear hv
    have hp2 : ¬ p = p' := by simpa using hp
    go_enter Try.func13, Try.ntmps13
    go_upto_region 1 with fail
    rw [← hX]
    clear hX
    go_wp2
    go_ret
    exact ⟨by rw [HV.out]; first | done | rfl, hbX⟩
  · rcases hq : (q == q') with _ | _
    · have HV := Lib.hid (show v = false by rw [← hv.out, hp, hq]; rfl)
      clear hv
      go_enter Try.func13, Try.ntmps13
      go_upto_region 1 with fail
      rw [← hX]
      clear hX
      go_wp2
      go_ret
      exact ⟨by rw [HV.out]; first | done | rfl, hbX⟩
    · rcases hr : (r == r') with _ | _
      · have HV := Lib.hid (show v = false by rw [← hv.out, hp, hq, hr]; rfl)
        clear hv
        go_enter Try.func13, Try.ntmps13
        go_upto_region 1 with fail
        rw [← hX]
        clear hX
        go_wp2
        go_ret
        exact ⟨by rw [HV.out]; first | done | rfl, hbX⟩
      · have HV := Lib.hid (show v = sm by rw [← hv.out, hp, hq, hr]; rfl)
        clear hv
        go_enter Try.func13, Try.ntmps13
        go_upto_region 1 with fail
        rw [← hX]
        clear hX
        go_wp2_with fail
        refine hS.out.mono ?_
        rintro e w2 ⟨rfl, hb2⟩
        have hb3 := bl_trans hbX hb2
        go_wp2
        go_ret
        exact ⟨by rw [HV.out]; first | done | rfl, hb3⟩
set_option maxRecDepth 100000 in
theorem alive17_any (w : World) : Calls Try.prog 6 #[] w fun e w' => e = .returned (.bool true) ∧ Below w.heap.size w w' := by
  have hB := Lib.hid (obytes_any 1 0 1 none 0 0 [] w (caps_nilO _ _) (by omega) (by intro s hs; cases hs) (by omega) (by omega))
  go_enter Try.func6, Try.ntmps6
  go_wp2_with fail
  refine hB.out.mono ?_
  rintro e w2 ⟨A2, n2, c2, rfl, hx, hb2⟩
  rw [show oOk 1 0 1 [] = true by decide +kernel, if_pos rfl, show oFormK (oNum 1) 0 1 (oPar []) = [4, 0, 1, 0, 0, 0, 0, 0, 1, 0] by decide +kernel] at hx
  obtain rfl : n2 = 10 := hx.1
  have hb3 := bl_alloc hb2 (.cells #[.int .u8 4, .int .u8 0, .int .u8 1, .int .u8 0, .int .u8 0, .int .u8 0, .int .u8 0, .int .u8 0, .int .u8 1, .int .u8 0] 5)
  have hbE := bl_alloc (bl_refl w2) (.cells #[.int .u8 4, .int .u8 0, .int .u8 1, .int .u8 0, .int .u8 0, .int .u8 0, .int .u8 0, .int .u8 0, .int .u8 1, .int .u8 0] 5)
  have oE := Own.new w2 5 #[.int .u8 4, .int .u8 0, .int .u8 1, .int .u8 0, .int .u8 0, .int .u8 0, .int .u8 0, .int .u8 0, .int .u8 1, .int .u8 0]
  have hy := Bytes.of_owned (xs := [4, 0, 1, 0, 0, 0, 0, 0, 1, 0]) oE (by decide) oE.lt
  have hE := Lib.hid (bytesEq_any A2 (some ⟨w2.heap.size, 0, none⟩) 10 10 c2 10 _ _ _ _ _ (hx.stp hbE) hy (by omega) (by omega))
  rw [show oOk 1 0 1 [] = true by decide +kernel]
  clear hB hx hy oE
  go_wp2_with fail
  refine hE.out.mono ?_
  rintro e w3 ⟨rfl, m, rfl⟩
  have hb4 := bl_drewN hb3 m
  go_wp2
  go_ret
  exact ⟨by first | rfl | simp, hb4⟩
end Go.Proofs.Ytniheakafkakhaa

/- the OPENs that Parse gives: they have forms, and a form is read to the OPEN again -/
namespace Go.Proofs.Ytniheakafkakhaa
open Go.RowKit Go.Sort
theorem mem_kform {N : List (Int × List Int)} {p : Int × List Int} (hp : p ∈ N) : ∀ x ∈ p.2, x ∈ N.flatMap kFormC := fun x hx => List.mem_flatMap.2 ⟨p, hp, by unfold kFormC; simp [hx]⟩
theorem parStep_good {p k : Nat} {xs : List Int} {M : List (Int × List Int)} (hb : byteC xs) (h : parStep p xs = .inr (k, M)) : 2 + k ≤ xs.length ∧ M.flatMap kFormC = (xs.drop 2).take k ∧ ∀ q ∈ M, goodC q ∧ byteC q.2 := by
  unfold parStep at h
  by_cases h1 : xs.length < 2
  · rw [if_pos h1] at h; cases h
  · rw [if_neg h1] at h
    by_cases h2 : xs.length < 2 + (nth xs 1).toNat
    · rw [if_pos h2] at h; cases h
    · rw [if_neg h2] at h
      by_cases h3 : ¬ nth xs 0 = 2
      · rw [if_pos h3] at h; cases h
      · rw [if_neg h3] at h
        cases hr : readC ((nth xs 1).toNat + 1) ((xs.drop 2).take (nth xs 1).toNat) with
        | none => rw [hr] at h; cases h
        | some N =>
          rw [hr] at h
          have e : (nth xs 1).toNat = k ∧ N = M := by injection h with h; injection h with a b; exact ⟨a, b⟩
          obtain ⟨rfl, rfl⟩ := e
          have hb2 : byteC ((xs.drop 2).take (nth xs 1).toNat) := fun y hy => hb y (List.mem_of_mem_drop (List.mem_of_mem_take hy))
          have hf := readC_form _ hb2 hr
          exact ⟨by omega, hf, fun q hq => ⟨readC_good _ hb2 hr q hq, fun x hx => hb2 x (by rw [← hf]; exact mem_kform hq x hx)⟩⟩
theorem parAll_good : ∀ (f p : Nat) {xs : List Int} {N : List (Int × List Int)}, byteC xs → parAll f p xs = .inr N → (N = [] ∨ (N.flatMap kFormC).length + 2 ≤ xs.length) ∧ ∀ q ∈ N, goodC q ∧ byteC q.2
  | 0, p, xs, N, _, h => by
    unfold parAll at h
    cases h
    exact ⟨.inl rfl, fun _ h => by cases h⟩
  | f + 1, p, xs, N, hb, h => by
    by_cases e : xs = []
    · rw [e, parAll_nil] at h
      cases h
      exact ⟨.inl rfl, fun _ h => by cases h⟩
    · cases hs : parStep p xs with
      | inl e2 => rw [parAll_bad e hs] at h; cases h
      | inr kM =>
        obtain ⟨k, M⟩ := kM
        rw [parAll_go e hs] at h
        obtain ⟨g1, g2, g3⟩ := parStep_good hb hs
        cases hr : parAll f (p + (2 + k)) (xs.drop (2 + k)) with
        | inl e2 => rw [hr] at h; cases h
        | inr N' =>
          rw [hr] at h
          have e3 : M ++ N' = N := Sum.inr.inj h
          subst e3
          obtain ⟨i1, i2⟩ := parAll_good f _ (hb.drop _) hr
          have hl : (M.flatMap kFormC).length = k := by rw [g2, List.length_take, List.length_drop]; omega
          refine ⟨.inr ?_, fun q hq => (List.mem_append.1 hq).elim (g3 q) (i2 q)⟩
          rcases i1 with rfl | i1
          · rw [List.append_nil, hl]; omega
          · rw [List.flatMap_append, List.length_append, hl]; rw [List.length_drop] at i1; omega
/-- The OPENs that have a form. -/
def OGood (a hd id : Int) (N : List (Int × List Int)) : Prop := (0 < a ∧ a < 4294967296) ∧ (0 < id ∧ id < 4294967296) ∧ (hd = 0 ∨ 3 ≤ hd ∧ hd ≤ 65535) ∧ (∀ q ∈ N, goodC q ∧ byteC q.2) ∧ (N.flatMap kFormC).length ≤ 253 ∧ ((sysK N = none ∧ a ≤ 65535) ∨ sysK N = some a)
theorem big4_rng {xs : List Int} (h : ∀ x ∈ xs, 0 ≤ x ∧ x ≤ 255) : 0 ≤ big (xs.take 4) ∧ big (xs.take 4) < 4294967296 := by
  match xs with
  | [] => exact ⟨by show (0 : Int) ≤ 0; omega, by show (0 : Int) < 4294967296; omega⟩
  | [x] => have := h x (by simp); show 0 ≤ big [x] ∧ big [x] < 4294967296; simp [big]; omega
  | [x, y] => have h1 := h x (by simp); have h2 := h y (by simp); show 0 ≤ big [x, y] ∧ big [x, y] < 4294967296; simp [big]; omega
  | [x, y, z] => have h1 := h x (by simp); have h2 := h y (by simp); have h3 := h z (by simp); show 0 ≤ big [x, y, z] ∧ big [x, y, z] < 4294967296; simp [big]; omega
  | x :: y :: z :: u :: zs => have h1 := h x (by simp); have h2 := h y (by simp); have h3 := h z (by simp); have h4 := h u (by simp); show 0 ≤ big [x, y, z, u] ∧ big [x, y, z, u] < 4294967296; simp [big]; omega
theorem sysK_rng {N : List (Int × List Int)} {s : Int} (hb : ∀ q ∈ N, byteC q.2) (h : sysK N = some s) : 0 ≤ s ∧ s < 4294967296 := by
  unfold sysK at h
  obtain ⟨p, hp, rfl⟩ := Option.map_eq_some_iff.1 h
  have hm := List.mem_of_find?_eq_some hp
  have hi := List.find?_some hp
  unfold isASk at hi
  have hi := of_decide_eq_true hi
  have e : p.2.take 4 = p.2 := by rw [← hi.2, List.take_length]
  have := big4_rng (hb p hm)
  rwa [e] at this
theorem oParse_good {bs : List Int} {a hd id : Int} {N : List (Int × List Int)} (hb : byteC bs) (h : oParse bs = .inr (a, hd, id, N)) : OGood a hd id N ∧ (N = [] ∨ (N.flatMap kFormC).length + 12 ≤ bs.length) ∧ 10 ≤ bs.length := by
  unfold oParse at h
  by_cases h0 : bs.length < 10
  · rw [if_pos h0] at h; cases h
  rw [if_neg h0] at h
  unfold oPv at h
  by_cases h1 : big (bs.take 1) = 4
  rotate_left
  · rw [if_neg h1] at h; cases h
  rw [if_pos h1] at h
  unfold oPs at h
  have hb1 : byteC (bs.drop 1) := hb.drop _
  have hb2 : byteC ((bs.drop 1).drop 2) := hb1.drop _
  have hb3 : byteC (((bs.drop 1).drop 2).drop 2) := hb2.drop _
  have hb4 : byteC ((((bs.drop 1).drop 2).drop 2).drop 4) := hb3.drop _
  have hb5 : byteC (((((bs.drop 1).drop 2).drop 2).drop 4).drop 1) := hb4.drop _
  have r2 := big2_rng hb1
  have r3 := big2_rng hb2
  have r4 := big4_rng hb3
  have r5 := big1_rng hb4
  by_cases h2 : big ((bs.drop 1).take 2) = 0
  · rw [if_pos h2] at h; cases h
  rw [if_neg h2] at h
  unfold oPh at h
  by_cases h3 : 0 < big (((bs.drop 1).drop 2).take 2) ∧ big (((bs.drop 1).drop 2).take 2) < 3
  · rw [if_pos h3] at h; cases h
  rw [if_neg h3] at h
  unfold oPi at h
  by_cases h4 : big ((((bs.drop 1).drop 2).drop 2).take 4) = 0
  · rw [if_pos h4] at h; cases h
  rw [if_neg h4] at h
  unfold oPc at h
  by_cases h5 : big (((((bs.drop 1).drop 2).drop 2).drop 4).take 1) = ((((((bs.drop 1).drop 2).drop 2).drop 4).drop 1).length : Int)
  rotate_left
  · rw [if_neg h5] at h; cases h
  rw [if_pos h5] at h
  unfold oPp at h
  have hXl : (((((bs.drop 1).drop 2).drop 2).drop 4).drop 1).length + 10 = bs.length := by simp only [List.length_drop]; omega
  generalize ((((bs.drop 1).drop 2).drop 2).drop 4).drop 1 = X at *
  cases hp : parAll (X.length + 1) 10 X with
  | inl e => rw [hp] at h; cases h
  | inr N' =>
    rw [hp] at h
    obtain ⟨g1, g2⟩ := parAll_good _ _ hb5 hp
    change oPn _ _ _ N' = _ at h
    unfold oPn at h
    have hflat : (N'.flatMap kFormC).length ≤ 253 := by
      rcases g1 with rfl | g1
      · show 0 ≤ 253; omega
      · omega
    have hlen : N' = [] ∨ (N'.flatMap kFormC).length + 12 ≤ bs.length := g1.imp (fun g => g) (fun g => by omega)
    cases hs : sysK N' with
    | none =>
      rw [hs] at h
      simp only [Sum.inr.injEq, Prod.mk.injEq] at h
      obtain ⟨rfl, rfl, rfl, rfl⟩ := h
      exact ⟨⟨by omega, by omega, by omega, g2, hflat, .inl ⟨hs, by omega⟩⟩, hlen, by omega⟩
    | some s =>
      rw [hs] at h
      have hsr := sysK_rng (fun q hq => (g2 q hq).2) hs
      by_cases h6 : s = 0
      · simp only [h6, if_true] at h; cases h
      · simp only [if_neg h6, Sum.inr.injEq, Prod.mk.injEq] at h
        obtain ⟨rfl, rfl, rfl, rfl⟩ := h
        exact ⟨⟨by omega, by omega, by omega, g2, hflat, .inr hs⟩, hlen, by omega⟩
theorem oForm_len (num q r : Int) (P : List Int) : (oFormK num q r P).length = 10 + P.length := by
  unfold oFormK
  simp only [List.length_append, digitsOf_len, List.length_singleton]
  omega
theorem oPar_len (L : List Cp) (hn : ∀ s ∈ L, s.n = s.xs.length) : (L.map cpK = [] ∧ (oPar L).length = 0) ∨ (oPar L).length = 2 + ((L.map cpK).flatMap kFormC).length := by
  unfold oPar
  by_cases e : L = []
  · exact .inl ⟨by rw [e]; rfl, by rw [if_pos e]; rfl⟩
  · right
    rw [if_neg e, ← cpsForm_k hn]
    simp only [List.length_cons]
    omega
theorem parAll_par (L : List Cp) (hn : ∀ s ∈ L, s.n = s.xs.length) (hg : ∀ q ∈ L.map cpK, goodC q) : parAll ((oPar L).length + 1) 10 (oPar L) = .inr (L.map cpK) := by
  unfold oPar
  by_cases e : L = []
  · rw [if_pos e, e]; exact parAll_nil _ _
  · rw [if_neg e, cpsForm_k hn]
    generalize hK : L.map cpK = K at *
    have ht : ((K.flatMap kFormC).length : Int).toNat = (K.flatMap kFormC).length := Int.toNat_natCast _
    have h5 := par_5 10 ((K.flatMap kFormC).length : Int) (K.flatMap kFormC) K (by rw [ht]; exact Nat.le_refl _) (by rw [ht, List.take_length]; exact readC_inv K _ (Nat.lt_succ_self _) hg)
    rw [parAll_go (by simp) h5, ht]
    have hd : (2 :: ((K.flatMap kFormC).length : Int) :: K.flatMap kFormC).drop (2 + (K.flatMap kFormC).length) = [] := List.drop_eq_nil_of_le (by simp only [List.length_cons]; omega)
    rw [hd]
    show parJoin K (parAll ((K.flatMap kFormC).length + 1 + 1) _ []) = _
    rw [parAll_nil]
    show Sum.inr (K ++ []) = _
    rw [List.append_nil]
theorem oParse_form {a hd id : Int} {L : List Cp} (hn : ∀ s ∈ L, s.n = s.xs.length) (h : OGood a hd id (L.map cpK)) : oParse (oFormK (oNum a) hd id (oPar L)) = .inr (a, hd, id, L.map cpK) := by
  obtain ⟨ha, hi, hh, hg, hl, hs⟩ := h
  have hon := oNum_ok (Int.le_of_lt ha.1)
  have hon0 : oNum a ≠ 0 := by unfold oNum; split <;> omega
  have hP : (oPar L).length ≤ 255 := by rcases oPar_len L hn with ⟨_, h⟩ | h <;> omega
  have hpar := parAll_par L hn (fun q hq => (hg q hq).1)
  have hlen := oForm_len (oNum a) hd id (oPar L)
  generalize hPP : oPar L = P at *
  unfold oParse
  rw [if_neg (by omega)]
  unfold oFormK
  unfold oPv
  rw [if_pos (by show big [4] = 4; rfl)]
  show oPs (digitsOf 2 (oNum a) ++ _) = _
  unfold oPs
  rw [List.take_left' (digitsOf_len _ _), List.drop_left' (digitsOf_len _ _), big_dig2 _ hon.1 (by omega), if_neg hon0]
  unfold oPh
  rw [List.take_left' (digitsOf_len _ _), List.drop_left' (digitsOf_len _ _), big_dig2 hd (by omega) (by omega), if_neg (by omega)]
  unfold oPi
  rw [List.take_left' (digitsOf_len _ _), List.drop_left' (digitsOf_len _ _), big_dig4o id (by omega) (by omega), if_neg (by omega)]
  unfold oPc
  rw [if_pos (by show big [(P.length : Int)] = (P.length : Int); simp [big])]
  show oPp _ _ _ P = _
  unfold oPp
  rw [hpar]
  show oPn _ _ _ (L.map cpK) = _
  unfold oPn
  rcases hs with ⟨hs, ha2⟩ | hs
  · rw [hs]
    show Sum.inr (oNum a, hd, id, L.map cpK) = _
    rw [show oNum a = a by unfold oNum; rw [if_neg (by omega)]]
  · rw [hs]
    show (if a = 0 then _ else _) = _
    rw [if_neg (by omega)]
theorem oOk_good {a hd id : Int} {L : List Cp} (hn : ∀ s ∈ L, s.n = s.xs.length) (h : OGood a hd id (L.map cpK)) : oOk a hd id L = true := by
  obtain ⟨ha, hi, hh, hg, hl, hs⟩ := h
  have h1 : L.all cpOk = true := ok_of_goodC hn (fun p hp => (hg p hp).1)
  have h2 : numB a hd id = true := by
    unfold numB
    rw [show (a == 0) = false by simp; omega, show (id == 0) = false by simp; omega]
    rcases hh with rfl | ⟨h3, h4⟩
    · rfl
    · rw [decide_eq_true h3, decide_eq_true h4]; cases (hd == 0) <;> rfl
  unfold oOk fitB
  rw [h1, decide_eq_true (by rw [cpsForm_k hn]; exact hl), h2]
  rcases hs with ⟨hs, ha2⟩ | hs
  · rw [hs]
    show (true && (true && (true && decide (a ≤ 65535)))) = true
    rw [decide_eq_true ha2]; rfl
  · rw [hs]
    show (true && (true && (true && (a == a)))) = true
    simp
theorem good_oOk {a hd id : Int} {L : List Cp} (hn : ∀ s ∈ L, s.n = s.xs.length) (hb : ∀ s ∈ L, byteC s.xs) (ha : 0 ≤ a ∧ a < 4294967296) (hi : 0 ≤ id ∧ id < 4294967296) (h : oOk a hd id L = true) : OGood a hd id (L.map cpK) := by
  have h2 := oOk_says h
  unfold oOk fitB numB at h
  simp only [Bool.and_eq_true, Bool.or_eq_true, Bool.not_eq_true', beq_eq_false_iff_ne, ne_eq, beq_iff_eq, decide_eq_true_eq] at h
  obtain ⟨h3, h4, ⟨h5, h6, h7⟩, _⟩ := h
  refine ⟨by omega, by omega, by omega, fun q hq => ⟨good_of_ok hn h3 q hq, ?_⟩, by rw [← cpsForm_k hn]; exact h4, ?_⟩
  · obtain ⟨s, hs, rfl⟩ := List.mem_map.1 hq
    exact hb s hs
  · have h8 := h2.2
    cases hs : sysK (L.map cpK) with
    | none => rw [hs] at h8; exact .inl ⟨rfl, by simpa using h8⟩
    | some s => rw [hs] at h8; exact .inr (by simpa using h8)
end Go.Proofs.Ytniheakafkakhaa

/- what both Parses of OPENs give, in one form; peeragelaw17.Back; peerageref04.Same -/
namespace Go.Proofs.Ytniheakafkakhaa
open Go.RowKit Go.Sort
set_option maxRecDepth 100000 in
theorem rsame1_same (A A2 : Option Addr) (n n2 c c2 : Nat) (xs : List Int) (w : World) (B B2 : Nat) (hx : Bytes w B A n xs) (hy : Bytes w B2 A2 n2 xs) :
    Calls Try.prog 31 #[.slice A n c, .slice A2 n2 c2] w fun e w' => e = .returned (.bool true) ∧ w = w' := by
  have h1 := bytes_str (c := c) hx
  have h2 := bytes_str (c := c2) hy
  generalize strOfNums xs = s at h1 h2
  go_enter Try.func31, Try.ntmps31
  go_wp2
  go_ret
  exact ⟨by simp, rfl⟩
set_option maxRecDepth 100000 in
set_option maxHeartbeats 800000 in
theorem vsame_same (a b c d : Int) (A A2 : Option Addr) (n n2 c1 c2 : Nat) (xs : List Int) (w : World) (hx : Bytes w w.heap.size A n xs) (hy : Bytes w w.heap.size A2 n2 xs) :
    Calls Try.prog 9 #[.agg #[.int .i64 a, .int .i64 b, .int .i64 c, .slice A n c1, .int .i64 d], .agg #[.int .i64 a, .int .i64 b, .int .i64 c, .slice A2 n2 c2, .int .i64 d]] w fun e w' => e = .returned (.bool true) ∧ Below w.heap.size w w' := by
  have hb := bl_alloc (bl_alloc (bl_refl w) (.cells #[.int .i64 a, .int .i64 b, .int .i64 c, .slice A n c1, .int .i64 d] 29)) (.cells #[.int .i64 a, .int .i64 b, .int .i64 c, .slice A2 n2 c2, .int .i64 d] 29)
  have hx1 := hx.below hb
  have hy1 := hy.below hb
  have qa : (a == a) = true := by simp
  have qb : (b == b) = true := by simp
  have qc : (c == c) = true := by simp
  have qd : (d == d) = true := by simp
  go_enter Try.func9, Try.ntmps9
  go_wp2_with fail
  refine (rsame1_same _ _ _ _ _ _ _ _ _ _ hx1 hy1).mono ?_
  rintro e w1 ⟨rfl, rfl⟩
  go_wp2
  go_ret
  exact ⟨rfl, hb⟩
set_option maxRecDepth 100000 in
set_option maxHeartbeats 1600000 in
theorem back17_any (p q r : Int) (A : Option Addr) (n c : Nat) (ss : List Cp) (w : World) (h : Caps w w.heap.size A n ss) (hn : n ≤ 100000) :
    Calls Try.prog 11 #[.agg #[.int .u32 p, .int .i64 q, .int .u32 r, .slice A n c]] w fun e w' => ∃ A' c', e = .returned (.agg #[.int .u32 p, .int .i64 q, .int .u32 r, .slice A' n c']) ∧ Caps w' w'.heap.size A' n ss ∧ Below w.heap.size w w' := by
  have hb0 := bl_alloc (bl_alloc (bl_refl w) (.cells #[.int .u32 p, .int .i64 q, .int .u32 r, .slice A n c] 27)) (.cells #[.int .u32 0, .int .i64 0, .int .u32 0, .slice none 0 0] 34)
  have o0 := (Own.new w 27 #[.int .u32 p, .int .i64 q, .int .u32 r, .slice A n c]).alloc (.cells #[.int .u32 0, .int .i64 0, .int .u32 0, .slice none 0 0] 34)
  have o1 := Own.new (w.alloc (.cells #[.int .u32 p, .int .i64 q, .int .u32 r, .slice A n c] 27)) 34 #[.int .u32 0, .int .i64 0, .int .u32 0, .slice none 0 0]
  have HC := Lib.hid (h.step hb0)
  rw [show (w.alloc (.cells #[.int .u32 p, .int .i64 q, .int .u32 r, .slice A n c] 27)).heap.size = w.heap.size + 1 by simp] at o1
  clear h
  go_enter Try.func11, Try.ntmps11
  go_wp2_with fail
  generalize ((w.alloc (.cells #[.int .u32 p, .int .i64 q, .int .u32 r, .slice A n c] 27)).alloc (.cells #[.int .u32 0, .int .i64 0, .int .u32 0, .slice none 0 0] 34)) = X at *
  refine wp_region_held_drew (S := (fun X => Own X w.heap.size 27 #[.int .u32 p, .int .i64 q, .int .u32 r, .slice A n c])) (by kernel_rfl) o0.drew (fun hHeld => ?_)
  refine wpAnyH_take (i := 0) (v := ?_) rfl (by kernel_rfl) (by kernel_rfl) (by kernel_rfl) (fun _ _ _ h => h) (Or.inl ⟨by rfl, ?_⟩) (by assumption) ?_
  rotate_left
  · (intro W hSw; have s0 : Own W w.heap.size 27 #[.int .u32 p, .int .i64 q, .int .u32 r, .slice A n c] := hSw; obtain ⟨e0, e1, e2, e3⟩ := own_end s0; go_simp; try with_reducible rfl)
  simp only [Act.put, List.getElem_toArray, List.getElem_cons_zero, List.setIfInBounds_toArray, List.set_cons_zero, List.set_cons_succ]
  refine wpAnyH_take (i := 1) (v := ?_) rfl (by kernel_rfl) (by kernel_rfl) (by kernel_rfl) (fun _ _ _ h => h) (Or.inl ⟨by rfl, ?_⟩) (by assumption) ?_
  rotate_left
  · (intro W hSw; have s0 : Own W w.heap.size 27 #[.int .u32 p, .int .i64 q, .int .u32 r, .slice A n c] := hSw; obtain ⟨e0, e1, e2, e3⟩ := own_end s0; go_simp; try with_reducible rfl)
  simp only [Act.put, List.getElem_toArray, List.getElem_cons_zero, List.getElem_cons_succ, List.setIfInBounds_toArray, List.set_cons_zero, List.set_cons_succ]
  refine wpAnyH_take (i := 2) (v := ?_) rfl (by kernel_rfl) (by kernel_rfl) (by kernel_rfl) (fun _ _ _ h => h) (Or.inl ⟨by rfl, ?_⟩) (by assumption) ?_
  rotate_left
  · (intro W hSw; have s0 : Own W w.heap.size 27 #[.int .u32 p, .int .i64 q, .int .u32 r, .slice A n c] := hSw; obtain ⟨e0, e1, e2, e3⟩ := own_end s0; go_simp; try with_reducible rfl)
  simp only [Act.put, List.getElem_toArray, List.getElem_cons_zero, List.getElem_cons_succ, List.setIfInBounds_toArray, List.set_cons_zero, List.set_cons_succ]
  refine wpAnyH_take (i := 3) (v := ?_) rfl (by kernel_rfl) (by kernel_rfl) (by kernel_rfl) (fun _ _ _ h => h) (Or.inl ⟨by rfl, ?_⟩) (by assumption) ?_
  rotate_left
  · (intro W hSw; have s0 : Own W w.heap.size 27 #[.int .u32 p, .int .i64 q, .int .u32 r, .slice A n c] := hSw; obtain ⟨e0, e1, e2, e3⟩ := own_end s0; go_simp; try with_reducible rfl)
  simp only [Act.put, List.getElem_toArray, List.getElem_cons_zero, List.getElem_cons_succ, List.setIfInBounds_toArray, List.set_cons_zero, List.set_cons_succ]
  refine wpAnyH_take (i := 4) (v := ?_) rfl (by kernel_rfl) (by kernel_rfl) (by kernel_rfl) (fun _ _ _ h => h) (Or.inl ⟨by rfl, ?_⟩) (by assumption) ?_
  rotate_left
  · (intro W hSw; have s0 : Own W w.heap.size 27 #[.int .u32 p, .int .i64 q, .int .u32 r, .slice A n c] := hSw; obtain ⟨e0, e1, e2, e3⟩ := own_end s0; go_simp; try with_reducible rfl)
  simp only [Act.put, List.getElem_toArray, List.getElem_cons_zero, List.getElem_cons_succ, List.setIfInBounds_toArray, List.set_cons_zero, List.set_cons_succ]
  refine wpAnyH_take (i := 5) (v := ?_) rfl (by kernel_rfl) (by kernel_rfl) (by kernel_rfl) (fun _ _ _ h => h) (Or.inl ⟨by rfl, ?_⟩) (by assumption) ?_
  rotate_left
  · (intro W hSw; have s0 : Own W w.heap.size 27 #[.int .u32 p, .int .i64 q, .int .u32 r, .slice A n c] := hSw; obtain ⟨e0, e1, e2, e3⟩ := own_end s0; go_simp; try with_reducible rfl)
  simp only [Act.put, List.getElem_toArray, List.getElem_cons_zero, List.getElem_cons_succ, List.setIfInBounds_toArray, List.set_cons_zero, List.set_cons_succ]
  refine wpAnyH_take (i := 6) (v := ?_) rfl (by kernel_rfl) (by kernel_rfl) (by kernel_rfl) (fun _ _ _ h => h) (Or.inl ⟨by rfl, ?_⟩) (by assumption) ?_
  rotate_left
  · (intro W hSw; have s0 : Own W w.heap.size 27 #[.int .u32 p, .int .i64 q, .int .u32 r, .slice A n c] := hSw; obtain ⟨e0, e1, e2, e3⟩ := own_end s0; go_simp; try with_reducible rfl)
  simp only [Act.put, List.getElem_toArray, List.getElem_cons_zero, List.getElem_cons_succ, List.setIfInBounds_toArray, List.set_cons_zero, List.set_cons_succ]
  refine wpAnyH_take (i := 7) (v := ?_) rfl (by kernel_rfl) (by kernel_rfl) (by kernel_rfl) (fun _ _ _ h => h) (Or.inl ⟨by rfl, ?_⟩) (by assumption) ?_
  rotate_left
  · (intro W hSw; have s0 : Own W w.heap.size 27 #[.int .u32 p, .int .i64 q, .int .u32 r, .slice A n c] := hSw; obtain ⟨e0, e1, e2, e3⟩ := own_end s0; go_simp; try with_reducible rfl)
  simp only [Act.put, List.getElem_toArray, List.getElem_cons_zero, List.getElem_cons_succ, List.setIfInBounds_toArray, List.set_cons_zero, List.set_cons_succ]
  refine wpAnyH_ready (rs := [8]) (by kernel_rfl) (by simp) ?_
  refine (AllReadyH.cons rfl (fun K hK => ?_) AllReadyH.nil)
  go_simp
  go_at_call 33
  refine (back16_any A n c ss X.drew (HC.out.step (bl_drewN (bl_refl X) 1)) hn).mono ?_
  rintro e w2 ⟨A2, c2, rfl, hC2, hb2⟩
  have hb3 := bl_trans (bl_drewN (bl_refl X) 1) hb2
  have o2 := o0.step hb3
  have o3 := o1.step hb3
  refine hK.out _ _ o2 (fun hHeld2 => ?_)
  clear hK K hHeld
  have hHeld := hHeld2
  clear hHeld2
  try simp only [Act.put, List.getElem_toArray, List.getElem_cons_zero, List.getElem_cons_succ, List.setIfInBounds_toArray, List.set_cons_zero, List.set_cons_succ]
  refine wpAnyH_take (i := 9) (v := ?_) rfl (by kernel_rfl) (by kernel_rfl) (by kernel_rfl) (fun _ _ _ h => h) (Or.inl ⟨by rfl, ?_⟩) (by assumption) ?_
  rotate_left
  · (intro W hSw; skip; go_simp; try with_reducible rfl)
  simp only [Act.put, List.getElem_toArray, List.getElem_cons_zero, List.getElem_cons_succ, List.setIfInBounds_toArray, List.set_cons_zero, List.set_cons_succ]
  have oZ := (((o3.set_ 0 (.int .u32 p)).set_ 1 (.int .i64 q)).set_ 2 (.int .u32 r)).set_ 3 (.slice A2 n c2)
  have hbx := bl_trans hb0 hb3
  have hl1 : w.heap.size ≤ w.heap.size + 1 := by omega
  have hl2 := hbx.size
  have hl3 : w2.heap.size ≤ w2.heap.size := Nat.le_refl _
  have hbZ := (((hbx.setCell (p := ⟨w.heap.size + 1, 0, none⟩) hl1 (.int .u32 p)).setCell (p := ⟨w.heap.size + 1, 1, none⟩) hl1 (.int .i64 q)).setCell (p := ⟨w.heap.size + 1, 2, none⟩) hl1 (.int .u32 r)).setCell (p := ⟨w.heap.size + 1, 3, none⟩) hl1 (.slice A2 n c2)
  have hCZ : Caps ((((w2.setCell ⟨w.heap.size + 1, 0, none⟩ (.int .u32 p)).setCell ⟨w.heap.size + 1, 1, none⟩ (.int .i64 q)).setCell ⟨w.heap.size + 1, 2, none⟩ (.int .u32 r)).setCell ⟨w.heap.size + 1, 3, none⟩ (.slice A2 n c2)) w2.heap.size A2 n ss := (((hC2.otherW o3 (noCap_open 0 0 0 _ (by simp) (by simp)) 0 (.int .u32 p)).otherW (o3.set_ 0 (.int .u32 p)) (noCap_open p 0 0 _ (by simp) (by simp)) 1 (.int .i64 q)).otherW ((o3.set_ 0 (.int .u32 p)).set_ 1 (.int .i64 q)) (noCap_open p q 0 _ (by simp) (by simp)) 2 (.int .u32 r)).otherW (((o3.set_ 0 (.int .u32 p)).set_ 1 (.int .i64 q)).set_ 2 (.int .u32 r)) (noCap_open p q r _ (by simp) (by simp)) 3 (.slice A2 n c2)
  have oY := (((o2.far (p := ⟨w.heap.size + 1, 0, none⟩) (by show _ ≠ _; simp <;> omega) (.int .u32 p)).far (p := ⟨w.heap.size + 1, 1, none⟩) (by show _ ≠ _; simp <;> omega) (.int .i64 q)).far (p := ⟨w.heap.size + 1, 2, none⟩) (by show _ ≠ _; simp <;> omega) (.int .u32 r)).far (p := ⟨w.heap.size + 1, 3, none⟩) (by show _ ≠ _; simp <;> omega) (.slice A2 n c2)
  refine wpAnyH_ready (rs := [10]) (by kernel_rfl) (by simp) ?_
  refine (AllReadyH.cons rfl (fun K hK => ?_) AllReadyH.nil)
  have z0 := o3.frozen 0
  have z1 := o3.frozen 1
  have z2 := o3.frozen 2
  have z3 := o3.frozen 3
  obtain ⟨y0, y1, y2, y3⟩ := own_end o3
  go_simp
  refine hK.out _ _ oY (fun hHeld2 => ?_)
  clear hK K hHeld
  have hHeld := hHeld2
  clear hHeld2
  try simp only [Act.put, List.getElem_toArray, List.getElem_cons_zero, List.getElem_cons_succ, List.setIfInBounds_toArray, List.set_cons_zero, List.set_cons_succ]
  refine wpAnyH_done (by kernel_rfl) ?_ _
  go_wp2
  exact bodyPost_ret (results_cell1N (p := 2) (fn := Try.f11) rfl _ _ (w.heap.size + 1) 34 #[.int .u32 p, .int .i64 q, .int .u32 r, .slice A2 n c2] _ rfl oZ ro_descP rfl (ro_infoP _ _ _ _)) rfl ⟨A2, c2, rfl, hCZ.more (by simp), hbZ⟩
/-- The OPEN and the verdict of an answer. -/
def oAns (r : (Int × Int × List Int) ⊕ (Int × Int × Int × List (Int × List Int))) : (Int × Int × Int × List (Int × List Int)) × (Int × Int × Int × Int × List Int) := match r with
  | .inl (s, t, ds) => ((0, 0, 0, []), (4, 2, s, t, ds))
  | .inr (a, hd, id, N) => ((a, hd, id, N), (0, 0, 0, 0, []))
theorem kform_len : ∀ (N : List (Int × List Int)), 2 * N.length ≤ (N.flatMap kFormC).length
  | [] => Nat.zero_le _
  | p :: N => by
    have := kform_len N
    have h2 : 2 ≤ (kFormC p).length := by
      unfold kFormC
      simp only [List.length_cons]
      omega
    rw [List.flatMap_cons, List.length_append, List.length_cons]
    omega
theorem oAns_few {bs : List Int} (hb : byteC bs) : (oAns (oParse bs)).1.2.2.2.length ≤ 200 := by
  cases h : oParse bs with
  | inl e => obtain ⟨s, t, ds⟩ := e; exact Nat.zero_le _
  | inr x =>
    obtain ⟨a, hd, id, N⟩ := x
    have := (oParse_good hb h).1.2.2.2.2.1
    have h2 := kform_len N
    show N.length ≤ 200
    omega
theorem OPR.join {bs : List Int} {w w' : World} {e : Ending} (hb : byteC bs) (h : OPR bs w e w') : ∃ A c L D dn dc, e = .returned (.tuple #[.agg #[.int .u32 (oAns (oParse bs)).1.1, .int .i64 (oAns (oParse bs)).1.2.1, .int .u32 (oAns (oParse bs)).1.2.2.1, .slice A L.length c], .agg #[.int .i64 (oAns (oParse bs)).2.1, .int .i64 (oAns (oParse bs)).2.2.1, .int .i64 (oAns (oParse bs)).2.2.2.1, .slice D dn dc, .int .i64 (oAns (oParse bs)).2.2.2.2.1]]) ∧ Caps w' w'.heap.size A L.length L ∧ L.map cpK = (oAns (oParse bs)).1.2.2.2 ∧ L.length ≤ 200 ∧ Bytes w' w'.heap.size D dn (oAns (oParse bs)).2.2.2.2.2 ∧ Below w.heap.size w w' := by
  have hf := oAns_few hb
  rcases h with ⟨s, t, ds, D, dn, dc, hp, rfl, hB, hbl⟩ | ⟨a, hd, id, A, n, c, L, hp, rfl, hC, hbl⟩
  · rw [hp]
    exact ⟨none, 0, [], D, dn, dc, rfl, caps_nilO _ _, rfl, by simp, hB, hbl⟩
  · rw [← hp] at hf ⊢
    have hn : n = L.length := hC.1
    subst hn
    have hL : L.length ≤ 200 := by have h2 : (L.map cpK).length ≤ 200 := hf; rwa [List.length_map] at h2
    exact ⟨A, c, L, none, 0, 0, rfl, hC, rfl, hL, Bytes.nil _ _ _, hbl⟩
/-- What a Parse leaves, in plain variables. -/
def PRes (a hd id : Int) (N : List (Int × List Int)) (k cd s t : Int) (ds : List Int) (w : World) (e : Ending) (w' : World) : Prop := ∃ A c L D dn dc, e = .returned (.tuple #[.agg #[.int .u32 a, .int .i64 hd, .int .u32 id, .slice A (List.length L) c], .agg #[.int .i64 k, .int .i64 cd, .int .i64 s, .slice D dn dc, .int .i64 t]]) ∧ Caps w' w'.heap.size A L.length L ∧ L.map cpK = N ∧ L.length ≤ 200 ∧ Bytes w' w'.heap.size D dn ds ∧ Below w.heap.size w w'
theorem OPR.res {bs : List Int} {a hd id : Int} {N : List (Int × List Int)} {k cd s t : Int} {ds : List Int} (hq : oAns (oParse bs) = ((a, hd, id, N), (k, cd, s, t, ds))) (hb : byteC bs) {w w' : World} {e : Ending} (h : OPR bs w e w') : PRes a hd id N k cd s t ds w e w' := by
  have h2 := h.join hb
  rw [hq] at h2
  exact h2
/-- What is in the boxes of a Parse's results. -/
def PBx (T : TypeId) (a hd id : Int) (N : List (Int × List Int)) (k cd s t : Int) (ds : List Int) (w : World) (v3 v4 : Value) (wx : World) : Prop := ∃ g1 g2 A c L D dn dc, v3 = .pointer (some ⟨g1, 0, none⟩) ∧ v4 = .pointer (some ⟨g2, 0, none⟩) ∧ Own wx g1 T #[.int .u32 a, .int .i64 hd, .int .u32 id, .slice A (List.length L) c] ∧ Own wx g2 29 #[.int .i64 k, .int .i64 cd, .int .i64 s, .slice D dn dc, .int .i64 t] ∧ Caps wx wx.heap.size A L.length L ∧ L.map cpK = N ∧ L.length ≤ 200 ∧ Bytes wx wx.heap.size D dn ds ∧ Below w.heap.size w wx
end Go.Proofs.Ytniheakafkakhaa

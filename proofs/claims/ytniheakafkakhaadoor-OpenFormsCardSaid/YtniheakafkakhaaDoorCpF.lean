/- capability.Read -/
import Derived.Test.YtniheakafkakhaaDoorCpE
namespace Go.Proofs.YtniheakafkakhaaDoor
open Go.RowKit

theorem big_one (a : Int) (t : List Int) : big ((a :: t).take (1 : Int).toNat) = a := by show big [a] = a; simp [big]
theorem grown_rest {w w' : World} {g : Nat} (h : w.grownBy w' (some g)) : Rest w w' (fun i => i = g) := Rest.of_grown h (fun _ hj => (Option.some.inj hj).symm)
set_option maxRecDepth 100000 in
set_option maxHeartbeats 12800000 in
theorem cread_any (A : Option Addr) (n c : Nat) (xs : List Int) (w : World) (h : Bytes w w.heap.size A n xs) (hn : n ≤ 20000) :
    Calls Tryd.prog 141 #[.slice A n c] w fun e w' => ∃ v L q, e = .returned (.tuple #[v, .bool q]) ∧ CRow 83 w' w.heap.size v L ∧ Hid (GotC (readC (xs.length + 1) xs) q L) ∧ Below w.heap.size w w' := by
  have hX := Lib.hid (new_any A n c xs w h (by omega))
  have hl := h.1
  have HL := Lib.hid (show xs.length ≤ 20000 by omega)
  have HBy := Lib.hid (show byteC xs from h.2.1)
  clear h hl
  go_enter Tryd.func141, Tryd.ntmps141
  go_wp2_with fail
  refine hX.out.mono ?_
  rintro e w1 ⟨g, rfl, hg, hr, hb1⟩
  have rB := hr.toB
  have HW1 := Lib.hid hb1.size
  clear hr hX
  go_wp2_with fail
  go_loopw [4, 6, 7, 8, 9, 10] (fun v _ _ _ _ _ wr => ∃ (L : List Cp) (ys : List Int) (p : Nat), CRow 83 wr w1.heap.size v L ∧ Hid (ComeC xs (L.map cpK) ys ∧ byteC ys ∧ 2 * L.length + ys.length ≤ xs.length ∧ ∀ s ∈ L, s.n ≤ 1000) ∧ p + ys.length ≤ 100000 ∧ RdrB w1.heap.size wr g ys p ∧ Below w.heap.size w wr) (fun v _ _ _ _ _ _ => 20000 - lenOfC v)
  case atStart => exact ⟨[], xs, 0, CRow.nil _ _ _, Lib.hid ⟨ComeC.start xs, HBy.out, by simp, (fun _ h => by cases h)⟩, by have := HL.out; omega, rB, hb1⟩
  case round =>
    obtain ⟨L, ys, p, hrow, hL, hp, rr, hb⟩ := hrel
    clear rB hb1
    obtain ⟨A0, c0, rfl⟩ := hrow.form
    have hlf := Lib.hid (left_any g ys p wr rr.rdr)
    have hrg := hL.out.2.1
    have hLl := hL.out.2.2.1
    have hxl := HL.out
    have HRow := Lib.hid hrow
    have HR := Lib.hid rr
    have HB := Lib.hid hb
    clear hrow rr hb
    match ys, hp, hL, hlf, hrg, hLl, HR with
    | [], hp, hL, hlf, hrg, hLl, HR =>
      have hG := Lib.hid (show GotC (readC (xs.length + 1) xs) true L from ⟨.inl ⟨hL.out.1.done, rfl⟩, by omega, hL.out.2.2.2⟩)
      have hrow2 := HRow.out.lift HW1.out
      clear hrg
      go_wp2_with fail
      refine hlf.out.mono ?_
      rintro e w' ⟨rfl, rfl⟩
      go_wp2
      go_ret2
      exact ⟨_, L, true, rfl, hrow2, hG, HB.out⟩
    | [a], hp, hL, hlf, hrg, hLl, HR =>
      have hG := Lib.hid (show GotC (readC (xs.length + 1) xs) false [] from ⟨.inr ⟨hL.out.1.fail (by simp) (by unfold okC; exact decide_eq_false (by simp)), rfl, rfl⟩, by simp, (fun _ h => by cases h)⟩)
      have hN := Lib.hid (number_yesB w1.heap.size g [a] p 1 _ HR.out (by simp) (by omega) (by omega) (by omega) (by simp))
      rw [big_one] at hN
      clear hrg hLl
      go_wp2_with fail
      refine hlf.out.mono ?_
      rintro e w' ⟨rfl, rfl⟩
      go_wp2_with fail
      refine hN.out.mono ?_
      rintro e w2 ⟨rfl, r2, hg2⟩
      have hN2 := Lib.hid (number_no g _ _ 1 w2 r2.rdr (by simp) (by omega) (by omega) (by simp))
      have hb2 := HB.out.grown hg2 HB.out.size (fun j hj => by cases hj; exact hg)
      clear r2 hg2
      go_wp2_with fail
      refine hN2.out.mono ?_
      rintro e w3 ⟨rfl, rfl⟩
      go_wp2
      go_ret2
      exact ⟨_, [], false, rfl, CRow.nil _ _ _, hG, hb2⟩
    | a :: b :: zs, hp, hL, hlf, hrg, hLl, HR =>
      have ha := hrg a (by simp)
      have hbb := hrg b (by simp)
      have hz : byteC zs := fun y hy => hrg y (by simp [hy])
      have HZ := Lib.hid hz
      simp only [List.length_cons] at hp hLl
      have hN := Lib.hid (number_yesB w1.heap.size g (a :: b :: zs) p 1 _ HR.out (by simp; omega) (by omega) (by omega) (by omega) (by simp; omega))
      rw [big_one] at hN
      obtain ⟨m, rfl⟩ : ∃ m : Nat, b = (m : Int) := ⟨b.toNat, by omega⟩
      have hN2 := Lib.hid (fun W (h : RdrB w1.heap.size W g ((m : Int) :: zs) (p + 1)) => number_yesB w1.heap.size g ((m : Int) :: zs) (p + 1) 1 W h (by simp; omega) (by omega) (by omega) (by omega) (by simp; omega))
      rw [big_one] at hN2
      have hok : Hid (okC (a :: (m : Int) :: zs) = decide (m ≤ zs.length)) := Lib.hid (by
        unfold okC
        rw [show nth (a :: (m : Int) :: zs) 1 = (m : Int) from rfl, Int.toNat_natCast, Bool.eq_iff_iff, decide_eq_true_iff, decide_eq_true_iff]
        simp only [List.length_cons]
        omega)
      have hrest : Hid (restC (a :: (m : Int) :: zs) = zs.drop m) := Lib.hid (by
        unfold restC
        rw [show nth (a :: (m : Int) :: zs) 1 = (m : Int) from rfl, Int.toNat_natCast, ← List.drop_drop]
        rfl)
      have hseg : Hid (segC (a :: (m : Int) :: zs) = (a, zs.take m)) := Lib.hid (by
        unfold segC
        rw [show nth (a :: (m : Int) :: zs) 1 = (m : Int) from rfl, Int.toNat_natCast]
        rfl)
      have hlc : 0 < zs.length + 1 + 1 := by omega
      clear hrg hz
      by_cases hlt : m ≤ zs.length
      · have hok2 : Hid (okC (a :: (m : Int) :: zs) = true) := Lib.hid (hok.out.trans (decide_eq_true hlt))
        have hCs := Lib.hid (hL.out.1.step (by simp) hok2.out)
        rw [hrest.out, hseg.out] at hCs
        have hT := Lib.hid (fun W (h : RdrB w1.heap.size W g zs (p + 1 + 1)) => take_yesB w1.heap.size g zs (p + 1 + 1) (m : Int) W h (by omega) (by omega) (by omega) (by omega))
        have HLT := Lib.hid hlt
        have hm0 : (0 : Int) ≤ (m : Int) := by omega
        clear hok hrest hseg hlt
        go_wp2_with fail
        refine hlf.out.mono ?_
        rintro e w' ⟨rfl, rfl⟩
        go_wp2_with fail
        refine hN.out.mono ?_
        rintro e w2 ⟨rfl, r2, hg2⟩
        go_wp2_with fail
        refine (hN2.out w2 r2).mono ?_
        rintro e w3 ⟨rfl, r3, hg3⟩
        go_wp2_with fail
        refine (hT.out w3 r3).mono ?_
        rintro e w4 ⟨j, rfl, hj, ho, r4, hg4⟩
        rw [Int.toNat_natCast] at ho r4 ⊢
        have gty := HR.out.typedC
        have R2 := grown_rest hg2
        have R3 := grown_rest hg3
        have R4 := grown_rest hg4
        have R := (R2.trans R3 (fun _ _ e => e)).trans R4 (fun _ _ e => e)
        have row4 := HRow.out.rest R (fun j t ht _ hty e => by
          have e2 : j = g := e
          rcases ht with rfl | rfl
          · exact hty.ne gty cp_types.2.2.1 e2
          · exact hty.ne gty cp_types.2.2.2 e2)
        have hb4 : Below w.heap.size w w4 := HB.out.trans (R.to_below HB.out.size (fun i hi e => by have e2 : i = g := e; omega))
        have hlen : (zs.take m).length = m := by rw [List.length_take]; have := HLT.out; omega
        have hs1 := HR.out.size
        have hsr := (R2.trans R3 (fun _ _ e => e)).size
        have hD4 : CD w4 w1.heap.size ⟨a, some ⟨j, 0, none⟩, m, m, zs.take m⟩ := ⟨Own.rowC ho hlen (by omega) (show m ≤ maxLen by unfold maxLen; omega), hlen.symm, fun x hx => HZ.out x (List.mem_of_mem_take hx)⟩
        have bQ := bl_alloc (bl_refl w4) (.cells #[.int .i64 a, .slice (some ⟨j, 0, none⟩) m m] 83)
        have HRow5 := Lib.hid (row4.below bQ)
        have HD5 := Lib.hid (hD4.below bQ)
        have HB5 := Lib.hid (hb4.alloc hb4.size (.cells #[.int .i64 a, .slice (some ⟨j, 0, none⟩) m m] 83))
        have HR5 := Lib.hid (r4.below bQ)
        have hbs5 : w1.heap.size ≤ w4.heap.size := by have := r4.size; omega
        have hHL := Lib.hid hlen
        have oQ := Own.new w4 83 #[.int .i64 a, .slice (some ⟨j, 0, none⟩) m m]
        clear row4 hD4 hb4 r4 r3 r2 hg2 hg3 hg4 R R2 R3 R4 ho bQ hlen gty
        go_wp2_with (at_builtin; refine wpList_append_grow _ rfl _ _ rfl sl_cps w1.heap.size _ L.length _ rfl HRow5.out.1 (w4.heap.size + 1) (some ⟨w4.heap.size, 0, none⟩) 1 1 [.int .i64 a, .slice (some ⟨j, 0, none⟩) m m] rfl rfl (Shows.of_owned (xs := [.int .i64 a, .slice (some ⟨j, 0, none⟩) m m]) oQ (Nat.lt_succ_self _)) (oneP _ _ _ _) (by unfold maxLen; omega) (by omega) (by simp; omega) ?_; intro v5 w5 ho5 hg5)
        have row5 := HRow5.out.push cp_types.1 (q := ⟨a, some ⟨j, 0, none⟩, m, m, zs.take m⟩) HD5.out ho5 hg5
        have RG := Rest.of_grown hg5 (P := fun i => (Value.slice A0 L.length c0).ownBlock = some i) (fun j hj => hj)
        have rr5 := HR5.out.restC RG (fun i hi e => by
          rcases hi with hi | rfl
          · have := (row_typed HRow5.out.1 e).2; omega
          · exact (row_typed HRow5.out.1 e).1.ne HR5.out.typedC cp_types.2.2.1 rfl)
        have hB5 := HB5.out.grown hg5 (by have := HB5.out.size; exact this) (fun j hj => by have := (row_typed HRow5.out.1 hj).2; have := HW1.out; omega)
        have hF := Lib.hid (show ComeC xs ((L ++ [(⟨a, some ⟨j, 0, none⟩, m, m, zs.take m⟩ : Cp)]).map cpK) (zs.drop m) ∧ byteC (zs.drop m) ∧ 2 * (L ++ [(⟨a, some ⟨j, 0, none⟩, m, m, zs.take m⟩ : Cp)]).length + (zs.drop m).length ≤ xs.length ∧ ∀ s ∈ L ++ [(⟨a, some ⟨j, 0, none⟩, m, m, zs.take m⟩ : Cp)], s.n ≤ 1000 from ⟨by
          rw [List.map_append]
          exact hCs.out, HZ.out.drop m, by rw [List.length_append, List.length_singleton, List.length_drop]; omega, fun s hs => by
          rcases List.mem_append.1 hs with hs | hs
          · exact hL.out.2.2.2 s hs
          · rw [List.mem_singleton] at hs
            subst hs
            show m ≤ 1000
            omega⟩)
        have hfin := Lib.hid (show L.length + 1 ≤ 20000 by omega)
        have hpf : p + 1 + 1 + m + (zs.drop m).length ≤ 100000 := by rw [List.length_drop]; have := HLT.out; omega
        obtain ⟨A5, c5, rfl⟩ := row5.form
        go_roundw
        case rel => exact ⟨_, zs.drop m, _, row5, hF, hpf, rr5, hB5⟩
        case measure =>
          have := hfin.out
          simp [lenOfC]
          omega
      · have hok2 : Hid (okC (a :: (m : Int) :: zs) = false) := Lib.hid (hok.out.trans (decide_eq_false hlt))
        have hG := Lib.hid (show GotC (readC (xs.length + 1) xs) false [] from ⟨.inr ⟨hL.out.1.fail (by simp) hok2.out, rfl, rfl⟩, by simp, (fun _ h => by cases h)⟩)
        have hT := Lib.hid (fun W (h : RdrB w1.heap.size W g zs (p + 1 + 1)) => take_no g zs (p + 1 + 1) (m : Int) W h.rdr (by omega) (.inr (by omega)))
        have hm0 : (0 : Int) ≤ (m : Int) := by omega
        clear hok hrest hseg hlt
        go_wp2_with fail
        refine hlf.out.mono ?_
        rintro e w' ⟨rfl, rfl⟩
        go_wp2_with fail
        refine hN.out.mono ?_
        rintro e w2 ⟨rfl, r2, hg2⟩
        go_wp2_with fail
        refine (hN2.out w2 r2).mono ?_
        rintro e w3 ⟨rfl, r3, hg3⟩
        have hT3 := Lib.hid (hT.out w3 r3)
        have R := (grown_rest hg2).trans (grown_rest hg3) (fun _ _ e => e)
        have hb3 : Below w.heap.size w w3 := HB.out.trans (R.to_below HB.out.size (fun i hi e => by have e2 : i = g := e; omega))
        clear r2 r3 hg2 hg3 R
        go_wp2_with fail
        refine hT3.out.mono ?_
        rintro e w4 ⟨rfl, rfl⟩
        go_wp2
        go_ret2
        exact ⟨_, [], false, rfl, CRow.nil _ _ _, hG, hb3⟩
end Go.Proofs.YtniheakafkakhaaDoor

/- XSqMc: XSqT, XSqI, XSqP, XSqW, XSqL in one text -/
import Derived.Test.YtecbbjdcnlocdaaDoorSgO
import Derived.Test.YtecbbjdcnlocdaaDoorSgE
import Derived.Test.YtecbbjdcnlocdaaDoorSgX
import Derived.Test.YtecbbjdcnlocdaaDoorSqMb
import Derived.Test.YtecbbjdcnlocdaaDoorSgR
import Derived.Test.YtecbbjdcnlocdaaDoorSgL
/- peerageref06.Text -/
namespace Go.Proofs.YtecbbjdcnlocdaaDoor
open Go.RowKit Go.Sort

theorem joinB_snoc (xs : List ByteArray) (y : ByteArray) (h : xs ≠ []) : joinB (xs ++ [y]) [32] = joinB xs [32] ++ ⟨#[32]⟩ ++ y := by
  unfold joinB
  rw [List.map_append]
  have hne : xs.map (fun x : ByteArray => x.data.toList) ≠ [] := by simpa using h
  rw [show [y].map (fun x : ByteArray => x.data.toList) = [y.data.toList] from rfl, lib_join_snoc _ _ _ hne]
  apply ByteArray.ext
  simp
theorem joinB_one (y : ByteArray) : joinB [y] [32] = y := by
  unfold joinB
  apply ByteArray.ext
  simp [Lib.join_one]
theorem sgsTxt_first {ss : List Sg} (h : 0 < ss.length) : sgsTxt (ss.take (0 + 1)) = sgTxt (sgth ss 0) := by
  rw [take_sgth h]
  unfold sgsTxt
  rw [List.take_zero, List.nil_append, List.map_singleton, joinB_one]
theorem sgsTxt_step {ss : List Sg} {k : Nat} (h : k < ss.length) (h1 : 0 < k) : sgsTxt (ss.take (k + 1)) = sgsTxt (ss.take k) ++ ⟨#[32]⟩ ++ sgTxt (sgth ss k) := by
  rw [take_sgth h]
  unfold sgsTxt
  rw [List.map_append, List.map_singleton, joinB_snoc _ _ (by
    intro e
    have := congrArg List.length e
    rw [List.length_map, List.length_take] at this
    have h3 : min k ss.length = 0 := this
    omega)]
theorem segJ_first {xs : List Int} (h : 0 < xs.length) : segJ (xs.take (0 + 1)) = decB (nth xs 0) := by
  rw [take_nth h]
  unfold segJ
  rw [List.take_zero, List.nil_append, List.map_singleton, joinB_one]
theorem segJ_step {xs : List Int} {k : Nat} (h : k < xs.length) (h1 : 0 < k) : segJ (xs.take (k + 1)) = segJ (xs.take k) ++ ⟨#[32]⟩ ++ decB (nth xs k) := by
  rw [take_nth h]
  unfold segJ
  rw [List.map_append, List.map_singleton, joinB_snoc _ _ (by
    intro e
    have := congrArg List.length e
    rw [List.length_map, List.length_take] at this
    have h3 : min k xs.length = 0 := this
    omega)]
theorem sgsTxt_sizeQ {ss : List Sg} (h : ∀ s ∈ ss, (sgTxt s).size ≤ 5102) (hl : ss.length ≤ 1000) (k : Nat) : (sgsTxt (ss.take k)).size ≤ 5103000 := by
  have := joinB_size (k := 5102) (s := 1) (xs := (ss.take k).map sgTxt) (sep := [32]) (fun y hy => by
    obtain ⟨s, hs, rfl⟩ := List.mem_map.1 hy
    exact h s (List.mem_of_mem_take hs)) (by simp)
  rw [List.length_map, List.length_take] at this
  unfold sgsTxt
  omega
theorem segJ_sizeQ {xs : List Int} (h : ∀ x ∈ xs, x ≤ 4294967295) (hl : xs.length ≤ 255) (k : Nat) : (segJ (xs.take k)).size ≤ 5100 :=
  segJ_size (fun x hx => h x (List.mem_of_mem_take hx)) (by rw [List.length_take]; omega)
theorem cat_sizeQ {a b : ByteArray} {m k : Nat} (ha : a.size ≤ m) (hb : b.size ≤ k) : (a ++ b).size ≤ m + k := by rw [ByteArray.size_append]; omega
theorem ba_nilQ (a : ByteArray) : a ++ (⟨#[]⟩ : ByteArray) = a := by apply ByteArray.ext; simp
set_option maxRecDepth 100000 in
theorem rtext_no (A : Option Addr) (n c : Nat) (ss : List Sg) (w : World) (h : Segs w w.heap.size A n ss) (hn : n ≤ 1000) (hs : ∀ s ∈ ss, s.n ≤ 1000) (hk : ss.all (sgOk 4) = false) :
    Calls Tryd.prog 16 #[.slice A n c] w fun e w' => e = .returned (.string ⟨#[]⟩) ∧ Below w.heap.size w w' := by
  have hV := Lib.hid (rvalid_any A n c ss w h hn hs)
  rw [hk] at hV
  clear hk
  go_enter Tryd.func16, Tryd.ntmps16
  go_wp2_with fail
  refine hV.out.mono ?_
  rintro e w1 ⟨rfl, hb⟩
  go_wp2
  go_ret
  exact ⟨rfl, hb⟩
set_option maxRecDepth 100000 in
set_option maxHeartbeats 6400000 in
theorem rtext_yes (A : Option Addr) (n c : Nat) (ss : List Sg) (w : World) (h : Segs w w.heap.size A n ss) (hn : n ≤ 1000) (hs : ∀ s ∈ ss, s.n ≤ 1000) (hk : ss.all (sgOk 4) = true) :
    Calls Tryd.prog 16 #[.slice A n c] w fun e w' => e = .returned (.string (sgsTxt ss)) ∧ Below w.heap.size w w' := by
  have hV := Lib.hid (rvalid_any A n c ss w h hn hs)
  rw [hk] at hV
  have HV := Lib.hid h
  have HN := Lib.hid h.1
  have HK := Lib.hid (fun (s : Sg) (hs : s ∈ ss) => (show (s.k = 1 ∨ s.k = 2) ∧ 1 ≤ s.n ∧ s.n ≤ 255 by have := List.all_eq_true.1 hk s hs; unfold sgOk at this; simp at this; exact this))
  have HXL := Lib.hid (fun s (hs : s ∈ ss) => (show s.xs.length ≤ 255 by have h1 := (HK.out s hs).2.2; have h2 := (h.2.1 s hs).2.2.2.2.1; omega))
  have HSz := Lib.hid (fun s (hs : s ∈ ss) => sgTxt_size (s := s) (fun x hx => by have := (h.2.1 s hs).2.2.2.1 x hx; omega) (HXL.out s hs))
  have hss := Lib.hid (sgsTxt_sizeQ HSz.out (by rw [← h.1]; exact hn))
  clear h hk hs
  go_enter Tryd.func16, Tryd.ntmps16
  go_wp2_with fail
  refine hV.out.mono ?_
  rintro e w1 ⟨rfl, hb0⟩
  go_wp2_with fail
  go_loopw [3, 4] (fun v i wr => ∃ j : Nat, j ≤ n ∧ i = .int .i64 j ∧ v = .string (sgsTxt (ss.take j)) ∧ Below w.heap.size w wr) (fun _ i _ => n - (intOf i).toNat)
  case atStart => exact ⟨0, Nat.zero_le _, rfl, rfl, hb0⟩
  case round =>
    obtain ⟨j, hj, rfl, rfl, hbw⟩ := hrel
    by_cases hlt : j < n
    · obtain ⟨b, o, rfl, hbB, e0, e1⟩ := (HV.out.below hbw).at_ hlt
      have hj1 := Lib.hid (show j < ss.length by rw [← HN.out]; exact hlt)
      have HU := Lib.hid ((segs_u32 HV.out hj1.out).below hbw)
      have hR := Lib.hid ((HV.out.2.1 _ (sgth_mem hj1.out)).2.2.2.1)
      have hOk := HK.out _ (sgth_mem hj1.out)
      have hXl := HXL.out _ (sgth_mem hj1.out)
      have hTx : Hid (sgTxt (sgth ss j) = if (sgth ss j).k = 1 then ⟨#[123]⟩ ++ segJ (sgth ss j).xs ++ ⟨#[125]⟩ else ⟨#[91]⟩ ++ segJ (sgth ss j).xs ++ ⟨#[93]⟩) := Lib.hid rfl
      have hS0 := Lib.hid (fun (h : j = 0) => (show sgsTxt (ss.take (j + 1)) = sgTxt (sgth ss j) by subst h; exact sgsTxt_first hj1.out))
      have hS1 := Lib.hid (fun (h : 0 < j) => sgsTxt_step hj1.out h)
      have hJz := hss.out j
      have hJ0 := Lib.hid (fun (h : j = 0) => (show sgsTxt (ss.take j) = ⟨#[]⟩ by subst h; rfl))
      generalize sgsTxt (ss.take j) = J at *
      generalize sgTxt (sgth ss j) = tx at *
      generalize sgth ss j = s at *
      obtain ⟨sk, sA, sn, sc, sx⟩ := s
      dsimp only at *
      have HL := Lib.hid HU.out.1
      have hn1 : 1 ≤ sn := hOk.2.1
      have hn2 : sn ≤ 255 := hOk.2.2
      have hk12 := hOk.1
      have hXz := Lib.hid (segJ_sizeQ (xs := sx) (fun x hx => by have := hR.out x hx; omega) hXl)
      clear hOk
      have hbs := hbw.size
      obtain ⟨w0, rfl⟩ : ∃ x, x = wr := ⟨_, rfl⟩
      have hbl0 : b < w0.heap.size := by omega
      have HE0 := Lib.hid e0
      have HE1 := Lib.hid e1
      rcases Nat.eq_zero_or_pos j with hj0 | hj0
      · have d0 : decide ((0 : Int) < (j : Int)) = false := by simp; omega
        have d02 : ¬ 0 < j := by omega
        have hT := Lib.hid (show sgsTxt (ss.take (j + 1)) = J ++ tx by rw [hS0.out hj0, hJ0.out hj0]; apply ByteArray.ext; simp)
        have m1 : ¬ 9223372036854775807 < J.size + 1 := by omega
        clear hj0 hS0 hS1 hJ0
        rcases hk12 with rfl | rfl
        · skip
          have hTx2 := Lib.hid (show tx = ⟨#[123]⟩ ++ segJ sx ++ ⟨#[125]⟩ by have := hTx.out; rwa [if_pos rfl] at this)
          clear hTx
          go_wp2_with fail
          go_loopw [3, 7] (fun v i wq => ∃ q : Nat, q ≤ sn ∧ i = .int .i64 q ∧ v = .string ((J ++ ⟨#[123]⟩) ++ segJ (sx.take q)) ∧ Below w0.heap.size w0 wq) (fun _ i _ => sn - (intOf i).toNat)
          case atStart => exact ⟨0, Nat.zero_le _, rfl, congrArg Value.string (ba_nilQ _).symm, bl_refl w0⟩
          case round =>
            obtain ⟨q, hq, rfl, rfl, hbq⟩ := hrel
            have hbwq := bl_trans hbw hbq
            have hXq := hXz.out q
            have e0q := (hbq.cell (p := ⟨b, o + j * 2, none⟩) hbl0).trans HE0.out
            have e1q := (hbq.cell (p := ⟨b, o + j * 2 + 1, none⟩) hbl0).trans HE1.out
            by_cases hltq : q < sn
            · obtain ⟨b2, o2, rfl, hb2B, hc2⟩ := (HU.out.below (Joins.below_le hbq hbs)).at_ hltq
              have hq1 := Lib.hid (show q < sx.length by rw [← HL.out]; exact hltq)
              have hxr := hR.out _ (nth_mem hq1.out)
              have hD0 := Lib.hid (fun (h : q = 0) => (show segJ (sx.take (q + 1)) = decB (nth sx q) by subst h; exact segJ_first hq1.out))
              have hD1 := Lib.hid (fun (h : 0 < q) => segJ_step hq1.out h)
              have hJq0 := Lib.hid (fun (h : q = 0) => (show segJ (sx.take q) = ⟨#[]⟩ by subst h; rfl))
              generalize segJ (sx.take q) = K at *
              generalize nth sx q = x at *
              have hv : IntKind.i64.wrap x = x := by rw [IntKind.wrap_i64]; omega
              have hF := Lib.hid (fun W => rdecimal_any x hxr.1 (by omega) W)
              have hdz := decB_size (n := x) (by omega)
              have hz : ((J ++ ⟨#[123]⟩) ++ K).size ≤ 6000000 := Nat.le_trans (cat_sizeQ (cat_sizeQ hJz (show (⟨#[123]⟩ : ByteArray).size ≤ 1 by decide)) hXq) (by decide)
              clear hxr e0q
              rcases Nat.eq_zero_or_pos q with hq0 | hq0
              · have hS := Lib.hid (show (J ++ ⟨#[123]⟩) ++ segJ (sx.take (q + 1)) = (J ++ ⟨#[123]⟩) ++ K ++ decB x by rw [hD0.out hq0, hJq0.out hq0, ba_nilQ])
                have d : decide ((0 : Int) < (q : Int)) = false := by simp; omega
                have d2 : ¬ 0 < q := by omega
                have n1 : ¬ 9223372036854775807 < ((J ++ ⟨#[123]⟩) ++ K).size + (decB x).size := by omega
                clear hq0
                generalize (J ++ ⟨#[123]⟩) ++ K = Z at *
                generalize decB x = dx at *
                go_wp2_with fail
                refine (hF.out _).mono ?_
                rintro e w2 ⟨rfl, hb2⟩
                have hbq2 := bl_trans hbq hb2
                go_wp2
                go_roundw
                case rel => exact ⟨q + 1, by omega, by go_num, congrArg Value.string hS.out.symm, hbq2⟩
                case measure => simp [intOf]; omega
              · have hS := Lib.hid (show (J ++ ⟨#[123]⟩) ++ segJ (sx.take (q + 1)) = (J ++ ⟨#[123]⟩) ++ K ++ ⟨#[32]⟩ ++ decB x by rw [hD1.out hq0]; apply ByteArray.ext; simp)
                have d : decide ((0 : Int) < (q : Int)) = true := by simp; omega
                have n0 : ¬ 9223372036854775807 < ((J ++ ⟨#[123]⟩) ++ K).size + 1 := by omega
                have n1 : ¬ 9223372036854775807 < ((J ++ ⟨#[123]⟩) ++ K).size + 1 + (decB x).size := by omega
                generalize (J ++ ⟨#[123]⟩) ++ K = Z at *
                generalize decB x = dx at *
                go_wp2_with fail
                refine (hF.out _).mono ?_
                rintro e w2 ⟨rfl, hb2⟩
                have hbq2 := bl_trans hbq hb2
                go_wp2
                go_roundw
                case rel => exact ⟨q + 1, by omega, by go_num, congrArg Value.string hS.out.symm, hbq2⟩
                case measure => simp [intOf]; omega
            · obtain rfl : q = sn := by omega
              have hfull : sx.take q = sx := List.take_of_length_le (by rw [← HL.out]; exact Nat.le_refl _)
              have hS := Lib.hid (show sgsTxt (ss.take (j + 1)) = (J ++ ⟨#[123]⟩) ++ segJ (sx.take q) ++ ⟨#[125]⟩ by rw [hfull, hT.out, hTx2.out]; apply ByteArray.ext; simp)
              have hz : ((J ++ ⟨#[123]⟩) ++ segJ (sx.take q)).size ≤ 6000000 := Nat.le_trans (cat_sizeQ (cat_sizeQ hJz (show (⟨#[123]⟩ : ByteArray).size ≤ 1 by decide)) hXq) (by decide)
              clear hfull e0q
              generalize (J ++ ⟨#[123]⟩) ++ segJ (sx.take q) = Z at *
              have n1 : ¬ 9223372036854775807 < Z.size + 1 := by omega
              go_wp2
              go_roundw
              case rel => exact ⟨j + 1, by omega, by go_num, congrArg Value.string hS.out.symm, hbwq⟩
              case measure => simp [intOf]; omega
        · skip
          have hTx2 := Lib.hid (show tx = ⟨#[91]⟩ ++ segJ sx ++ ⟨#[93]⟩ by have := hTx.out; rwa [if_neg (by decide)] at this)
          clear hTx
          go_wp2_with fail
          go_loopw [3, 7] (fun v i wq => ∃ q : Nat, q ≤ sn ∧ i = .int .i64 q ∧ v = .string ((J ++ ⟨#[91]⟩) ++ segJ (sx.take q)) ∧ Below w0.heap.size w0 wq) (fun _ i _ => sn - (intOf i).toNat)
          case atStart => exact ⟨0, Nat.zero_le _, rfl, congrArg Value.string (ba_nilQ _).symm, bl_refl w0⟩
          case round =>
            obtain ⟨q, hq, rfl, rfl, hbq⟩ := hrel
            have hbwq := bl_trans hbw hbq
            have hXq := hXz.out q
            have e0q := (hbq.cell (p := ⟨b, o + j * 2, none⟩) hbl0).trans HE0.out
            have e1q := (hbq.cell (p := ⟨b, o + j * 2 + 1, none⟩) hbl0).trans HE1.out
            by_cases hltq : q < sn
            · obtain ⟨b2, o2, rfl, hb2B, hc2⟩ := (HU.out.below (Joins.below_le hbq hbs)).at_ hltq
              have hq1 := Lib.hid (show q < sx.length by rw [← HL.out]; exact hltq)
              have hxr := hR.out _ (nth_mem hq1.out)
              have hD0 := Lib.hid (fun (h : q = 0) => (show segJ (sx.take (q + 1)) = decB (nth sx q) by subst h; exact segJ_first hq1.out))
              have hD1 := Lib.hid (fun (h : 0 < q) => segJ_step hq1.out h)
              have hJq0 := Lib.hid (fun (h : q = 0) => (show segJ (sx.take q) = ⟨#[]⟩ by subst h; rfl))
              generalize segJ (sx.take q) = K at *
              generalize nth sx q = x at *
              have hv : IntKind.i64.wrap x = x := by rw [IntKind.wrap_i64]; omega
              have hF := Lib.hid (fun W => rdecimal_any x hxr.1 (by omega) W)
              have hdz := decB_size (n := x) (by omega)
              have hz : ((J ++ ⟨#[91]⟩) ++ K).size ≤ 6000000 := Nat.le_trans (cat_sizeQ (cat_sizeQ hJz (show (⟨#[91]⟩ : ByteArray).size ≤ 1 by decide)) hXq) (by decide)
              clear hxr e0q
              rcases Nat.eq_zero_or_pos q with hq0 | hq0
              · have hS := Lib.hid (show (J ++ ⟨#[91]⟩) ++ segJ (sx.take (q + 1)) = (J ++ ⟨#[91]⟩) ++ K ++ decB x by rw [hD0.out hq0, hJq0.out hq0, ba_nilQ])
                have d : decide ((0 : Int) < (q : Int)) = false := by simp; omega
                have d2 : ¬ 0 < q := by omega
                have n1 : ¬ 9223372036854775807 < ((J ++ ⟨#[91]⟩) ++ K).size + (decB x).size := by omega
                clear hq0
                generalize (J ++ ⟨#[91]⟩) ++ K = Z at *
                generalize decB x = dx at *
                go_wp2_with fail
                refine (hF.out _).mono ?_
                rintro e w2 ⟨rfl, hb2⟩
                have hbq2 := bl_trans hbq hb2
                go_wp2
                go_roundw
                case rel => exact ⟨q + 1, by omega, by go_num, congrArg Value.string hS.out.symm, hbq2⟩
                case measure => simp [intOf]; omega
              · have hS := Lib.hid (show (J ++ ⟨#[91]⟩) ++ segJ (sx.take (q + 1)) = (J ++ ⟨#[91]⟩) ++ K ++ ⟨#[32]⟩ ++ decB x by rw [hD1.out hq0]; apply ByteArray.ext; simp)
                have d : decide ((0 : Int) < (q : Int)) = true := by simp; omega
                have n0 : ¬ 9223372036854775807 < ((J ++ ⟨#[91]⟩) ++ K).size + 1 := by omega
                have n1 : ¬ 9223372036854775807 < ((J ++ ⟨#[91]⟩) ++ K).size + 1 + (decB x).size := by omega
                generalize (J ++ ⟨#[91]⟩) ++ K = Z at *
                generalize decB x = dx at *
                go_wp2_with fail
                refine (hF.out _).mono ?_
                rintro e w2 ⟨rfl, hb2⟩
                have hbq2 := bl_trans hbq hb2
                go_wp2
                go_roundw
                case rel => exact ⟨q + 1, by omega, by go_num, congrArg Value.string hS.out.symm, hbq2⟩
                case measure => simp [intOf]; omega
            · obtain rfl : q = sn := by omega
              have hfull : sx.take q = sx := List.take_of_length_le (by rw [← HL.out]; exact Nat.le_refl _)
              have hS := Lib.hid (show sgsTxt (ss.take (j + 1)) = (J ++ ⟨#[91]⟩) ++ segJ (sx.take q) ++ ⟨#[93]⟩ by rw [hfull, hT.out, hTx2.out]; apply ByteArray.ext; simp)
              have hz : ((J ++ ⟨#[91]⟩) ++ segJ (sx.take q)).size ≤ 6000000 := Nat.le_trans (cat_sizeQ (cat_sizeQ hJz (show (⟨#[91]⟩ : ByteArray).size ≤ 1 by decide)) hXq) (by decide)
              clear hfull e0q
              generalize (J ++ ⟨#[91]⟩) ++ segJ (sx.take q) = Z at *
              have n1 : ¬ 9223372036854775807 < Z.size + 1 := by omega
              go_wp2
              go_roundw
              case rel => exact ⟨j + 1, by omega, by go_num, congrArg Value.string hS.out.symm, hbwq⟩
              case measure => simp [intOf]; omega
      · have d0 : decide ((0 : Int) < (j : Int)) = true := by simp; omega
        have hT := Lib.hid (show sgsTxt (ss.take (j + 1)) = J ++ ⟨#[32]⟩ ++ tx from hS1.out hj0)
        have m0 : ¬ 9223372036854775807 < J.size + 1 := by omega
        have m1 : ¬ 9223372036854775807 < J.size + 1 + 1 := by omega
        clear hS0 hS1 hJ0
        rcases hk12 with rfl | rfl
        · skip
          have hTx2 := Lib.hid (show tx = ⟨#[123]⟩ ++ segJ sx ++ ⟨#[125]⟩ by have := hTx.out; rwa [if_pos rfl] at this)
          clear hTx
          go_wp2_with fail
          go_loopw [3, 7] (fun v i wq => ∃ q : Nat, q ≤ sn ∧ i = .int .i64 q ∧ v = .string ((J ++ ⟨#[32]⟩ ++ ⟨#[123]⟩) ++ segJ (sx.take q)) ∧ Below w0.heap.size w0 wq) (fun _ i _ => sn - (intOf i).toNat)
          case atStart => exact ⟨0, Nat.zero_le _, rfl, congrArg Value.string (ba_nilQ _).symm, bl_refl w0⟩
          case round =>
            obtain ⟨q, hq, rfl, rfl, hbq⟩ := hrel
            have hbwq := bl_trans hbw hbq
            have hXq := hXz.out q
            have e0q := (hbq.cell (p := ⟨b, o + j * 2, none⟩) hbl0).trans HE0.out
            have e1q := (hbq.cell (p := ⟨b, o + j * 2 + 1, none⟩) hbl0).trans HE1.out
            by_cases hltq : q < sn
            · obtain ⟨b2, o2, rfl, hb2B, hc2⟩ := (HU.out.below (Joins.below_le hbq hbs)).at_ hltq
              have hq1 := Lib.hid (show q < sx.length by rw [← HL.out]; exact hltq)
              have hxr := hR.out _ (nth_mem hq1.out)
              have hD0 := Lib.hid (fun (h : q = 0) => (show segJ (sx.take (q + 1)) = decB (nth sx q) by subst h; exact segJ_first hq1.out))
              have hD1 := Lib.hid (fun (h : 0 < q) => segJ_step hq1.out h)
              have hJq0 := Lib.hid (fun (h : q = 0) => (show segJ (sx.take q) = ⟨#[]⟩ by subst h; rfl))
              generalize segJ (sx.take q) = K at *
              generalize nth sx q = x at *
              have hv : IntKind.i64.wrap x = x := by rw [IntKind.wrap_i64]; omega
              have hF := Lib.hid (fun W => rdecimal_any x hxr.1 (by omega) W)
              have hdz := decB_size (n := x) (by omega)
              have hz : ((J ++ ⟨#[32]⟩ ++ ⟨#[123]⟩) ++ K).size ≤ 6000000 := Nat.le_trans (cat_sizeQ (cat_sizeQ (cat_sizeQ hJz (show (⟨#[32]⟩ : ByteArray).size ≤ 1 by decide)) (show (⟨#[123]⟩ : ByteArray).size ≤ 1 by decide)) hXq) (by decide)
              clear hxr e0q
              rcases Nat.eq_zero_or_pos q with hq0 | hq0
              · have hS := Lib.hid (show (J ++ ⟨#[32]⟩ ++ ⟨#[123]⟩) ++ segJ (sx.take (q + 1)) = (J ++ ⟨#[32]⟩ ++ ⟨#[123]⟩) ++ K ++ decB x by rw [hD0.out hq0, hJq0.out hq0, ba_nilQ])
                have d : decide ((0 : Int) < (q : Int)) = false := by simp; omega
                have d2 : ¬ 0 < q := by omega
                have n1 : ¬ 9223372036854775807 < ((J ++ ⟨#[32]⟩ ++ ⟨#[123]⟩) ++ K).size + (decB x).size := by omega
                clear hq0
                generalize (J ++ ⟨#[32]⟩ ++ ⟨#[123]⟩) ++ K = Z at *
                generalize decB x = dx at *
                go_wp2_with fail
                refine (hF.out _).mono ?_
                rintro e w2 ⟨rfl, hb2⟩
                have hbq2 := bl_trans hbq hb2
                go_wp2
                go_roundw
                case rel => exact ⟨q + 1, by omega, by go_num, congrArg Value.string hS.out.symm, hbq2⟩
                case measure => simp [intOf]; omega
              · have hS := Lib.hid (show (J ++ ⟨#[32]⟩ ++ ⟨#[123]⟩) ++ segJ (sx.take (q + 1)) = (J ++ ⟨#[32]⟩ ++ ⟨#[123]⟩) ++ K ++ ⟨#[32]⟩ ++ decB x by rw [hD1.out hq0]; apply ByteArray.ext; simp)
                have d : decide ((0 : Int) < (q : Int)) = true := by simp; omega
                have n0 : ¬ 9223372036854775807 < ((J ++ ⟨#[32]⟩ ++ ⟨#[123]⟩) ++ K).size + 1 := by omega
                have n1 : ¬ 9223372036854775807 < ((J ++ ⟨#[32]⟩ ++ ⟨#[123]⟩) ++ K).size + 1 + (decB x).size := by omega
                generalize (J ++ ⟨#[32]⟩ ++ ⟨#[123]⟩) ++ K = Z at *
                generalize decB x = dx at *
                go_wp2_with fail
                refine (hF.out _).mono ?_
                rintro e w2 ⟨rfl, hb2⟩
                have hbq2 := bl_trans hbq hb2
                go_wp2
                go_roundw
                case rel => exact ⟨q + 1, by omega, by go_num, congrArg Value.string hS.out.symm, hbq2⟩
                case measure => simp [intOf]; omega
            · obtain rfl : q = sn := by omega
              have hfull : sx.take q = sx := List.take_of_length_le (by rw [← HL.out]; exact Nat.le_refl _)
              have hS := Lib.hid (show sgsTxt (ss.take (j + 1)) = (J ++ ⟨#[32]⟩ ++ ⟨#[123]⟩) ++ segJ (sx.take q) ++ ⟨#[125]⟩ by rw [hfull, hT.out, hTx2.out]; apply ByteArray.ext; simp)
              have hz : ((J ++ ⟨#[32]⟩ ++ ⟨#[123]⟩) ++ segJ (sx.take q)).size ≤ 6000000 := Nat.le_trans (cat_sizeQ (cat_sizeQ (cat_sizeQ hJz (show (⟨#[32]⟩ : ByteArray).size ≤ 1 by decide)) (show (⟨#[123]⟩ : ByteArray).size ≤ 1 by decide)) hXq) (by decide)
              clear hfull e0q
              generalize (J ++ ⟨#[32]⟩ ++ ⟨#[123]⟩) ++ segJ (sx.take q) = Z at *
              have n1 : ¬ 9223372036854775807 < Z.size + 1 := by omega
              go_wp2
              go_roundw
              case rel => exact ⟨j + 1, by omega, by go_num, congrArg Value.string hS.out.symm, hbwq⟩
              case measure => simp [intOf]; omega
        · skip
          have hTx2 := Lib.hid (show tx = ⟨#[91]⟩ ++ segJ sx ++ ⟨#[93]⟩ by have := hTx.out; rwa [if_neg (by decide)] at this)
          clear hTx
          go_wp2_with fail
          go_loopw [3, 7] (fun v i wq => ∃ q : Nat, q ≤ sn ∧ i = .int .i64 q ∧ v = .string ((J ++ ⟨#[32]⟩ ++ ⟨#[91]⟩) ++ segJ (sx.take q)) ∧ Below w0.heap.size w0 wq) (fun _ i _ => sn - (intOf i).toNat)
          case atStart => exact ⟨0, Nat.zero_le _, rfl, congrArg Value.string (ba_nilQ _).symm, bl_refl w0⟩
          case round =>
            obtain ⟨q, hq, rfl, rfl, hbq⟩ := hrel
            have hbwq := bl_trans hbw hbq
            have hXq := hXz.out q
            have e0q := (hbq.cell (p := ⟨b, o + j * 2, none⟩) hbl0).trans HE0.out
            have e1q := (hbq.cell (p := ⟨b, o + j * 2 + 1, none⟩) hbl0).trans HE1.out
            by_cases hltq : q < sn
            · obtain ⟨b2, o2, rfl, hb2B, hc2⟩ := (HU.out.below (Joins.below_le hbq hbs)).at_ hltq
              have hq1 := Lib.hid (show q < sx.length by rw [← HL.out]; exact hltq)
              have hxr := hR.out _ (nth_mem hq1.out)
              have hD0 := Lib.hid (fun (h : q = 0) => (show segJ (sx.take (q + 1)) = decB (nth sx q) by subst h; exact segJ_first hq1.out))
              have hD1 := Lib.hid (fun (h : 0 < q) => segJ_step hq1.out h)
              have hJq0 := Lib.hid (fun (h : q = 0) => (show segJ (sx.take q) = ⟨#[]⟩ by subst h; rfl))
              generalize segJ (sx.take q) = K at *
              generalize nth sx q = x at *
              have hv : IntKind.i64.wrap x = x := by rw [IntKind.wrap_i64]; omega
              have hF := Lib.hid (fun W => rdecimal_any x hxr.1 (by omega) W)
              have hdz := decB_size (n := x) (by omega)
              have hz : ((J ++ ⟨#[32]⟩ ++ ⟨#[91]⟩) ++ K).size ≤ 6000000 := Nat.le_trans (cat_sizeQ (cat_sizeQ (cat_sizeQ hJz (show (⟨#[32]⟩ : ByteArray).size ≤ 1 by decide)) (show (⟨#[91]⟩ : ByteArray).size ≤ 1 by decide)) hXq) (by decide)
              clear hxr e0q
              rcases Nat.eq_zero_or_pos q with hq0 | hq0
              · have hS := Lib.hid (show (J ++ ⟨#[32]⟩ ++ ⟨#[91]⟩) ++ segJ (sx.take (q + 1)) = (J ++ ⟨#[32]⟩ ++ ⟨#[91]⟩) ++ K ++ decB x by rw [hD0.out hq0, hJq0.out hq0, ba_nilQ])
                have d : decide ((0 : Int) < (q : Int)) = false := by simp; omega
                have d2 : ¬ 0 < q := by omega
                have n1 : ¬ 9223372036854775807 < ((J ++ ⟨#[32]⟩ ++ ⟨#[91]⟩) ++ K).size + (decB x).size := by omega
                clear hq0
                generalize (J ++ ⟨#[32]⟩ ++ ⟨#[91]⟩) ++ K = Z at *
                generalize decB x = dx at *
                go_wp2_with fail
                refine (hF.out _).mono ?_
                rintro e w2 ⟨rfl, hb2⟩
                have hbq2 := bl_trans hbq hb2
                go_wp2
                go_roundw
                case rel => exact ⟨q + 1, by omega, by go_num, congrArg Value.string hS.out.symm, hbq2⟩
                case measure => simp [intOf]; omega
              · have hS := Lib.hid (show (J ++ ⟨#[32]⟩ ++ ⟨#[91]⟩) ++ segJ (sx.take (q + 1)) = (J ++ ⟨#[32]⟩ ++ ⟨#[91]⟩) ++ K ++ ⟨#[32]⟩ ++ decB x by rw [hD1.out hq0]; apply ByteArray.ext; simp)
                have d : decide ((0 : Int) < (q : Int)) = true := by simp; omega
                have n0 : ¬ 9223372036854775807 < ((J ++ ⟨#[32]⟩ ++ ⟨#[91]⟩) ++ K).size + 1 := by omega
                have n1 : ¬ 9223372036854775807 < ((J ++ ⟨#[32]⟩ ++ ⟨#[91]⟩) ++ K).size + 1 + (decB x).size := by omega
                generalize (J ++ ⟨#[32]⟩ ++ ⟨#[91]⟩) ++ K = Z at *
                generalize decB x = dx at *
                go_wp2_with fail
                refine (hF.out _).mono ?_
                rintro e w2 ⟨rfl, hb2⟩
                have hbq2 := bl_trans hbq hb2
                go_wp2
                go_roundw
                case rel => exact ⟨q + 1, by omega, by go_num, congrArg Value.string hS.out.symm, hbq2⟩
                case measure => simp [intOf]; omega
            · obtain rfl : q = sn := by omega
              have hfull : sx.take q = sx := List.take_of_length_le (by rw [← HL.out]; exact Nat.le_refl _)
              have hS := Lib.hid (show sgsTxt (ss.take (j + 1)) = (J ++ ⟨#[32]⟩ ++ ⟨#[91]⟩) ++ segJ (sx.take q) ++ ⟨#[93]⟩ by rw [hfull, hT.out, hTx2.out]; apply ByteArray.ext; simp)
              have hz : ((J ++ ⟨#[32]⟩ ++ ⟨#[91]⟩) ++ segJ (sx.take q)).size ≤ 6000000 := Nat.le_trans (cat_sizeQ (cat_sizeQ (cat_sizeQ hJz (show (⟨#[32]⟩ : ByteArray).size ≤ 1 by decide)) (show (⟨#[91]⟩ : ByteArray).size ≤ 1 by decide)) hXq) (by decide)
              clear hfull e0q
              generalize (J ++ ⟨#[32]⟩ ++ ⟨#[91]⟩) ++ segJ (sx.take q) = Z at *
              have n1 : ¬ 9223372036854775807 < Z.size + 1 := by omega
              go_wp2
              go_roundw
              case rel => exact ⟨j + 1, by omega, by go_num, congrArg Value.string hS.out.symm, hbwq⟩
              case measure => simp [intOf]; omega
    · have hjn : j = n := by omega
      have hF := Lib.hid (show sgsTxt (ss.take j) = sgsTxt ss by rw [List.take_of_length_le (by rw [← HN.out, hjn]; exact Nat.le_refl _)])
      clear hjn
      generalize sgsTxt (ss.take j) = J at *
      go_wp2
      go_ret
      exact ⟨congrArg (fun x => Ending.returned (Value.string x)) hF.out, hbw⟩
set_option maxRecDepth 100000 in
theorem rtext_any (A : Option Addr) (n c : Nat) (ss : List Sg) (w : World) (h : Segs w w.heap.size A n ss) (hn : n ≤ 1000) (hs : ∀ s ∈ ss, s.n ≤ 1000) :
    Calls Tryd.prog 16 #[.slice A n c] w fun e w' => e = .returned (.string (if ss.all (sgOk 4) = true then sgsTxt ss else ⟨#[]⟩)) ∧ Below w.heap.size w w' := by
  cases hk : ss.all (sgOk 4) with
  | true => exact rtext_yes A n c ss w h hn hs hk
  | false => exact rtext_no A n c ss w h hn hs hk
end Go.Proofs.YtecbbjdcnlocdaaDoor

/- Segments: what is written is read again (no memory); what Parse gives -/
namespace Go.Proofs.YtecbbjdcnlocdaaDoor
open Go.RowKit Go.Sort
theorem nums_head (K n : Nat) (zs : List Int) : nums K (n + 1) zs = big (zs.take K) :: nums K n (zs.drop K) := by
  unfold nums
  rw [List.range_succ_eq_map, List.map_cons, List.map_map]
  refine List.cons_eq_cons.2 ⟨by simp, ?_⟩
  apply List.map_congr_left
  intro i _
  show big ((zs.drop ((i + 1) * K)).take K) = big (((zs.drop K).drop (i * K)).take K)
  rw [List.drop_drop, Nat.succ_mul, Nat.add_comm]
theorem nums_flat {K : Nat} : ∀ (xs : List Int), (∀ x ∈ xs, big (digitsOf K x) = x) → ∀ r, nums K xs.length (xs.flatMap (digitsOf K) ++ r) = xs
  | [], _, r => by unfold nums; rfl
  | x :: xs, h, r => by
    have e : (x :: xs).flatMap (digitsOf K) ++ r = digitsOf K x ++ (xs.flatMap (digitsOf K) ++ r) := by rw [List.flatMap_cons, List.append_assoc]
    rw [List.length_cons, nums_head, e, List.take_left' (digitsOf_len K x), List.drop_left' (digitsOf_len K x), h x List.mem_cons_self, nums_flat xs (fun y hy => h y (List.mem_cons_of_mem _ hy)) r]
/-- What can be read again. -/
def kGoodI (K : Nat) (p : Int × List Int) : Prop := (p.1 = 1 ∨ p.1 = 2) ∧ 1 ≤ p.2.length ∧ ∀ x ∈ p.2, big (digitsOf K x) = x
theorem flat_len (K : Nat) (xs : List Int) : (xs.flatMap (digitsOf K)).length = K * xs.length := by
  induction xs with
  | nil => simp
  | cons x xs ih => rw [List.flatMap_cons, List.length_append, ih, digitsOf_len, List.length_cons, Nat.mul_add]; omega
theorem okS_form {K : Nat} {p : Int × List Int} (h : kGoodI K p) (r : List Int) : okS K (kForm K p ++ r) = true ∧ segS K (kForm K p ++ r) = p ∧ restS K (kForm K p ++ r) = r := by
  obtain ⟨k, xs⟩ := p
  obtain ⟨h1, h2, h3⟩ := h
  dsimp only at h1 h2 h3
  have e : kForm K (k, xs) ++ r = k :: (xs.length : Int) :: (xs.flatMap (digitsOf K) ++ r) := rfl
  have n0 : nth (k :: (xs.length : Int) :: (xs.flatMap (digitsOf K) ++ r)) 0 = k := rfl
  have n1 : nth (k :: (xs.length : Int) :: (xs.flatMap (digitsOf K) ++ r)) 1 = (xs.length : Int) := rfl
  rw [e]
  refine ⟨?_, ?_, ?_⟩
  · unfold okS
    rw [n0, n1]
    apply decide_eq_true
    refine ⟨by simp, h1, by omega, ?_⟩
    rw [Int.toNat_natCast, List.length_cons, List.length_cons, List.length_append, flat_len, Nat.mul_comm]
    omega
  · unfold segS
    rw [n0, n1, Int.toNat_natCast]
    show (k, nums K xs.length (xs.flatMap (digitsOf K) ++ r)) = _
    rw [nums_flat xs h3 r]
  · unfold restS
    rw [n1, Int.toNat_natCast]
    have e2 : k :: (xs.length : Int) :: (xs.flatMap (digitsOf K) ++ r) = ([k, (xs.length : Int)] ++ xs.flatMap (digitsOf K)) ++ r := rfl
    rw [e2]
    apply List.drop_left'
    rw [List.length_append, flat_len, Nat.mul_comm]
    rfl
theorem readS_of {K : Nat} : ∀ (ps : List (Int × List Int)) (f : Nat), (∀ p ∈ ps, kGoodI K p) → ps.length < f → readS K f (ps.flatMap (kForm K)) = some ps
  | [], 0, _, h => by simp at h
  | [], f + 1, _, _ => by rw [List.flatMap_nil, readS, if_pos rfl]
  | p :: ps, 0, _, h => by simp at h
  | p :: ps, f + 1, hg, h => by
    obtain ⟨h1, h2, h3⟩ := okS_form (hg p List.mem_cons_self) (ps.flatMap (kForm K))
    rw [List.flatMap_cons, readS, if_neg (by intro e; cases e), if_pos h1, h2, h3, readS_of ps f (fun q hq => hg q (List.mem_cons_of_mem _ hq)) (by simp at h; omega)]
    rfl
theorem kForm_len (K : Nat) : ∀ (ps : List (Int × List Int)), ps.length ≤ (ps.flatMap (kForm K)).length
  | [] => Nat.zero_le _
  | p :: ps => by
    have ih := kForm_len K ps
    rw [List.flatMap_cons, List.length_append, List.length_cons]
    have : 1 ≤ (kForm K p).length := by unfold kForm; simp
    omega
theorem bigK {K : Nat} (hK : K = 2 ∨ K = 4) {x : Int} (h0 : 0 ≤ x) (h1 : x < 4294967296) (h2 : K = 2 → x ≤ 65535) : big (digitsOf K x) = x := by
  rcases hK with rfl | rfl
  · have := h2 rfl
    rw [digitsOf_2]
    simp [big]
    omega
  · rw [digitsOf_4]
    simp [big]
    omega
/-- What Parse gives is valid, has that text, and is not long. -/
theorem spr_good {t : ByteArray} {w : World} {B n : Nat} {A : Option Addr} {L : List Sg} (h : Segs w B A n L) (hp : pAcc t.data.toList = some (L.map sgN)) :
    L.all (sgOk 4) = true ∧ sgsTxt L = t ∧ L.length ≤ t.size ∧ ∀ s ∈ L, s.n ≤ 255 := by
  obtain ⟨h1, h2⟩ := pAcc_says hp
  have hall : (L.map sgN).all okN = L.all (sgOk 4) := by
    have e : ∀ s ∈ L, okN (sgN s) = sgOk 4 s := fun s hs => okN_link (h.2.1 s hs).2.2.2.2.1 (h.2.1 s hs).2.2.2.1
    rw [List.all_map, Bool.eq_iff_iff, List.all_eq_true, List.all_eq_true]
    exact ⟨fun h s hs => by rw [← e s hs]; exact h s hs, fun h s hs => by show okN (sgN s) = true; rw [e s hs]; exact h s hs⟩
  have hk : L.all (sgOk 4) = true := by rw [← hall]; exact h1
  have hne0 : ∀ s ∈ L, s.xs ≠ [] := fun s hs e => by
    have g1 := (sgOk_iff.1 (List.all_eq_true.1 hk s hs)).1.2.1
    have g2 := (h.2.1 s hs).2.2.2.2.1
    rw [e] at g2
    simp at g2
    omega
  have hlen := txtT_len (L.map sgN) (fun s hs => okN_good (List.all_eq_true.1 h1 s hs))
  rw [h2, List.length_map, Array.length_toList] at hlen
  exact ⟨hk, ba_extS ((txt_link L hne0).trans h2), hlen, fun s hs => (sgOk_iff.1 (List.all_eq_true.1 hk s hs)).1.2.2⟩
theorem sgK_of_N : ∀ {L M : List Sg}, (∀ s ∈ L, ∀ x ∈ s.xs, 0 ≤ x) → (∀ s ∈ M, ∀ x ∈ s.xs, 0 ≤ x) → L.map sgN = M.map sgN → L.map sgK = M.map sgK
  | [], [], _, _, _ => rfl
  | [], _ :: _, _, _, h => by simp at h
  | _ :: _, [], _, _, h => by simp at h
  | a :: L, b :: M, hL, hM, h => by
    rw [List.map_cons, List.map_cons, List.cons.injEq] at h
    have ih := sgK_of_N (fun s hs => hL s (List.mem_cons_of_mem _ hs)) (fun s hs => hM s (List.mem_cons_of_mem _ hs)) h.2
    have e := h.1
    unfold sgN at e
    rw [Prod.mk.injEq] at e
    have e2 := toNat_map_inj (hL a List.mem_cons_self) (hM b List.mem_cons_self) e.2
    rw [List.map_cons, List.map_cons, ih]
    unfold sgK
    rw [e.1, e2]
/-- The text of valid segments is parsed to them. -/
theorem pAcc_of {w : World} {B n : Nat} {A : Option Addr} {L : List Sg} (h : Segs w B A n L) (hk : L.all (sgOk 4) = true) : pAcc (sgsTxt L).data.toList = some (L.map sgN) := by
  have hall : (L.map sgN).all okN = true := by
    rw [List.all_map, List.all_eq_true]
    intro s hs
    show okN (sgN s) = true
    rw [okN_link (h.2.1 s hs).2.2.2.2.1 (h.2.1 s hs).2.2.2.1]
    exact List.all_eq_true.1 hk s hs
  have hne0 : ∀ s ∈ L, s.xs ≠ [] := fun s hs e => by
    have g1 := (sgOk_iff.1 (List.all_eq_true.1 hk s hs)).1.2.1
    have g2 := (h.2.1 s hs).2.2.2.2.1
    rw [e] at g2
    simp at g2
    omega
  rw [txt_link L hne0]
  exact (pAcc_txt hall).1
end Go.Proofs.YtecbbjdcnlocdaaDoor

/- peerageref06.Parse -/
namespace Go.Proofs.YtecbbjdcnlocdaaDoor
open Go.RowKit Go.Sort
theorem row_cellQ {w : World} {base : Nat} {e : TypeId} {size n g c : Nat} {xs : List Value} (h : w.ownsRow base e size (.slice (some ⟨g, 0, none⟩) n c) n xs) {i : Nat} {u : Value} (hi : xs[i]? = some u) : w.cell? ⟨g, i, none⟩ = some u ∧ w.frozen? ⟨g, i, none⟩ = false ∧ g < w.heap.size := by
  rcases h.2 with ⟨h0, _⟩ | ⟨g', cap, cur, h0, _, hg, _, _, _, ht⟩
  · cases h0
  · injection h0 with e1 _ _
    injection e1 with e1
    injection e1 with e1 _ _
    subst e1
    have ho : Own w g e cur := hg
    refine ⟨ho.cell ?_, ho.frozen i, ho.lt⟩
    have h2 : (cur.toList.take (n * size))[i]? = some u := by rw [ht]; exact hi
    have h3 : i < n * size := by
      have := (List.getElem?_eq_some_iff.1 h2).1
      rw [List.length_take] at this
      omega
    rw [List.getElem?_take_of_lt h3] at h2
    simpa using h2
theorem row_setQ {w : World} {base : Nat} {e : TypeId} {size n g c : Nat} {xs : List Value} (h : w.ownsRow base e size (.slice (some ⟨g, 0, none⟩) n c) n xs) (i : Nat) (u : Value) : (w.setCell ⟨g, i, none⟩ u).ownsRow base e size (.slice (some ⟨g, 0, none⟩) n c) n (xs.set i u) := by
  refine ⟨by rw [List.length_set]; exact h.1, ?_⟩
  rcases h.2 with ⟨h0, _⟩ | ⟨g', cap, cur, h0, hb, hg, hc, hm, hs, ht⟩
  · cases h0
  · have h0' := h0
    injection h0' with e1 _ _
    injection e1 with e1
    injection e1 with e1 _ _
    subst e1
    have ho : Own w g e cur := hg
    refine .inr ⟨g, cap, cur.setIfInBounds i u, h0, hb, ho.set_ i u, hc, hm, by rw [Array.size_setIfInBounds]; exact hs, ?_⟩
    rw [← ht, Array.toList_setIfInBounds, List.take_set]
theorem cellsS_len (ss : List Sg) : (cellsS ss).length = ss.length * 2 := by
  induction ss with
  | nil => rfl
  | cons s ss ih =>
    have e : cellsS (s :: ss) = .int .i64 s.k :: .slice s.A s.n s.c :: cellsS ss := rfl
    rw [e, List.length_cons, List.length_cons, ih, List.length_cons]
    omega
def rowV (s : Sg) : Value := .slice s.A s.n s.c
/-- No two segments' numbers lie in one block. -/
def Apart (L : List Sg) : Prop := L.Pairwise fun a b => ∀ j, (rowV b).ownBlock = some j → (rowV a).ownBlock ≠ some j
theorem Apart.push {L : List Sg} (h : Apart L) (k : Int) : Apart (L ++ [⟨k, none, 0, 0, []⟩]) := by
  refine List.pairwise_append.2 ⟨h, List.pairwise_singleton _ _, fun a _ b hb j hj => ?_⟩
  rw [List.mem_singleton] at hb
  subst hb
  cases hj
theorem SRow.addnum {w w3 : World} {base g c k : Nat} {L : List Sg} {s : Sg} {A3 : Option Addr} {c3 : Nat} {x : Int} {o : Obj}
    (h : SRow w base (.slice (some ⟨g, 0, none⟩) (k + 1) c) (L ++ [s])) (hk : L.length = k) (hap : Apart (L ++ [s])) (hx : 0 ≤ x ∧ x < 4294967296)
    (hown : w3.ownsRow base 51 1 (.slice A3 (s.n + 1) c3) (s.n + 1) (s.xs.map (Value.int .u32) ++ [.int .u32 x])) (hg : (w.alloc o).grownBy w3 (rowV s).ownBlock)
    (hb : (Value.slice A3 (s.n + 1) c3).ownBlock = (rowV s).ownBlock ∨ (Value.slice A3 (s.n + 1) c3).ownBlock = some (w.alloc o).heap.size) :
    (w3.cell? ⟨g, k * 2 + 1, none⟩ = some (rowV s) ∧ w3.frozen? ⟨g, k * 2 + 1, none⟩ = false ∧ g < w3.heap.size) ∧
    SRow (w3.setCell ⟨g, k * 2 + 1, none⟩ (.slice A3 (s.n + 1) c3)) base (.slice (some ⟨g, 0, none⟩) (k + 1) c) (L ++ [⟨s.k, A3, s.n + 1, c3, s.xs ++ [x]⟩]) ∧ Apart (L ++ [⟨s.k, A3, s.n + 1, c3, s.xs ++ [x]⟩]) := by
  have hlen : (L ++ [s]).length = k + 1 := by rw [List.length_append, hk]; rfl
  have ha := bl_alloc (bl_refl w) o
  have h1 := h.below ha
  have hrow : (w.alloc o).ownsRow base 61 2 (.slice (some ⟨g, 0, none⟩) (k + 1) c) (k + 1) (cellsS (L ++ [s])) := by have := h1.1; rw [hlen] at this; exact this
  have hgT := row_typed hrow (j := g) rfl
  have hsd := h1.2 s (by simp)
  have hpa := List.pairwise_append.1 hap
  have hrow3 : w3.ownsRow base 61 2 (.slice (some ⟨g, 0, none⟩) (k + 1) c) (k + 1) (cellsS (L ++ [s])) :=
    row_rest hrow (Rest.of_grown hg (P := fun j => (rowV s).ownBlock = some j) (fun j hj => hj)) (fun j hj e => by
      cases hj
      exact (hgT.1.ne (row_typed hsd.1 e).1 seg_types) rfl)
  have hT3 : Typed w3 g 61 := (row_typed hrow3 (j := g) rfl).1
  have hL3 : ∀ t ∈ L, SD w3 base t := fun t ht => by
    have hd := h1.2 t (List.mem_append_left _ ht)
    refine ⟨row_rest hd.1 (Rest.of_grown hg (P := fun j => (rowV s).ownBlock = some j) (fun j hj => hj)) (fun j hj e => ?_), hd.2⟩
    exact hpa.2.2 t ht s (by simp) j e hj
  have hset : ∀ t, SD w3 base t → SD (w3.setCell ⟨g, k * 2 + 1, none⟩ (.slice A3 (s.n + 1) c3)) base t := fun t hd =>
    ⟨row_rest hd.1 (Rest.setCell w3 _ _) (fun j hj e => by
      have e2 : j = g := e
      subst e2
      exact (hT3.ne (row_typed hd.1 hj).1 seg_types) rfl), hd.2⟩
  have hnew : SD w3 base ⟨s.k, A3, s.n + 1, c3, s.xs ++ [x]⟩ := ⟨by
      show w3.ownsRow base 51 1 (.slice A3 (s.n + 1) c3) (s.n + 1) ((s.xs ++ [x]).map (Value.int .u32))
      rw [List.map_append]
      exact hown, by
      show s.n + 1 = (s.xs ++ [x]).length
      rw [List.length_append, ← hsd.2.1]; rfl, fun y hy => by
      rcases List.mem_append.1 hy with hy | hy
      · exact hsd.2.2.1 y hy
      · rw [List.mem_singleton] at hy
        rw [hy]; exact hx, hsd.2.2.2⟩
  have hidx : (cellsS (L ++ [s]))[k * 2 + 1]? = some (rowV s) := by
    rw [cellsS_snoc, List.getElem?_append_right (by rw [cellsS_len]; omega), cellsS_len, hk, show k * 2 + 1 - k * 2 = 1 by omega]
    rfl
  refine ⟨row_cellQ hrow3 hidx, ⟨?_, ?_⟩, ?_⟩
  · have h5 := row_setQ hrow3 (k * 2 + 1) (.slice A3 (s.n + 1) c3)
    have e1 : (cellsS (L ++ [s])).set (k * 2 + 1) (.slice A3 (s.n + 1) c3) = cellsS (L ++ [⟨s.k, A3, s.n + 1, c3, s.xs ++ [x]⟩]) := by
      rw [cellsS_snoc, cellsS_snoc, List.set_append_right _ _ (by rw [cellsS_len]; omega), cellsS_len, hk, show k * 2 + 1 - k * 2 = 1 by omega]
      rfl
    rw [e1] at h5
    have hlen2 : (L ++ [(⟨s.k, A3, s.n + 1, c3, s.xs ++ [x]⟩ : Sg)]).length = k + 1 := by rw [List.length_append, hk]; rfl
    rw [hlen2]
    exact h5
  · intro t ht
    rcases List.mem_append.1 ht with ht | ht
    · exact hset t (hL3 t ht)
    · rw [List.mem_singleton] at ht
      rw [ht]
      exact hset _ hnew
  · refine List.pairwise_append.2 ⟨hpa.1, List.pairwise_singleton _ _, fun a ha2 b hb2 j hj => ?_⟩
    rw [List.mem_singleton] at hb2
    subst hb2
    rcases hb with e | e
    · exact hpa.2.2 a ha2 s (by simp) j (by rw [← e]; exact hj)
    · intro hja
      have e2 : j = (w.alloc o).heap.size := by
        have := e.symm.trans hj
        injection this with this
        exact this.symm
      have := (row_typed (h1.2 a (List.mem_append_left _ ha2)).1 hja).1.lt
      omega
set_option maxRecDepth 100000 in
/-- A byte of a string. -/
theorem str_atQ (t : ByteArray) (j : Nat) (h : j < t.size) : ∃ c : UInt8, t.data.toList.drop j = c :: t.data.toList.drop (j + 1) ∧ ∀ W, (Instr.index 9 (.string t) (.int .i64 (j : Int))).run Tryd.prog W = .ok (.int .u8 (c.toNat : Int)) W := by
  have hl : j < t.data.toList.length := by rw [Array.length_toList]; exact h
  refine ⟨t.data.toList[j], (List.getElem_cons_drop hl).symm, fun W => ?_⟩
  rw [run_index_string (P := Tryd.prog) W 9 t .i64 (j : Int) (by kernel_rfl), dif_pos ⟨by omega, by omega⟩]
  rfl
def RPI (t : ByteArray) (w : World) (v nv iv : Value) (wr : World) : Prop := ∃ (j k : Nat) (A : Option Addr) (c : Nat) (L : List Sg) (n : Int), j ≤ t.size ∧ v = .slice A k c ∧ iv = .int .i64 j ∧ nv = .int .i64 n ∧ Hid (L.length = k) ∧ k ≤ j ∧ -1 ≤ n ∧ n ≤ 1099511627776 ∧ SRow wr w.heap.size (.slice A k c) L ∧ Below w.heap.size w wr ∧ Hid (rlax t.data.toList [] (-1) = rlax (t.data.toList.drop j) (L.map sgK) n ∧ (∀ s ∈ L, s.n ≤ j) ∧ Apart L)
end Go.Proofs.YtecbbjdcnlocdaaDoor

/- peerageref06.Parse: the walk -/
namespace Go.Proofs.YtecbbjdcnlocdaaDoor
open Go.RowKit Go.Sort
theorem rlax_cons (c : UInt8) (r : List UInt8) (out : List (Int × List Int)) (n : Int) : rlax (c :: r) out n = (rlax1 out n c).bind fun p => rlax r p.1 p.2 := rfl
theorem segN_K (L : List Sg) : (L.map sgK).map segN = L.map sgN := by
  rw [List.map_map]; rfl
theorem map_lastQ (L : List Sg) (s : Sg) : (L ++ [s]).map sgK = L.map sgK ++ [(s.k, s.xs)] := by rw [List.map_append]; rfl
set_option maxRecDepth 100000 in
set_option maxHeartbeats 6400000 in
theorem rparse_any (t : ByteArray) (ht : t.size ≤ 900) (w : World) :
    Calls Tryd.prog 20 #[.string t] w fun e w' => SPR t w e w' := by
  have HT := Lib.hid ht
  clear ht
  go_enter Tryd.func20, Tryd.ntmps20
  go_wp2_with fail
  go_loopw [4, 5, 6] (fun v nv iv wr => RPI t w v nv iv wr) (fun _ _ i _ => t.size - (intOf i).toNat)
  case atStart => exact ⟨0, 0, none, 0, [], -1, Nat.zero_le _, rfl, rfl, rfl, Lib.hid rfl, Nat.le_refl _, by omega, by omega, SRow.nil _ _, bl_refl w, Lib.hid ⟨rfl, (fun _ h => by cases h), List.Pairwise.nil⟩⟩
  case round =>
    obtain ⟨j, k, A, c, L, n, hj, rfl, rfl, rfl, hk, hkj, hn0, hn1, hrow, hb, hL⟩ := hrel
    have hTs := HT.out
    by_cases hlt : j < t.size
    · obtain ⟨cb, hdr, hix⟩ := str_atQ t j hlt
      have hst := Lib.hid (show rlax t.data.toList [] (-1) = (rlax1 (L.map sgK) n cb).bind fun p => rlax (t.data.toList.drop (j + 1)) p.1 p.2 by rw [hL.out.1, hdr]; rfl)
      have hLs := Lib.hid hL.out.2
      clear hdr hL
      have hcb : cb.toNat < 256 := cb.toNat_lt
      have hm0 : (0 : Int) ≤ (cb.toNat : Int) := by omega
      have hm1 : (cb.toNat : Int) ≤ 255 := by omega
      have hC := Lib.hid (show ((cb.toNat = 91 ∨ cb.toNat = 123) ↔ ((cb.toNat : Int) = 91 ∨ (cb.toNat : Int) = 123)) ∧ ((48 ≤ cb.toNat ∧ cb.toNat ≤ 57) ↔ (48 ≤ (cb.toNat : Int) ∧ (cb.toNat : Int) ≤ 57)) ∧ (cb.toNat = 123 ↔ (cb.toNat : Int) = 123) ∧ (cb.toNat = 91 ↔ (cb.toNat : Int) = 91) from ⟨by omega, by omega, by omega, by omega⟩)
      have hN := Lib.hid (show rlaxN n cb = min (max n 0 * 10 + ((cb.toNat : Int) - 48)) 1099511627776 from rfl)
      have hw0 : IntKind.i64.wrap ((k : Int) - 1) = (k : Int) - 1 := by rw [IntKind.wrap_i64]; omega
      have HR := Lib.hid hrow
      have HB := Lib.hid hb
      generalize hmm : (cb.toNat : Int) = m at *
      clear hcb hmm hrow hb
      by_cases h91 : m = 91
      · subst h91
        have hS1 := Lib.hid (show rlax t.data.toList [] (-1) = rlax (t.data.toList.drop (j + 1)) ((L ++ [(⟨2, none, 0, 0, []⟩ : Sg)]).map sgK) n by
          have hcc := hC.out
          rw [hst.out, map_lastQ]
          unfold rlax1
          rw [if_pos (hcc.1.2 (by omega)), if_neg (fun h => by have := hcc.2.2.1.1 h; omega)]
          rfl)
        have hown : wr.ownsRow w.heap.size 61 2 (.slice A k c) k (cellsS L) := by have := HR.out.1; rw [hk.out] at this; exact this
        have HO := Lib.hid hown
        have hbs := HB.out.size
        clear hst hC hN hown
        go_wp2_with (at_builtin; refine wpList_append_grow _ rfl _ _ rfl sl_segs w.heap.size _ k _ rfl (HO.out.alloc _) (wr.heap.size + 1) (some ⟨wr.heap.size, 0, none⟩) 1 1 [.int .i64 2, .slice none 0 0] rfl rfl (Shows.of_owned (Own.new _ _ _) (by simp)) (oneS _ _ _ _) (by unfold maxLen; omega) (by omega) (by simp; omega) ?_; intro v3 w3 ho3 hg3)
        obtain ⟨A3, c3, rfl⟩ := own_form ho3
        have hrow3 := HR.out.push (q := ⟨2, none, 0, 0, []⟩) ⟨World.ownsRow_nil _ _ _ _, rfl, (fun _ h => by cases h), rfl⟩ (by rw [hk.out]; exact ho3) hg3
        have hb3 := (HB.out.alloc HB.out.size _).grown hg3 (by simp; omega) (own_base HO.out)
        have hkk := hk.out
        go_roundw
        case rel => exact ⟨j + 1, k + 1, A3, c3, L ++ [⟨2, none, 0, 0, []⟩], n, by omega, rfl, by go_num, rfl, Lib.hid (by rw [List.length_append, hkk]; rfl), by omega, hn0, hn1, hrow3, hb3, Lib.hid ⟨hS1.out, fun s hs => by
            rcases List.mem_append.1 hs with hs | hs
            · have := hLs.out.1 s hs; omega
            · rw [List.mem_singleton] at hs; subst hs; exact Nat.zero_le _, hLs.out.2.push 2⟩⟩
        case measure => simp [intOf]; omega
      by_cases h123 : m = 123
      · subst h123
        have hS1 := Lib.hid (show rlax t.data.toList [] (-1) = rlax (t.data.toList.drop (j + 1)) ((L ++ [(⟨1, none, 0, 0, []⟩ : Sg)]).map sgK) n by
          have hcc := hC.out
          rw [hst.out, map_lastQ]
          unfold rlax1
          rw [if_pos (hcc.1.2 (by omega)), if_pos (hcc.2.2.1.2 rfl)]
          rfl)
        have hown : wr.ownsRow w.heap.size 61 2 (.slice A k c) k (cellsS L) := by have := HR.out.1; rw [hk.out] at this; exact this
        have HO := Lib.hid hown
        have hbs := HB.out.size
        clear hst hC hN hown
        go_wp2_with (at_builtin; refine wpList_append_grow _ rfl _ _ rfl sl_segs w.heap.size _ k _ rfl (HO.out.alloc _) (wr.heap.size + 1) (some ⟨wr.heap.size, 0, none⟩) 1 1 [.int .i64 1, .slice none 0 0] rfl rfl (Shows.of_owned (Own.new _ _ _) (by simp)) (oneS _ _ _ _) (by unfold maxLen; omega) (by omega) (by simp; omega) ?_; intro v3 w3 ho3 hg3)
        obtain ⟨A3, c3, rfl⟩ := own_form ho3
        have hrow3 := HR.out.push (q := ⟨1, none, 0, 0, []⟩) ⟨World.ownsRow_nil _ _ _ _, rfl, (fun _ h => by cases h), rfl⟩ (by rw [hk.out]; exact ho3) hg3
        have hb3 := (HB.out.alloc HB.out.size _).grown hg3 (by simp; omega) (own_base HO.out)
        have hkk := hk.out
        go_roundw
        case rel => exact ⟨j + 1, k + 1, A3, c3, L ++ [⟨1, none, 0, 0, []⟩], n, by omega, rfl, by go_num, rfl, Lib.hid (by rw [List.length_append, hkk]; rfl), by omega, hn0, hn1, hrow3, hb3, Lib.hid ⟨hS1.out, fun s hs => by
            rcases List.mem_append.1 hs with hs | hs
            · have := hLs.out.1 s hs; omega
            · rw [List.mem_singleton] at hs; subst hs; exact Nat.zero_le _, hLs.out.2.push 1⟩⟩
        case measure => simp [intOf]; omega
      have e1 : (m == 91) = false := by simpa using h91
      have e2 : (m == 123) = false := by simpa using h123
      have hb2 : ¬ (m = 91 ∨ m = 123) := fun h => h.elim h91 h123
      clear h91 h123
      by_cases hdg : 48 ≤ m ∧ m ≤ 57
      · obtain ⟨hd1, hd2⟩ := hdg
        have hS1 := Lib.hid (show rlax t.data.toList [] (-1) = rlax (t.data.toList.drop (j + 1)) (L.map sgK) (min (max n 0 * 10 + (m - 48)) 1099511627776) by
          have hcc := hC.out
          rw [hst.out]
          unfold rlax1
          rw [if_neg (fun h => hb2 (hcc.1.1 h)), if_pos (hcc.2.1.2 ⟨hd1, hd2⟩), hN.out]
          rfl)
        obtain ⟨M, hM⟩ : ∃ M, M = max n 0 := ⟨_, rfl⟩
        have hM0 : 0 ≤ M := by omega
        have hM1 : M ≤ 1099511627776 := by omega
        have hw1 : IntKind.i64.wrap (M * 10) = M * 10 := by rw [IntKind.wrap_i64]; omega
        have hw2 : IntKind.u8.wrap (m - 48) = m - 48 := by rw [IntKind.wrap_u8]; omega
        have hw3 : IntKind.i64.wrap (m - 48) = m - 48 := by rw [IntKind.wrap_i64]; omega
        have hw4 : IntKind.i64.wrap (M * 10 + (m - 48)) = M * 10 + (m - 48) := by rw [IntKind.wrap_i64]; omega
        have hMx : max n 0 = M := hM.symm
        rw [hMx] at hS1
        have hz0 : -1 ≤ min (M * 10 + (m - 48)) 1099511627776 := by omega
        have hz1 : min (M * 10 + (m - 48)) 1099511627776 ≤ 1099511627776 := by omega
        have HZ := Lib.hid (And.intro hz0 hz1)
        have hrow := HR.out
        have hb := HB.out
        have HrB := Lib.hid (And.intro hrow hb)
        clear hst hC hN hM hM0 hM1 hz0 hz1 hrow hb hb2
        go_wp2
        go_roundw
        case rel => exact ⟨j + 1, k, A, c, L, min (M * 10 + (m - 48)) 1099511627776, by omega, rfl, by go_num, rfl, hk, by omega, HZ.out.1, HZ.out.2, HrB.out.1, HrB.out.2, Lib.hid ⟨hS1.out, fun s hs => by have := hLs.out.1 s hs; omega, hLs.out.2⟩⟩
        case measure => simp [intOf]; omega
      have hdd : (48 : Int) ≤ m → ¬ m ≤ 57 := fun h h2 => hdg ⟨h, h2⟩
      clear hdg
      by_cases hpu : 0 ≤ n ∧ 0 < k
      · obtain ⟨hp0, hpk⟩ := hpu
        obtain ⟨L0, s, rfl⟩ : ∃ L0 s, L = L0 ++ [s] := by
          have hkk := hk.out
          rcases List.eq_nil_or_concat L with e | ⟨L0, s, e⟩
          · rw [e] at hkk; simp at hkk; omega
          · exact ⟨L0, s, by rw [e]; simp⟩
        obtain ⟨k0, rfl⟩ : ∃ k0, k = k0 + 1 := ⟨k - 1, by omega⟩
        have hk0 := Lib.hid (show L0.length = k0 by have := hk.out; rw [List.length_append] at this; simp at this; exact this)
        have hr1 : rlax1 ((L0 ++ [s]).map sgK) n cb = if 4294967295 < n then none else some (L0.map sgK ++ [(s.k, s.xs ++ [n])], -1) := by
          have hcc := hC.out
          unfold rlax1
          rw [if_neg (fun h => hb2 (hcc.1.1 h)), if_neg (fun h => by have := hcc.2.1.1 h; exact hdd this.1 this.2), if_pos ⟨hp0, by simp⟩, map_lastQ, pushL_last]
        have HR1 := Lib.hid hr1
        have HB2 := Lib.hid hb2
        have hg0 : ∃ g, A = some ⟨g, 0, none⟩ := by
          rcases HR.out.1.2 with ⟨h0, _⟩ | ⟨g, cap, cur, h0, _⟩
          · cases h0
          · injection h0 with h0 _ _
            exact ⟨g, h0⟩
        obtain ⟨g, rfl⟩ := hg0
        have hlen : (L0 ++ [s]).length = k0 + 1 := by rw [List.length_append, hk0.out]; rfl
        have hidx := row_cellQ (w := wr) (base := w.heap.size) (e := 61) (size := 2) (n := k0 + 1) (g := g) (c := c) (xs := cellsS (L0 ++ [s])) (by have := HR.out.1; rw [hlen] at this; exact this) (i := k0 * 2 + 1) (u := rowV s) (by
          rw [cellsS_snoc, List.getElem?_append_right (by rw [cellsS_len, hk0.out]; omega), cellsS_len, hk0.out, show k0 * 2 + 1 - k0 * 2 = 1 by omega]
          rfl)
        have hd := HR.out.2 s (by simp)
        have hsn := hLs.out.1 s (by simp)
        obtain ⟨sk, sA, sn, sc, sx⟩ := s
        have hc1 : wr.cell? ⟨g, k0 * 2 + 1, none⟩ = some (.slice sA sn sc) := hidx.1
        have hw5 : IntKind.i64.wrap (k0 : Int) = (k0 : Int) := by rw [IntKind.wrap_i64]; omega
        have HD := Lib.hid hd.1
        have hbs := HB.out.size
        have hgl := hidx.2.2
        dsimp only at hsn
        clear hr1 hb2 hlen hidx hC hN hd hw0
        have hdm : (if 48 ≤ m then decide (m ≤ 57) else false) = false := by
          split
          · rename_i h; simpa using hdd h
          · rfl
        by_cases h48 : 48 ≤ m
        · have h57 : ¬ m ≤ 57 := hdd h48
          clear hdd hdm
          have hgB := Lib.hid (show w.heap.size ≤ g from own_base (HR.out.1) g rfl)
          by_cases hbig : 4294967295 < n
          · have hR := Lib.hid (show pAcc t.data.toList = none by
              rw [acc_same]
              unfold rAcc
              rw [hst.out, HR1.out, if_pos hbig]
              rfl)
            have hb := HB.out
            clear hst HR1 HB2 HR HB
            go_wp2
            go_ret2
            exact ⟨none, 0, [], false, rfl, segs_nilS _, hb, .inr ⟨rfl, hR.out, rfl⟩⟩
          · have hS1 := Lib.hid (show rlax t.data.toList [] (-1) = rlax (t.data.toList.drop (j + 1)) ((L0 ++ [(⟨sk, sA, sn, sc, sx ++ [n]⟩ : Sg)]).map sgK) (-1) by
              rw [hst.out, HR1.out, if_neg hbig, map_lastQ]
              rfl)
            have hu : IntKind.u32.wrap n = n := by rw [IntKind.wrap_u32]; omega
            clear hst HR1 HB2
            have hoA := Lib.hid (HD.out.alloc (.cells #[.int .u32 n] 51))
            go_wp2_with (at_builtin; refine wpList_append_at _ rfl _ _ rfl sl_u32 w.heap.size _ sn _ rfl hoA.out (wr.heap.size + 1) (some ⟨wr.heap.size, 0, none⟩) 1 1 [.int .u32 n] rfl rfl (Shows.of_owned (Own.new _ _ _) (by simp)) (one1 rfl) (by unfold maxLen; omega) (by omega) (by simp; omega) ?_; intro v3 w3 ho3 hg3 hbk3; obtain ⟨A3, c3, rfl⟩ := own_form ho3; obtain ⟨⟨cq3, fq3, hq3⟩, hrow4, hap4⟩ := HR.out.addnum (s := ⟨sk, sA, sn, sc, sx⟩) hk0.out hLs.out.2 ⟨hp0, by omega⟩ ho3 hg3 hbk3; (have hcq3 : w3.cell? ⟨g, k0 * 2 + 1, none⟩ = some (.slice sA sn sc) := cq3); clear cq3)
            have hb3 := (HB.out.alloc HB.out.size _).grown hg3 (by simp; omega) (own_base HD.out)
            have hb4 := hb3.setCell (p := ⟨g, k0 * 2 + 1, none⟩) (hgB.out) (.slice A3 (sn + 1) c3)
            go_roundw
            case rel => exact ⟨j + 1, k0 + 1, some ⟨g, 0, none⟩, c, L0 ++ [⟨sk, A3, sn + 1, c3, sx ++ [n]⟩], -1, by omega, rfl, by go_num, rfl, Lib.hid (by rw [List.length_append, hk0.out]; rfl), by omega, by omega, by omega, hrow4, hb4, Lib.hid ⟨by rw [map_lastQ]; rw [map_lastQ] at hS1; exact hS1.out, fun s hs => by
                rcases List.mem_append.1 hs with hs | hs
                · have := hLs.out.1 s (List.mem_append_left _ hs); omega
                · rw [List.mem_singleton] at hs; subst hs; show sn + 1 ≤ j + 1; omega, hap4⟩⟩
            case measure => simp [intOf]; omega
        · clear hdd hdm
          have hgB := Lib.hid (show w.heap.size ≤ g from own_base (HR.out.1) g rfl)
          by_cases hbig : 4294967295 < n
          · have hR := Lib.hid (show pAcc t.data.toList = none by
              rw [acc_same]
              unfold rAcc
              rw [hst.out, HR1.out, if_pos hbig]
              rfl)
            have hb := HB.out
            clear hst HR1 HB2 HR HB
            go_wp2
            go_ret2
            exact ⟨none, 0, [], false, rfl, segs_nilS _, hb, .inr ⟨rfl, hR.out, rfl⟩⟩
          · have hS1 := Lib.hid (show rlax t.data.toList [] (-1) = rlax (t.data.toList.drop (j + 1)) ((L0 ++ [(⟨sk, sA, sn, sc, sx ++ [n]⟩ : Sg)]).map sgK) (-1) by
              rw [hst.out, HR1.out, if_neg hbig, map_lastQ]
              rfl)
            have hu : IntKind.u32.wrap n = n := by rw [IntKind.wrap_u32]; omega
            clear hst HR1 HB2
            have hoA := Lib.hid (HD.out.alloc (.cells #[.int .u32 n] 51))
            go_wp2_with (at_builtin; refine wpList_append_at _ rfl _ _ rfl sl_u32 w.heap.size _ sn _ rfl hoA.out (wr.heap.size + 1) (some ⟨wr.heap.size, 0, none⟩) 1 1 [.int .u32 n] rfl rfl (Shows.of_owned (Own.new _ _ _) (by simp)) (one1 rfl) (by unfold maxLen; omega) (by omega) (by simp; omega) ?_; intro v3 w3 ho3 hg3 hbk3; obtain ⟨A3, c3, rfl⟩ := own_form ho3; obtain ⟨⟨cq3, fq3, hq3⟩, hrow4, hap4⟩ := HR.out.addnum (s := ⟨sk, sA, sn, sc, sx⟩) hk0.out hLs.out.2 ⟨hp0, by omega⟩ ho3 hg3 hbk3; (have hcq3 : w3.cell? ⟨g, k0 * 2 + 1, none⟩ = some (.slice sA sn sc) := cq3); clear cq3)
            have hb3 := (HB.out.alloc HB.out.size _).grown hg3 (by simp; omega) (own_base HD.out)
            have hb4 := hb3.setCell (p := ⟨g, k0 * 2 + 1, none⟩) (hgB.out) (.slice A3 (sn + 1) c3)
            go_roundw
            case rel => exact ⟨j + 1, k0 + 1, some ⟨g, 0, none⟩, c, L0 ++ [⟨sk, A3, sn + 1, c3, sx ++ [n]⟩], -1, by omega, rfl, by go_num, rfl, Lib.hid (by rw [List.length_append, hk0.out]; rfl), by omega, by omega, by omega, hrow4, hb4, Lib.hid ⟨by rw [map_lastQ]; rw [map_lastQ] at hS1; exact hS1.out, fun s hs => by
                rcases List.mem_append.1 hs with hs | hs
                · have := hLs.out.1 s (List.mem_append_left _ hs); omega
                · rw [List.mem_singleton] at hs; subst hs; show sn + 1 ≤ j + 1; omega, hap4⟩⟩
            case measure => simp [intOf]; omega
      · have hS1 := Lib.hid (show rlax t.data.toList [] (-1) = rlax (t.data.toList.drop (j + 1)) (L.map sgK) (-1) by
          have hcc := hC.out
          have hkk := hk.out
          rw [hst.out]
          unfold rlax1
          rw [if_neg (fun h => hb2 (hcc.1.1 h)), if_neg (fun h => by have := hcc.2.1.1 h; exact hdd this.1 this.2), if_neg (fun h => hpu ⟨h.1, by
            rcases Nat.eq_zero_or_pos k with e | e
            · exfalso
              apply h.2
              rw [e] at hkk
              rw [List.length_eq_zero_iff.1 hkk]
              rfl
            · exact e⟩)]
          rfl)
        have HrB := Lib.hid (And.intro HR.out HB.out)
        clear hst hC hN hb2 HR HB
        by_cases h48 : 48 ≤ m
        · have h57 : ¬ m ≤ 57 := hdd h48
          clear hdd
          by_cases hn : 0 ≤ n
          · obtain rfl : k = 0 := by
              rcases Nat.eq_zero_or_pos k with e | e
              · exact e
              · exact absurd ⟨hn, e⟩ hpu
            clear hpu
            go_wp2
            go_roundw
            case rel => exact ⟨j + 1, _, A, c, L, -1, by omega, rfl, by go_num, rfl, hk, by omega, by omega, by omega, HrB.out.1, HrB.out.2, Lib.hid ⟨hS1.out, fun s hs => by have := hLs.out.1 s hs; omega, hLs.out.2⟩⟩
            case measure => simp [intOf]; omega
          · clear hpu
            go_wp2
            go_roundw
            case rel => exact ⟨j + 1, _, A, c, L, -1, by omega, rfl, by go_num, rfl, hk, by omega, by omega, by omega, HrB.out.1, HrB.out.2, Lib.hid ⟨hS1.out, fun s hs => by have := hLs.out.1 s hs; omega, hLs.out.2⟩⟩
            case measure => simp [intOf]; omega
        · clear hdd
          by_cases hn : 0 ≤ n
          · obtain rfl : k = 0 := by
              rcases Nat.eq_zero_or_pos k with e | e
              · exact e
              · exact absurd ⟨hn, e⟩ hpu
            clear hpu
            go_wp2
            go_roundw
            case rel => exact ⟨j + 1, _, A, c, L, -1, by omega, rfl, by go_num, rfl, hk, by omega, by omega, by omega, HrB.out.1, HrB.out.2, Lib.hid ⟨hS1.out, fun s hs => by have := hLs.out.1 s hs; omega, hLs.out.2⟩⟩
            case measure => simp [intOf]; omega
          · clear hpu
            go_wp2
            go_roundw
            case rel => exact ⟨j + 1, _, A, c, L, -1, by omega, rfl, by go_num, rfl, hk, by omega, by omega, by omega, HrB.out.1, HrB.out.2, Lib.hid ⟨hS1.out, fun s hs => by have := hLs.out.1 s hs; omega, hLs.out.2⟩⟩
            case measure => simp [intOf]; omega
    · obtain rfl : j = t.size := by omega
      have hD := Lib.hid (show rAcc t.data.toList = accN t.data.toList (L.map sgN) by
        have h1 := hL.out.1
        rw [List.drop_eq_nil_of_le (by rw [Array.length_toList]; exact Nat.le_refl _)] at h1
        unfold rAcc
        rw [h1]
        show accN _ ((L.map sgK).map segN) = _
        rw [segN_K])
      have hS : Segs wr wr.heap.size A k L := by
        obtain ⟨A', c', e, h⟩ := hrow.segs
        injection e with e1 e2 e3
        rw [hk.out] at h
        rw [e1]
        exact h
      have hall : (L.map sgN).all okN = L.all (sgOk 4) := by
        have e : ∀ s ∈ L, okN (sgN s) = sgOk 4 s := fun s hs => okN_link (hrow.2 s hs).2.1 (hrow.2 s hs).2.2.1
        rw [List.all_map, Bool.eq_iff_iff, List.all_eq_true, List.all_eq_true]
        exact ⟨fun h s hs => by rw [← e s hs]; exact h s hs, fun h s hs => by show okN (sgN s) = true; rw [e s hs]; exact h s hs⟩
      have hsz : ∀ s ∈ L, s.n ≤ 1000 := fun s hs => by have := hL.out.2.1 s hs; omega
      have hV := Lib.hid (rvalid_any A k c L wr hS (by omega) hsz)
      have HSg := Lib.hid hS
      have HROW := Lib.hid hrow
      have HB := Lib.hid hb
      have hTx := Lib.hid (fun W (hW : Below wr.heap.size wr W) => rtext_any A k c L W ((hS.below hW).more hW.size) (by omega) hsz)
      clear hL hrow hb hS hsz
      cases hkq : L.all (sgOk 4) with
      | false =>
        rw [hkq] at hV hTx
        have hR := Lib.hid (show pAcc t.data.toList = none by rw [acc_same, hD.out]; unfold accN; rw [if_neg (by rw [hall, hkq]; simp)])
        clear hD hall hkq
        go_wp2_with fail
        refine hV.out.mono ?_
        rintro e w2 ⟨rfl, hb2⟩
        have hb3 := bl_trans HB.out hb2
        go_wp2
        go_ret2
        exact ⟨none, 0, [], false, rfl, segs_nilS _, hb3, .inr ⟨rfl, hR.out, rfl⟩⟩
      | true =>
        rw [hkq] at hV hTx
        simp only [if_true] at hTx
        have hne0 : ∀ s ∈ L, s.xs ≠ [] := fun s hs e => by
          have h1 := (sgOk_iff.1 (List.all_eq_true.1 hkq s hs)).1.2.1
          have h2 := (HROW.out.2 s hs).2.1
          rw [e] at h2
          simp at h2
          omega
        have hlk := txt_link L hne0
        have hlen := hk.out
        by_cases hT : sgsTxt L = t
        · have q1 : ((sgsTxt L).toList == t.toList) = true := by rw [hT]; simp
          have hR := Lib.hid (show pAcc t.data.toList = some (L.map sgN) by rw [acc_same, hD.out]; unfold accN; rw [if_pos ⟨by rw [hall, hkq], by rw [← hlk, hT]⟩])
          have HLN := Lib.hid hlen
          clear hD hall hkq hlk hne0 hT hlen
          generalize sgsTxt L = Z at *
          go_wp2_with fail
          refine hV.out.mono ?_
          rintro e w2 ⟨rfl, hb2⟩
          go_wp2_with fail
          refine (hTx.out w2 hb2).mono ?_
          rintro e w3 ⟨rfl, hb3⟩
          have hb4 := bl_trans hb2 hb3
          have hb5 := bl_trans HB.out hb4
          go_wp2
          go_ret2
          exact ⟨A, c, L, true, by rw [HLN.out]; rfl, by rw [HLN.out]; exact (HSg.out.below hb4).more hb4.size, hb5, .inl ⟨rfl, hR.out⟩⟩
        · have q1 : ((sgsTxt L).toList == t.toList) = false := by
            rw [beq_eq_false_iff_ne]
            intro e
            rw [ByteArray.toList_eq, ByteArray.toList_eq] at e
            exact hT (ba_extS e)
          have hR := Lib.hid (show pAcc t.data.toList = none by rw [acc_same, hD.out]; unfold accN; rw [if_neg (fun h => hT (ba_extS (hlk.trans h.2)))])
          clear hD hall hkq hlk hne0 hT hlen
          generalize sgsTxt L = Z at *
          go_wp2_with fail
          refine hV.out.mono ?_
          rintro e w2 ⟨rfl, hb2⟩
          go_wp2_with fail
          refine (hTx.out w2 hb2).mono ?_
          rintro e w3 ⟨rfl, hb3⟩
          have hb4 := bl_trans hb2 hb3
          have hb5 := bl_trans HB.out hb4
          go_wp2
          go_ret2
          exact ⟨none, 0, [], false, rfl, segs_nilS _, hb5, .inr ⟨rfl, hR.out, rfl⟩⟩
end Go.Proofs.YtecbbjdcnlocdaaDoor

/- SegmentParses: the walk -/
namespace Go.Proofs.YtecbbjdcnlocdaaDoor
open Go.RowKit Go.Sort

set_option maxRecDepth 100000 in
theorem segparse_long (t : ByteArray) (w : World) (ht : Tens w) (hbk : Brk w) (hn : 400 < t.size) :
    Calls Tryd.prog 4 #[.string t] w fun e w' => e = .returned (.bool true) ∧ Below w.heap.size w w' := by
  have hA := Lib.hid (alive06_any w ht hbk)
  have hi : (400 : Int) < (t.size : Int) := by omega
  go_enter Tryd.func4, Tryd.ntmps4
  go_wp2_with fail
  refine hA.out.mono ?_
  rintro e w' ⟨rfl, hb⟩
  go_wp2
  go_ret
  exact ⟨rfl, hb⟩
set_option maxRecDepth 100000 in
set_option maxHeartbeats 3200000 in
theorem segparse_none (t : ByteArray) (w : World) (hn : t.size ≤ 400) (hp : pAcc t.data.toList = none) (ht : Tens w) (hbk : Brk w) (hz : PuOk w) :
    Calls Tryd.prog 4 #[.string t] w fun e w' => e = .returned (.bool true) ∧ Below w.heap.size w w' := by
  have hi : ¬ (400 : Int) < (t.size : Int) := by omega
  have hP := Lib.hid hp
  have hC1 := Lib.hid (sparse_any t (by omega) w hz hbk ht)
  have hC2 := Lib.hid (fun W => rparse_any t (by omega) W)
  have hA := Lib.hid (fun W (h : Below w.heap.size w W) => alive06_any W (ht.below h) (hbk.below h))
  have hQ := Lib.hid (fun (W : World) (A1 A2 : Option Addr) (c1 c2 : Nat) (h1 : Segs W W.heap.size A1 0 []) (h2 : Segs W W.heap.size A2 0 []) => (rsameS_any A1 A2 0 0 c1 c2 [] [] W _ _ h1 h2 (by omega) (by omega) (fun _ h => by cases h) (fun _ h => by cases h)))
  rw [decide_eq_true rfl] at hQ
  clear hp ht hbk hz hn
  go_enter Tryd.func4, Tryd.ntmps4
  go_wp2_with fail
  refine hC1.out.mono ?_
  rintro e w1 ⟨A1, c1, L1, q1, rfl, hs1, hb1, hc1⟩
  obtain ⟨rfl, rfl⟩ : q1 = false ∧ L1 = [] := by
    rcases hc1 with ⟨_, h⟩ | ⟨h, _, h2⟩
    · rw [hP.out] at h; cases h
    · exact ⟨h, h2⟩
  have HS1 := Lib.hid hs1
  clear hs1 hc1
  dsimp only [List.length_nil] at *
  go_wp2_with fail
  refine (hC2.out w1).mono ?_
  rintro e w2 ⟨A2, c2, L2, q2, rfl, hs2, hb2, hc2⟩
  obtain ⟨rfl, rfl⟩ : q2 = false ∧ L2 = [] := by
    rcases hc2 with ⟨_, h⟩ | ⟨h, _, h2⟩
    · rw [hP.out] at h; cases h
    · exact ⟨h, h2⟩
  have HS2 := Lib.hid hs2
  have hB2 := bl_trans hb1 hb2
  clear hs2 hc2
  dsimp only [List.length_nil] at *
  go_wp2_with fail
  refine (hA.out w2 hB2).mono ?_
  rintro e w3 ⟨rfl, hb3⟩
  have hB3 := bl_trans hB2 hb3
  have hc3 := bl_trans hb2 hb3
  have hQ2 := Lib.hid (hQ.out w3 A1 A2 c1 c2 ((HS1.out.below hc3).more hc3.size) ((HS2.out.below hb3).more hb3.size))
  go_wp2_with fail
  refine hQ2.out.mono ?_
  rintro e w' ⟨rfl, m, rfl⟩
  have hB4 := bl_drewN hB3 m
  go_wp2
  go_ret
  exact ⟨rfl, hB4⟩
set_option maxRecDepth 100000 in
set_option maxHeartbeats 3200000 in
theorem segparse_some (t : ByteArray) (w : World) (hn : t.size ≤ 400) (M : List (Int × List Nat)) (hp : pAcc t.data.toList = some M) (ht : Tens w) (hbk : Brk w) (hz : PuOk w) :
    Calls Tryd.prog 4 #[.string t] w fun e w' => e = .returned (.bool true) ∧ Below w.heap.size w w' := by
  have hi : ¬ (400 : Int) < (t.size : Int) := by omega
  have hP := Lib.hid hp
  have HN := Lib.hid hn
  have hC1 := Lib.hid (sparse_any t (by omega) w hz hbk ht)
  have hC2 := Lib.hid (fun W => rparse_any t (by omega) W)
  have hA := Lib.hid (fun W (h : Below w.heap.size w W) => alive06_any W (ht.below h) (hbk.below h))
  have hTB := Lib.hid (fun W (h : Below w.heap.size w W) => And.intro (ht.below h) (hbk.below h))
  clear hp ht hbk hz hn
  go_enter Tryd.func4, Tryd.ntmps4
  go_wp2_with fail
  refine hC1.out.mono ?_
  rintro e w1 ⟨A1, c1, L1, q1, rfl, hs1, hb1, hc1⟩
  obtain ⟨rfl, hp1⟩ : q1 = true ∧ pAcc t.data.toList = some (L1.map sgN) := by
    rcases hc1 with h | ⟨_, h, _⟩
    · exact h
    · rw [hP.out] at h; cases h
  have G1 := Lib.hid (spr_good hs1 hp1)
  have P1 := Lib.hid hp1
  have HS1 := Lib.hid hs1
  clear hs1 hc1 hp1
  go_wp2_with fail
  refine (hC2.out w1).mono ?_
  rintro e w2 ⟨A2, c2, L2, q2, rfl, hs2, hb2, hc2⟩
  obtain ⟨rfl, hp2⟩ : q2 = true ∧ pAcc t.data.toList = some (L2.map sgN) := by
    rcases hc2 with h | ⟨_, h, _⟩
    · exact h
    · rw [hP.out] at h; cases h
  have G2 := Lib.hid (spr_good hs2 hp2)
  have HE := Lib.hid (sgK_of_N (fun s hs x hx => ((HS1.out.2.1 s hs).2.2.2.1 x hx).1) (fun s hs x hx => ((hs2.2.1 s hs).2.2.2.1 x hx).1) (Option.some.inj (P1.out.symm.trans hp2)))
  have HS2 := Lib.hid hs2
  have hB2 := bl_trans hb1 hb2
  clear hs2 hc2 hp2
  go_wp2_with fail
  refine (hA.out w2 hB2).mono ?_
  rintro e w3 ⟨rfl, hb3⟩
  have hB3 := bl_trans hB2 hb3
  have hc3 := bl_trans hb2 hb3
  have hQ2 := Lib.hid (rsameS_any A1 A2 L1.length L2.length c1 c2 L1 L2 w3 _ _ ((HS1.out.below hc3).more hc3.size) ((HS2.out.below hb3).more hb3.size) (by have := G1.out.2.2.1; have := HN.out; omega) (by have := G2.out.2.2.1; have := HN.out; omega) (fun s hs => by have := G1.out.2.2.2 s hs; omega) (fun s hs => by have := G2.out.2.2.2 s hs; omega))
  rw [decide_eq_true HE.out] at hQ2
  go_wp2_with fail
  refine hQ2.out.mono ?_
  rintro e w' ⟨rfl, m, rfl⟩
  have hB4 := bl_drewN hB3 m
  have hc4 := bl_drewN hc3 m
  have hT := Lib.hid (stext_yes A1 L1.length c1 L1 (w3.drewN m) (hTB.out _ hB4).1 (hTB.out _ hB4).2 ((HS1.out.below hc4).more hc4.size) (by have := G1.out.2.2.1; have := HN.out; omega) G1.out.1)
  rw [G1.out.2.1] at hT
  go_wp2_with fail
  refine hT.out.mono ?_
  rintro e w5 ⟨rfl, hb5⟩
  have hB5 := bl_trans hB4 hb5
  go_wp2
  go_ret
  exact ⟨rfl, hB5⟩
set_option maxRecDepth 100000 in
theorem segparse_all (t : ByteArray) (w : World) (ht : Tens w) (hbk : Brk w) (hz : PuOk w) :
    Calls Tryd.prog 4 #[.string t] w fun e w' => e = .returned (.bool true) ∧ Below w.heap.size w w' := by
  by_cases hn : t.size ≤ 400
  · cases hp : pAcc t.data.toList with
    | none => exact segparse_none t w hn hp ht hbk hz
    | some M => exact segparse_some t w hn M hp ht hbk hz
  · exact segparse_long t w ht hbk (by omega)
end Go.Proofs.YtecbbjdcnlocdaaDoor

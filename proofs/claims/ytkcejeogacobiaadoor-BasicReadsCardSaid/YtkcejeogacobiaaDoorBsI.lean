/- peerageref07.Plain; BasicReads: the walk -/
import Derived.Test.YtkcejeogacobiaaDoorBsG
namespace Go.Proofs.YtkcejeogacobiaaDoor
open Go.RowKit Go.Maps

theorem U32s.cell {w : World} {B n : Nat} {A : Option Addr} {ls : List Int} (h : U32s w B A n ls) {k : Nat} (hk : k < n) : ∃ b o, A = some ⟨b, o, none⟩ ∧ b < B ∧ w.cell? ⟨b, o + k, none⟩ = some (.int .u32 (nth ls k)) := by
  obtain ⟨hn, hs⟩ := h
  obtain ⟨b, o, hA, hb, hc⟩ := hs.at_ (k := k) (v := .int .u32 (nth ls k)) (by rw [List.getElem?_map, nth_some (by omega)]; rfl)
  exact ⟨b, o, hA, hb, hc⟩
theorem nth_over {ls : List Int} {k : Nat} (h : ls.length ≤ k) : nth ls k = 0 := by unfold nth; rw [List.getD_eq_getElem?_getD, List.getElem?_eq_none h]; rfl
set_option maxRecDepth 100000 in
set_option maxHeartbeats 3200000 in
theorem rplain_any (a : At) (A : Option Addr) (n c : Nat) (ls : List Int) (w : World) (hl : U32s w w.heap.size A n ls) (hm : n ≤ maxLen) :
    Calls Tryd.prog 19 #[.agg (atc a), .slice A n c] w fun e w' => e = .returned (.bool (plB a ls)) ∧ Below w.heap.size w w' := by
  unfold maxLen at hm
  have hO : Hid (plB a ls = (decide (ls.length ≤ 2 ∧ a.N = nth ls 0 ∧ a.M = nth ls 1) && bareB a)) := Lib.hid rfl
  generalize plB a ls = V at *
  have hB := Lib.hid (fun W => rbare_any a W)
  generalize bareB a = Q at *
  obtain ⟨k, p, N, M, A1, n1, c1, A2, n2, c2, A3, n3, c3, f, A4, n4, c4⟩ := a
  unfold atc at *
  dsimp only at *
  have hb := bl_alloc (bl_refl w) (.cells #[.int .i64 k, .bool p, .int .u32 N, .int .u32 M, .slice A1 n1 c1, .slice A2 n2 c2, .slice A3 n3 c3, .int .i64 f, .slice A4 n4 c4] 29)
  have o := Own.new w 29 #[.int .i64 k, .bool p, .int .u32 N, .int .u32 M, .slice A1 n1 c1, .slice A2 n2 c2, .slice A3 n3 c3, .int .i64 f, .slice A4 n4 c4]
  have HL := Lib.hid hl.1
  have HU := Lib.hid (hl.below hb)
  obtain ⟨e0, e1, e2, e3, e4, e5, e6, e7, e8⟩ := at_cells o
  clear hl
  by_cases hn0 : n = 0
  · have hx0 := Lib.hid (nth_over (ls := ls) (k := 0) (by rw [← HL.out]; omega))
    have hx1 := Lib.hid (nth_over (ls := ls) (k := 1) (by rw [← HL.out]; omega))
    subst hn0
    go_enter Tryd.func19, Tryd.ntmps19
    go_wp2_with fail
    refine (hB.out _).mono ?_
    rintro e w1 ⟨rfl, hb1⟩
    obtain ⟨e0, e1, e2, e3, e4, e5, e6, e7, e8⟩ := at_cells (o.step hb1)
    cases Q
    · go_wp2
      go_ret
      exact ⟨ret_boolA (by rw [hO.out, Bool.and_false]), bl_trans hb hb1⟩
    · go_wp2
      all_goals go_ret
      all_goals refine ⟨ret_boolA ?_, bl_trans hb hb1⟩
      all_goals rw [hO.out, hx0.out, hx1.out, ← HL.out]
      all_goals (clear hO hx0 hx1 HL; rw [Bool.eq_iff_iff]; simp only [Bool.and_true, decide_eq_true_eq, beq_iff_eq, Bool.false_eq_true, false_iff] at *; omega)
  · by_cases hn1 : n = 1
    · have hx1 := Lib.hid (nth_over (ls := ls) (k := 1) (by rw [← HL.out]; omega))
      subst hn1
      obtain ⟨b, o2, rfl, hbb, q0⟩ := HU.out.cell (k := 0) (by omega)
      rw [Nat.add_zero] at q0
      generalize nth ls 0 = x at *
      go_enter Tryd.func19, Tryd.ntmps19
      go_wp2_with fail
      refine (hB.out _).mono ?_
      rintro e w1 ⟨rfl, hb1⟩
      obtain ⟨e0, e1, e2, e3, e4, e5, e6, e7, e8⟩ := at_cells (o.step hb1)
      cases Q
      · go_wp2
        go_ret
        exact ⟨ret_boolA (by rw [hO.out, Bool.and_false]), bl_trans hb hb1⟩
      · go_wp2
        all_goals go_ret
        all_goals refine ⟨ret_boolA ?_, bl_trans hb hb1⟩
        all_goals rw [hO.out, hx1.out, ← HL.out]
        all_goals (clear hO hx1 HL; rw [Bool.eq_iff_iff]; simp only [Bool.and_true, decide_eq_true_eq, beq_iff_eq, Bool.false_eq_true, false_iff] at *; omega)
    · obtain ⟨b, o2, rfl, hbb, q0⟩ := HU.out.cell (k := 0) (by omega)
      obtain ⟨b', o3, hA, _, q1⟩ := HU.out.cell (k := 1) (by omega)
      obtain ⟨rfl, rfl⟩ : b = b' ∧ o2 = o3 := by simpa using hA
      rw [Nat.add_zero] at q0
      generalize nth ls 0 = x at *
      generalize nth ls 1 = y at *
      clear hA
      have d0 : decide ((0 : Int) < (n : Int)) = true := by simp; omega
      have d1 : decide ((1 : Int) < (n : Int)) = true := by simp; omega
      have d2 : 0 < n := by omega
      have d3 : 1 < n := by omega
      go_enter Tryd.func19, Tryd.ntmps19
      go_wp2_with fail
      refine (hB.out _).mono ?_
      rintro e w1 ⟨rfl, hb1⟩
      obtain ⟨e0, e1, e2, e3, e4, e5, e6, e7, e8⟩ := at_cells (o.step hb1)
      cases Q
      · go_wp2
        go_ret
        exact ⟨ret_boolA (by rw [hO.out, Bool.and_false]), bl_trans hb hb1⟩
      · go_wp2
        all_goals go_ret
        all_goals refine ⟨ret_boolA ?_, bl_trans hb hb1⟩
        all_goals rw [hO.out, ← HL.out]
        all_goals (clear hO HL; rw [Bool.eq_iff_iff]; simp only [Bool.and_true, decide_eq_true_eq, beq_iff_eq, Bool.false_eq_true, false_iff] at *; omega)
theorem refuse_neI (k : Int) : (bRefuse k != 0) = true := by unfold bRefuse; split <;> rfl
set_option maxRecDepth 100000 in
theorem breads_early (k : Int) (A : Option Addr) (n c : Nat) (w : World) (hm : n ≤ maxLen) (h : 300 < n) :
    Calls Tryd.prog 3 #[.int .i64 k, .slice A n c] w fun e w' => e = .returned (.bool true) ∧ Below w.heap.size w w' := by
  unfold maxLen at hm
  have d : decide ((300 : Int) < (n : Int)) = true := by simp; omega
  go_enter Tryd.func3, Tryd.ntmps3
  go_wp2_with fail
  refine (alive07_any _).mono ?_
  rintro e w1 ⟨rfl, hb1⟩
  go_wp2
  go_ret
  exact ⟨rfl, hb1⟩
theorem u32_new (X : World) (N : Int) {T : TypeId} {g : Nat} (hg : g = X.heap.size) : U32s (X.alloc (.cells #[.int .u32 N] T)) (X.alloc (.cells #[.int .u32 N] T)).heap.size (some ⟨g, 0, none⟩) 1 [N] := one32 X N hg
theorem digits_big {k : Int} {xs : List Int} (hr : ∀ x ∈ xs, 0 ≤ x ∧ x ≤ 255) (h : (xs.length : Int) = bSize k) : bForm k (numV xs (bSize k)) = xs := by
  rw [numV_big h]
  unfold bForm bigF
  rw [← h, Int.toNat_natCast]
  have hc : xs.length = 0 ∨ xs.length = 1 ∨ xs.length = 4 := by
    rcases b_split k with h2 | ⟨h0, _⟩
    · rcases h2 with rfl | rfl | rfl | rfl | rfl | rfl
      all_goals (first | (have : bSize 1 = 1 := rfl; omega) | (have : bSize 3 = 4 := rfl; omega) | (have : bSize 4 = 4 := rfl; omega) | (have : bSize 5 = 4 := rfl; omega) | (have : bSize 6 = 0 := rfl; omega) | (have : bSize 9 = 4 := rfl; omega))
    · omega
  match xs, hc, hr with
  | [], _, _ => rfl
  | [a], _, hr =>
    have := hr a (by simp)
    show digitsOf 1 (big [a]) = [a]
    rw [digitsOf_1]; simp [big]; omega
  | [a, b, c, d], _, hr =>
    have h1 := hr a (by simp)
    have h2 := hr b (by simp)
    have h3 := hr c (by simp)
    have h4 := hr d (by simp)
    show digitsOf 4 (big [a, b, c, d]) = [a, b, c, d]
    rw [digitsOf_4]; simp [big]; omega
  | [a, b], hc, _ => simp at hc
  | [a, b, c], hc, _ => simp at hc
  | a :: b :: c :: d :: e :: r, hc, _ => simp at hc
set_option maxRecDepth 100000 in
set_option maxHeartbeats 1600000 in
theorem breads_yes (k : Int) (hwf : (Lit.int .i64 k).wf = true) (A : Option Addr) (n c : Nat) (xs : List Int) (w : World) (hx : Bytes w w.heap.size A n xs) (hnc : n ≤ c) (h : n ≤ 300) (hv : bOkV k xs = true) :
    Calls Tryd.prog 3 #[.int .i64 k, .slice A n c] w fun e w' => e = .returned (.bool true) ∧ Below w.heap.size w w' := by
  have d : decide ((300 : Int) < (n : Int)) = false := by simp; omega
  have hR := Lib.hid (fun (W : World) (hb : Below w.heap.size w W) => bread_any k hwf A n c xs W ((hx.below hb).more hb.size) (by omega))
  have hRR := Lib.hid (fun (W : World) (hb : Below w.heap.size w W) => rbread_any k A n c xs W ((hx.below hb).more hb.size) hnc (by omega))
  have hlen : (xs.length : Int) = bSize k := by unfold bOkV at hv; rw [decide_eq_true_eq] at hv; exact hv.1
  have hr4 : xs.length ≤ 4 := by rcases bSize_cases k with ⟨h1, _⟩ | ⟨_, h3, _⟩ <;> omega
  have hbr := big_range _ (xs.take (min xs.length 4)) rfl (fun x hm => hx.2.1 x (List.mem_of_mem_take hm))
  have hN : 0 ≤ numV xs (bSize k) ∧ numV xs (bSize k) < 4294967296 := by
    rw [numV_big hlen]
    refine ⟨hbr.1, ?_⟩
    have hl2 : (xs.take (min xs.length 4)).length ≤ 4 := by rw [List.length_take]; omega
    have := hbr.2
    have hp : (256 : Int) ^ (xs.take (min xs.length 4)).length ≤ 256 ^ 4 := by
      have : ∀ j, j ≤ 4 → (256 : Int) ^ j ≤ 256 ^ 4 := by decide
      exact this _ hl2
    unfold bigF
    have : (256 : Int) ^ 4 = 4294967296 := by decide
    omega
  have hvo : vOk (at0 k (numV xs (bSize k))) = true := by
    have := bOkV_eq k xs
    rw [hv, ← numV_big hlen, decide_eq_true hlen] at this
    simpa using this.symm
  have hform := Lib.hid (digits_big hx.2.1 hlen)
  have hBB := Lib.hid (fun W => bbytes_yes (at0 k (numV xs (bSize k))) hwf hN.1 hN.2 hvo W)
  have hPP := Lib.hid (fun A' c' W h => rplain_any (at0 k (numV xs (bSize k))) A' 1 c' [numV xs (bSize k)] W h (by unfold maxLen; omega))
  have hpl : plB (at0 k (numV xs (bSize k))) [numV xs (bSize k)] = true := by unfold plB bareB at0; simp [nth]
  rw [hpl] at hPP
  rw [show (at0 k (numV xs (bSize k))).k = k from rfl, show (at0 k (numV xs (bSize k))).N = numV xs (bSize k) from rfl, hform.out, show (bSize k).toNat = n by rw [← hlen, Int.toNat_natCast, ← hx.1]] at hBB
  unfold bAtt bKind at hR hRR
  rw [hv] at hR hRR
  unfold atV at hR hRR
  unfold at0 atc at hBB hPP
  simp only [if_true] at hR hRR
  dsimp only at hBB hPP
  generalize numV xs (bSize k) = N at *
  have HX := Lib.hid hx
  clear hx hv hvo hform hpl hlen hr4 hbr hN
  go_enter Tryd.func3, Tryd.ntmps3
  go_wp2_with fail
  refine (hR.out _ (bl_refl w)).mono ?_
  rintro e w1 ⟨rfl, hb1⟩
  have hb2 := bl_alloc hb1 (.cells #[.int .i64 k, .bool false, .int .u32 N, .int .u32 0, .slice none 0 0, .slice none 0 0, .slice none 0 0, .int .i64 0, .slice none 0 0] 29)
  have o1 := Own.new w1 29 #[.int .i64 k, .bool false, .int .u32 N, .int .u32 0, .slice none 0 0, .slice none 0 0, .slice none 0 0, .int .i64 0, .slice none 0 0]
  go_wp2_with fail
  refine (hRR.out _ hb2).mono ?_
  rintro e w2 ⟨rfl, hb3⟩
  have hb4 := bl_alloc (bl_trans hb2 hb3) (.cells #[.int .i64 k, .bool false, .int .u32 N, .int .u32 0, .slice none 0 0, .slice none 0 0, .slice none 0 0, .int .i64 0, .slice none 0 0] 29)
  have o2 := (o1.step hb3).alloc (.cells #[.int .i64 k, .bool false, .int .u32 N, .int .u32 0, .slice none 0 0, .slice none 0 0, .slice none 0 0, .int .i64 0, .slice none 0 0] 29)
  have o3 := Own.new w2 29 #[.int .i64 k, .bool false, .int .u32 N, .int .u32 0, .slice none 0 0, .slice none 0 0, .slice none 0 0, .int .i64 0, .slice none 0 0]
  obtain ⟨e0, e1, e2, e3, e4, e5, e6, e7, e8⟩ := at_cells o2
  have hl := o2.lt
  clear hb1 hb2 hb3 o1
  go_wp2_with fail
  refine (hBB.out _).mono ?_
  rintro e w3 ⟨A3, rfl, hB3, hb5⟩
  have hb6 := bl_trans hb4 hb5
  have p2 := o2.step hb5
  have p3 := o3.step hb5
  clear e0 e1 e2 e3 e4 e5 e6 e7 e8 hl o2 o3 hb4 hb5
  go_wp2_with fail
  refine (alive07_any _).mono ?_
  rintro e w4 ⟨rfl, hb7⟩
  have q2 := p2.step hb7
  have q3 := p3.step hb7
  have hb8 := bl_trans hb6 hb7
  have hB4 := Lib.hid ((hB3.below hb7).more hb7.size)
  obtain ⟨e0, e1, e2, e3, e4, e5, e6, e7, e8⟩ := at_cells q2
  obtain ⟨f0, f1, f2, f3, f4, f5, f6, f7, f8⟩ := at_cells q3
  have hb9 := bl_alloc hb8 (.cells #[.int .u32 N] 24)
  clear p2 p3 hB3 hb6 hb7
  go_wp2_with fail
  refine (hPP.out _ _ _ (u32_new _ N rfl)).mono ?_
  rintro e w5 ⟨rfl, hb10⟩
  have hb11 := bl_trans hb9 hb10
  have hX := Lib.hid ((HX.out.below hb11).more hb11.size)
  have hB5 := Lib.hid (((hB4.out.below (bl_alloc (bl_refl w4) (.cells #[.int .u32 N] 24))).more (bl_alloc (bl_refl w4) (.cells #[.int .u32 N] 24)).size).below hb10 |>.more hb10.size)
  go_wp2_with fail
  refine (bytesEq_same _ _ _ _ _ _ xs _ _ _ hB5.out hX.out (by omega) (by omega)).mono ?_
  rintro e w6 ⟨rfl, m, rfl⟩
  go_wp2
  go_ret
  exact ⟨rfl, bl_drewN hb11 m⟩
set_option maxRecDepth 100000 in
set_option maxHeartbeats 1600000 in
theorem breads_no (k : Int) (hwf : (Lit.int .i64 k).wf = true) (A : Option Addr) (n c : Nat) (xs : List Int) (w : World) (hx : Bytes w w.heap.size A n xs) (hnc : n ≤ c) (h : n ≤ 300) (hv : bOkV k xs = false) :
    Calls Tryd.prog 3 #[.int .i64 k, .slice A n c] w fun e w' => e = .returned (.bool true) ∧ Below w.heap.size w w' := by
  have d : decide ((300 : Int) < (n : Int)) = false := by simp; omega
  have hR := Lib.hid (fun (W : World) (hb : Below w.heap.size w W) => bread_any k hwf A n c xs W ((hx.below hb).more hb.size) (by omega))
  have hRR := Lib.hid (fun (W : World) (hb : Below w.heap.size w W) => rbread_any k A n c xs W ((hx.below hb).more hb.size) hnc (by omega))
  have hvo : vOk (at0 0 0) = false := by decide
  have hBB := Lib.hid (fun W => bbytes_no (at0 0 0) rfl hvo W)
  have hPP := Lib.hid (fun A' c' W h => rplain_any (at0 0 0) A' 1 c' [0] W h (by unfold maxLen; omega))
  have hpl : plB (at0 0 0) [0] = true := by decide
  rw [hpl] at hPP
  unfold bAtt bKind at hR hRR
  rw [hv] at hR hRR
  unfold atV at hR hRR
  unfold at0 atc at hBB hPP
  simp only [Bool.false_eq_true, if_false] at hR hRR
  dsimp only at hBB hPP
  have hr := refuse_neI k
  generalize bRefuse k = r at *
  have hrr : (r == r) = true := by simp
  clear hx hv hvo hpl
  go_enter Tryd.func3, Tryd.ntmps3
  go_wp2_with fail
  refine (hR.out _ (bl_refl w)).mono ?_
  rintro e w1 ⟨rfl, hb1⟩
  have hb2 := bl_alloc hb1 (.cells #[.int .i64 0, .bool false, .int .u32 0, .int .u32 0, .slice none 0 0, .slice none 0 0, .slice none 0 0, .int .i64 0, .slice none 0 0] 29)
  have o1 := Own.new w1 29 #[.int .i64 0, .bool false, .int .u32 0, .int .u32 0, .slice none 0 0, .slice none 0 0, .slice none 0 0, .int .i64 0, .slice none 0 0]
  go_wp2_with fail
  refine (hRR.out _ hb2).mono ?_
  rintro e w2 ⟨rfl, hb3⟩
  have hb4 := bl_alloc (bl_trans hb2 hb3) (.cells #[.int .i64 0, .bool false, .int .u32 0, .int .u32 0, .slice none 0 0, .slice none 0 0, .slice none 0 0, .int .i64 0, .slice none 0 0] 29)
  have o2 := (o1.step hb3).alloc (.cells #[.int .i64 0, .bool false, .int .u32 0, .int .u32 0, .slice none 0 0, .slice none 0 0, .slice none 0 0, .int .i64 0, .slice none 0 0] 29)
  have o3 := Own.new w2 29 #[.int .i64 0, .bool false, .int .u32 0, .int .u32 0, .slice none 0 0, .slice none 0 0, .slice none 0 0, .int .i64 0, .slice none 0 0]
  obtain ⟨e0, e1, e2, e3, e4, e5, e6, e7, e8⟩ := at_cells o2
  have hl := o2.lt
  clear hb1 hb2 hb3 o1
  go_wp2_with fail
  refine (hBB.out _).mono ?_
  rintro e w3 ⟨rfl, hb5⟩
  have hb6 := bl_trans hb4 hb5
  have p2 := o2.step hb5
  have p3 := o3.step hb5
  clear e0 e1 e2 e3 e4 e5 e6 e7 e8 hl o2 o3 hb4 hb5
  go_wp2_with fail
  refine (alive07_any _).mono ?_
  rintro e w4 ⟨rfl, hb7⟩
  have q2 := p2.step hb7
  have q3 := p3.step hb7
  have hb8 := bl_trans hb6 hb7
  obtain ⟨e0, e1, e2, e3, e4, e5, e6, e7, e8⟩ := at_cells q2
  obtain ⟨f0, f1, f2, f3, f4, f5, f6, f7, f8⟩ := at_cells q3
  have hb9 := bl_alloc hb8 (.cells #[.int .u32 0] 24)
  clear p2 p3 hb6 hb7
  go_wp2_with fail
  refine (hPP.out _ _ _ (u32_new _ 0 rfl)).mono ?_
  rintro e w5 ⟨rfl, hb10⟩
  go_wp2
  go_ret
  exact ⟨rfl, bl_trans hb9 hb10⟩
set_option maxRecDepth 100000 in
theorem breads_all (k : Int) (hwf : (Lit.int .i64 k).wf = true) (A : Option Addr) (n c : Nat) (xs : List Int) (w : World) (hx : Bytes w w.heap.size A n xs) (hnc : n ≤ c) (hm : c ≤ maxLen) :
    Calls Tryd.prog 3 #[.int .i64 k, .slice A n c] w fun e w' => e = .returned (.bool true) ∧ Below w.heap.size w w' := by
  by_cases h : 300 < n
  · exact breads_early k A n c w (Nat.le_trans hnc hm) h
  · cases hv : bOkV k xs with
    | false => exact breads_no k hwf A n c xs w hx hnc (by omega) hv
    | true => exact breads_yes k hwf A n c xs w hx hnc (by omega) hv
end Go.Proofs.YtkcejeogacobiaaDoor

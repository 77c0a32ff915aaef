/- peerageref09.Read -/
import Derived.Test.YtngeldgohijheaaDoorCmQ
namespace Go.Proofs.YtngeldgohijheaaDoor
open Go.RowKit Go.Sort

theorem bytes_cut9 {w : World} {B : Nat} {b o n : Nat} {xs : List Int} (h : Bytes w B (some ⟨b, o, none⟩) n xs) {k : Nat} (hk : k ≤ n) : Bytes w B (some ⟨b, o + k, none⟩) (n - k) (xs.drop k) := by
  have := h.cut (cap := n + k + 1) hk (by omega)
  rw [if_neg (by omega), Option.map_some, Addr.add_lit] at this
  exact this
/-- What a read gives. -/
def RdP (k : Int) (n : Nat) (xs : List Int) (w : World) (e : Ending) (w' : World) : Prop :=
  (cmRd k n = true → ∃ A' c', e = .returned (.tuple #[.agg (atc (atL k false A' (n / 4) c')), .int .i64 0]) ∧ w'.ownsRow w.heap.size 24 1 (.slice A' (n / 4) c') (n / 4) ((nums 4 (n / 4) xs).map (Value.int .u32)) ∧ Below w.heap.size w w') ∧
  (cmRd k n = false → e = .returned (.tuple #[.agg (atc (atL 0 false none 0 0)), .int .i64 2]) ∧ Below w.heap.size w w')
theorem cmRd_four {k : Int} {n : Nat} (h : n % 4 ≠ 0) : cmRd k n = false := by
  unfold cmRd
  refine decide_eq_false (fun hh => h ?_)
  have h1 := Nat.dvd_of_mod_eq_zero hh.2.2
  exact Nat.mod_eq_zero_of_dvd (Nat.dvd_trans ⟨cmG k, rfl⟩ h1)
theorem cmRd_ok {k : Int} {n m : Nat} (h : n = 4 * m) (A : Option Addr) (c : Nat) : cmOk (atL k false A m c) = cmRd k n := by
  unfold cmOk cmRd
  rw [cmB_atL, Bool.and_true, Bool.eq_iff_iff, decide_eq_true_iff, decide_eq_true_iff]
  show (cmG k ≠ 0 ∧ m ≠ 0 ∧ m % cmG k = 0) ↔ _
  subst h
  rw [Nat.mul_mod_mul_left]
  constructor
  · rintro ⟨h1, h2, h3⟩
    exact ⟨h1, by omega, by omega⟩
  · rintro ⟨h1, h2, h3⟩
    exact ⟨h1, by omega, by omega⟩
set_option maxRecDepth 100000 in
set_option maxHeartbeats 12800000 in
theorem rcmread_any (k : Int) (A : Option Addr) (n c : Nat) (xs : List Int) (w : World) (hx : Bytes w w.heap.size A n xs) (hnc : n ≤ c) (_hcm : c ≤ maxLen) (hn : n ≤ 4000) :
    Calls Tryd.prog 11 #[.int .i64 k, .slice A n c] w (RdP k n xs w) := by
  unfold maxLen at _hcm
  have hb0 := bl_alloc (bl_refl w) (.cells #[.int .i64 0, .bool false, .int .u32 0, .int .u32 0, .slice none 0 0, .slice none 0 0, .slice none 0 0, .int .i64 0, .slice none 0 0] 29)
  have hb1 := bl_alloc hb0 (.cells #[.int .i64 k, .bool false, .int .u32 0, .int .u32 0, .slice none 0 0, .slice none 0 0, .slice none 0 0, .int .i64 0, .slice none 0 0] 29)
  have o0 := (Own.new w 29 #[.int .i64 0, .bool false, .int .u32 0, .int .u32 0, .slice none 0 0, .slice none 0 0, .slice none 0 0, .int .i64 0, .slice none 0 0]).alloc (.cells #[.int .i64 k, .bool false, .int .u32 0, .int .u32 0, .slice none 0 0, .slice none 0 0, .slice none 0 0, .int .i64 0, .slice none 0 0] 29)
  have o1 := Own.new (w.alloc (.cells #[.int .i64 0, .bool false, .int .u32 0, .int .u32 0, .slice none 0 0, .slice none 0 0, .slice none 0 0, .int .i64 0, .slice none 0 0] 29)) 29 #[.int .i64 k, .bool false, .int .u32 0, .int .u32 0, .slice none 0 0, .slice none 0 0, .slice none 0 0, .int .i64 0, .slice none 0 0]
  rw [show (w.alloc (.cells #[.int .i64 0, .bool false, .int .u32 0, .int .u32 0, .slice none 0 0, .slice none 0 0, .slice none 0 0, .int .i64 0, .slice none 0 0] 29)).heap.size = w.heap.size + 1 by simp] at o1
  have HX := Lib.hid hx
  have hL := Lib.hid hx.1
  have hs2 : w.heap.size + 1 + 1 ≤ ((w.alloc (.cells #[.int .i64 0, .bool false, .int .u32 0, .int .u32 0, .slice none 0 0, .slice none 0 0, .slice none 0 0, .int .i64 0, .slice none 0 0] 29)).alloc (.cells #[.int .i64 k, .bool false, .int .u32 0, .int .u32 0, .slice none 0 0, .slice none 0 0, .slice none 0 0, .int .i64 0, .slice none 0 0] 29)).heap.size := by simp
  clear hx
  go_enter Tryd.func11, Tryd.ntmps11
  go_wp2
  go_loopw [7] (fun i wr => ∃ (q p : Nat) (A2 : Option Addr) (c2 : Nat), Hid (p = 4 * q) ∧ p ≤ n ∧ i = .int .i64 p ∧ wr.ownsRow (w.heap.size + 1 + 1) 24 1 (.slice A2 q c2) q ((nums 4 q xs).map (Value.int .u32)) ∧ Own wr (w.heap.size + 1) 29 #[.int .i64 k, .bool false, .int .u32 0, .int .u32 0, .slice none 0 0, .slice A2 q c2, .slice none 0 0, .int .i64 0, .slice none 0 0] ∧ Own wr w.heap.size 29 #[.int .i64 0, .bool false, .int .u32 0, .int .u32 0, .slice none 0 0, .slice none 0 0, .slice none 0 0, .int .i64 0, .slice none 0 0] ∧ Below w.heap.size w wr ∧ w.heap.size + 1 + 1 ≤ wr.heap.size) (fun i _ => n - (intOf i).toNat)
  case atStart => exact ⟨0, 0, none, 0, Lib.hid rfl, Nat.zero_le _, rfl, World.ownsRow_nil _ _ _ _, o1, o0, hb1, hs2⟩
  case round =>
    obtain ⟨q, p, A2, c2, HQ, hp, rfl, hrow, oq, oz, hbq, hsq⟩ := hrel
    clear o0 o1 hb0 hb1 hs2
    have hq4 := HQ.out
    have hq5 : q ≤ 1000 := by omega
    have k1 : IntKind.i64.wrap ((p : Int) + 4) = (p : Int) + 4 := IntWalk.i64_in _ (by omega)
    clear hq4
    by_cases hlt : p + 4 ≤ n
    · obtain ⟨b, o, rfl, hbB, _⟩ := (HX.out.below hbq).at_ (k := p) (by omega)
      have hlti : (p : Int) + 4 ≤ (n : Int) := by omega
      have d5 := oq.cell (i := 5) rfl
      have HRq := Lib.hid hrow
      have HOq := Lib.hid oq
      have HOz := Lib.hid oz
      have HBq := Lib.hid hbq
      have hcut := (bytes_cut9 ((HX.out.below hbq).below (show Below w.heap.size wr wr.drew from (bl_drewN (bl_refl wr) 1).mono hbq.size)) (k := p) (by omega)).front (k := 4) (by omega)
      have hnu := Lib.hid (show (nums 4 (q + 1) xs).map (Value.int .u32) = (nums 4 q xs).map (Value.int .u32) ++ [.int .u32 (big ((xs.drop p).take 4))] by rw [nums_succ, List.map_append, HQ.out, Nat.mul_comm q 4]; rfl)
      have hBig := Lib.hid (fun cc => rbig_any (some ⟨b, o + p, none⟩) 4 cc ((xs.drop p).take 4) wr.drew w.heap.size hcut (by omega))
      generalize big ((xs.drop p).take 4) = x at *
      have d5a := (HOq.out.alloc (.cells #[.int .u32 x] 24)).cell (i := 5) rfl
      have f1 : 0 ≤ (p : Int) + 4 := by omega
      have f2 : (p : Int) + 4 ≤ (c : Int) := by omega
      have f3 : (p : Int) ≤ max ((p : Int) + 4) 0 := by omega
      have f4 : ((p : Int) + 4).toNat = p + 4 := by omega
      have m3 : p + 4 ≤ c := by omega
      have m4 : ¬ c = p := by omega
      clear hcut hrow oq oz hbq
      go_wp2_with fail
      go_region_law ((first
        | (go_simp; go_at_call 39; refine (hBig.out _).mono ?_; rintro e w' ⟨rfl, rfl⟩)
        | (refine step_append_at _ rfl _ _ rfl sl_u32 (w.heap.size + 1 + 1) _ q _ rfl (own_belowG HRq.out (show Below wr.heap.size wr (wr.alloc (.cells #[.int .u32 x] 24)).drew from bl_drewN (bl_alloc (bl_refl wr) _) 1)) (wr.heap.size + 1) (some ⟨wr.heap.size, 0, none⟩) 1 1 [.int .u32 x] rfl rfl (Shows.of_owned (xs := [.int .u32 x]) (Own.new wr 24 #[.int .u32 x]).drew (Nat.lt_succ_self _)) (one1 rfl) (by unfold maxLen; omega) (by omega) (by simp; omega) ?_; intro v3 w3 hoq2 hgrow2 _; obtain ⟨A3, c3, rfl⟩ := own_form hoq2; have oq3 := (HOq.out.alloc (.cells #[.int .u32 x] 24)).drew.grown hgrow2 (by intro e; have := own_base HRq.out _ e.symm; omega); have cq3 := oq3.cell (i := 5) rfl; have fq3 := oq3.frozen 5; have hq3 := oq3.lt)))
      all_goals
        have oz3 := (HOz.out.alloc (.cells #[.int .u32 x] 24)).drew.grown hgrow2 (by intro e; have := own_base HRq.out _ e.symm; omega)
        have hbq3 : Below w.heap.size w w3 := (show Below w.heap.size w (wr.alloc (.cells #[.int .u32 x] 24)).drew from bl_drewN (bl_alloc HBq.out _) 1).grown hgrow2 (by simp; omega) (fun j hj => by have := own_base HRq.out j hj; omega)
        have hbq4 := hbq3.setCell (p := ⟨w.heap.size + 1, 5, none⟩) (by simp) (.slice A3 (q + 1) c3)
        have oq4 := oq3.set_ 5 (.slice A3 (q + 1) c3)
        simp only [List.setIfInBounds_toArray, List.set_cons_succ, List.set_cons_zero] at oq4
        have oz4 := oz3.far (p := ⟨w.heap.size + 1, 5, none⟩) (by simp) (.slice A3 (q + 1) c3)
        have hs4 : w.heap.size + 1 + 1 ≤ (w3.setCell ⟨w.heap.size + 1, 5, none⟩ (.slice A3 (q + 1) c3)).heap.size := by have h1 := (Rest.setCell w3 ⟨w.heap.size + 1, 5, none⟩ (.slice A3 (q + 1) c3)).size; have h2 := hgrow2.size; simp at h2; omega
        rw [← hnu.out] at hoq2
        have hoq4 := row_rest hoq2 (Rest.setCell w3 ⟨w.heap.size + 1, 5, none⟩ (.slice A3 (q + 1) c3)) (fun j hj e => by have := (row_typed hoq2 hj).2; dsimp only at e; omega)
        go_wp2
        go_roundw
        case rel => exact ⟨q + 1, p + 4, A3, c3, Lib.hid (by rw [HQ.out]; omega), by omega, by go_num, hoq4, oq4, oz4, hbq4, hs4⟩
        case measure => simp [intOf]; omega
    · have hlti : ¬ (p : Int) + 4 ≤ (n : Int) := by omega
      have hqn : Hid (q = n / 4) := Lib.hid (by have := HQ.out; omega)
      have hrm : ((n : Int).tmod 4) = ((n % 4 : Nat) : Int) := by rw [show (4 : Int) = ((4 : Nat) : Int) from rfl, Int.ofNat_tmod]
      have hr4 : n % 4 < 4 := Nat.mod_lt _ (by omega)
      have HZ := Lib.hid (fun h => cmRd_four (k := k) (n := n) h)
      have HM := Lib.hid (show n = 4 * (n / 4) + n % 4 by omega)
      have HRow := Lib.hid hrow
      generalize n % 4 = r at *
      by_cases hr : r = 0
      · have q3 : ((r : Int) != 0) = false := by simp; omega
        have hOk := Lib.hid (cmRd_ok (k := k) (n := n) (m := q) (by have := HM.out; have := hqn.out; omega) A2 c2)
        have hV := Lib.hid (fun W => rcmvalid_any (atL k false A2 q c2) W (by show q ≤ maxLen; unfold maxLen; omega))
        rw [hOk.out] at hV
        unfold atL atc at hV
        dsimp only at hV
        obtain ⟨e0, e1, e2, e3, e4, e5, e6, e7, e8⟩ := at_cells oq
        have HRd : Hid (cmRd k n = cmRd k n) := Lib.hid rfl
        obtain ⟨rd, hrd⟩ : ∃ rd, cmRd k n = rd := ⟨_, rfl⟩
        rw [hrd] at hV
        clear hrow hr HZ
        cases rd
        · go_wp2_with fail
          refine (hV.out _).mono ?_
          rintro e w5 ⟨rfl, hb5⟩
          have oz5 := oz.step hb5
          go_wp2_with (refine wpList_store_row rfl 29 _ _ rfl w.heap.size #[.int .i64 0, .bool false, .int .u32 0, .int .u32 0, .slice none 0 0, .slice none 0 0, .slice none 0 0, .int .i64 0, .slice none 0 0] rfl rfl 29 #[.int .i64 0, .bool false, .int .u32 0, .int .u32 0, .slice none 0 0, .slice none 0 0, .slice none 0 0, .int .i64 0, .slice none 0 0] oz5 (at_info9 _ _ _ _ _ _ _ _ _) rfl (at_one 0 0) ?_)
          exact bodyPost_ret (results_cell_tmp (p := 4) (t := 5) (fn := Tryd.f11) rfl _ _ w.heap.size 29 _ _ rfl oz5.setRow at_desc rfl (at_info9 _ _ _ _ _ _ _ _ _)) rfl ⟨fun h => (by rw [hrd] at h; cases h), fun _ => ⟨rfl, bl_setRow (bl_trans hbq hb5) (Nat.le_refl _)⟩⟩
        · go_wp2_with fail
          refine (hV.out _).mono ?_
          rintro e w5 ⟨rfl, hb5⟩
          have oz5 := oz.step hb5
          have oq5 := oq.step hb5
          have row5 := own_belowG HRow.out hb5
          obtain ⟨f0, f1, f2, f3, f4, f5, f6, f7, f8⟩ := at_cells oq5
          clear e0 e1 e2 e3 e4 e5 e6 e7 e8
          go_wp2_with (refine wpList_store_row rfl 29 _ _ rfl w.heap.size #[.int .i64 k, .bool false, .int .u32 0, .int .u32 0, .slice none 0 0, .slice A2 q c2, .slice none 0 0, .int .i64 0, .slice none 0 0] rfl rfl 29 #[.int .i64 0, .bool false, .int .u32 0, .int .u32 0, .slice none 0 0, .slice none 0 0, .slice none 0 0, .int .i64 0, .slice none 0 0] oz5 (at_info9 _ _ _ _ _ _ _ _ _) rfl (by simp [Value.oneCell']) ?_)
          have row6 := own_leG (row_rest row5 (⟨rfl, rfl, rfl, by simp, fun i _ hn => setRow_other w5 w.heap.size i _ hn⟩ : Rest w5 (w5.setRow w.heap.size #[.int .i64 k, .bool false, .int .u32 0, .int .u32 0, .slice none 0 0, .slice A2 q c2, .slice none 0 0, .int .i64 0, .slice none 0 0]) (fun i => i = w.heap.size)) (fun j hj e => by have := (row_typed row5 hj).2; omega)) (show w.heap.size ≤ w.heap.size + 1 + 1 by omega)
          refine bodyPost_ret (results_cell_tmp (p := 4) (t := 5) (fn := Tryd.f11) rfl _ _ w.heap.size 29 _ _ rfl oz5.setRow at_desc rfl (at_info9 _ _ _ _ _ _ _ _ _)) rfl ⟨fun _ => ?_, fun h => (by rw [hrd] at h; cases h)⟩
          rw [← hqn.out]
          exact ⟨A2, c2, rfl, row6, bl_setRow (bl_trans hbq hb5) (Nat.le_refl _)⟩
      · have q3 : ((r : Int) != 0) = true := by simp; omega
        have hrd := HZ.out hr
        clear hrow hr HZ
        have HRd := Lib.hid hrd
        clear hrd
        go_wp2_with (refine wpList_store_row rfl 29 _ _ rfl w.heap.size #[.int .i64 0, .bool false, .int .u32 0, .int .u32 0, .slice none 0 0, .slice none 0 0, .slice none 0 0, .int .i64 0, .slice none 0 0] rfl rfl 29 #[.int .i64 0, .bool false, .int .u32 0, .int .u32 0, .slice none 0 0, .slice none 0 0, .slice none 0 0, .int .i64 0, .slice none 0 0] oz (at_info9 _ _ _ _ _ _ _ _ _) rfl (at_one 0 0) ?_)
        exact bodyPost_ret (results_cell_tmp (p := 4) (t := 5) (fn := Tryd.f11) rfl _ _ w.heap.size 29 _ _ rfl oz.setRow at_desc rfl (at_info9 _ _ _ _ _ _ _ _ _)) rfl ⟨fun h => (by rw [HRd.out] at h; cases h), fun _ => ⟨rfl, bl_setRow hbq (Nat.le_refl _)⟩⟩
end Go.Proofs.YtngeldgohijheaaDoor

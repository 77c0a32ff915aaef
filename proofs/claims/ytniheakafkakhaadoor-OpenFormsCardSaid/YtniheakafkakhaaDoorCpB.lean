/- capability: Few, Given, Back, Valid on both sides -/
import Derived.Test.YtniheakafkakhaaDoorCpP
import Derived.Test.YtniheakafkakhaaDoorGrow
namespace Go.Proofs.YtniheakafkakhaaDoor
open Go.RowKit

theorem Cp.Ok.below {w w' : World} {B : Nat} {s : Cp} (h : s.Ok w B) (hb : Below B w w') : s.Ok w' B := ⟨h.1.below hb, h.2⟩
theorem Cp.Ok.more {w : World} {B B' : Nat} {s : Cp} (h : s.Ok w B) (hB : B ≤ B') : s.Ok w B' := ⟨h.1.more hB, h.2⟩
theorem ret_boolC {a b : Bool} (h : a = b) : Ending.returned (.bool a) = Ending.returned (.bool b) := by rw [h]
theorem cpall_step {P : Cp → Bool} {ss : List Cp} {k : Nat} (hk : k < ss.length) (h : (ss.take k).all P = true) (e : P (cpth ss k) = true) : (ss.take (k + 1)).all P = true := by rw [take_cpth hk, List.all_append, h]; simp [e]
theorem cpall_no {P : Cp → Bool} {ss : List Cp} {k : Nat} (hk : k < ss.length) (e : P (cpth ss k) = false) : ss.all P = false := by
  rw [List.all_eq_false]
  exact ⟨_, cpth_mem hk, by simp [e]⟩
theorem cpall_done {P : Cp → Bool} {ss : List Cp} {n : Nat} (hn : n = ss.length) (h : (ss.take n).all P = true) : ss.all P = true := by rwa [List.take_of_length_le (by omega)] at h
/-- Few and small capabilities. -/
def fewCp (ss : List Cp) : Bool := ss.all (fun s => decide (s.n ≤ 300)) && decide (ss.length ≤ 40)
set_option maxRecDepth 100000 in
set_option maxHeartbeats 1600000 in
theorem few16_any (A : Option Addr) (n c : Nat) (ss : List Cp) (w : World) (h : Caps w w.heap.size A n ss) (hm : n ≤ maxLen) :
    Calls Tryd.prog 22 #[.slice A n c] w fun e w' => e = .returned (.bool (fewCp ss)) ∧ w = w' := by
  unfold maxLen at hm
  have HN := Lib.hid h.1
  have HV := Lib.hid h
  clear h
  go_enter Tryd.func22, Tryd.ntmps22
  go_wp2
  go_loopw [3] (fun i wr => (∃ j : Nat, j ≤ n ∧ i = .int .i64 j ∧ Hid ((ss.take j).all (fun s => decide (s.n ≤ 300)) = true)) ∧ wr = w) (fun i _ => n - (intOf i).toNat)
  case atStart => exact ⟨⟨0, Nat.zero_le _, rfl, Lib.hid (by simp)⟩, rfl⟩
  case round =>
    obtain ⟨⟨j, hj, rfl, hall⟩, rfl⟩ := hrel
    by_cases hlt : j < n
    · obtain ⟨b, o, rfl, hbB, d0, d1⟩ := HV.out.at_ hlt
      have hj' : Hid (j < ss.length) := Lib.hid (by have := HN.out; omega)
      have hYe := Lib.hid (fun h => cpall_step (P := fun s => decide (s.n ≤ 300)) hj'.out hall.out h)
      have hNo := Lib.hid (fun h => cpall_no (P := fun s => decide (s.n ≤ 300)) hj'.out h)
      have hok := (HV.out.ok hlt).2
      unfold maxLen at hok
      generalize cpth ss j = v at *
      obtain ⟨k, A1, n1, c1, x1⟩ := v
      dsimp only at *
      by_cases hs : n1 ≤ 300
      · have hq : decide ((300 : Int) < (n1 : Int)) = false := by simp; omega
        have hR := Lib.hid (hYe.out (decide_eq_true hs))
        clear hYe hNo
        go_wp2
        go_roundw
        case rel => exact ⟨⟨j + 1, by omega, by go_num, hR⟩, trivial⟩
        case measure => simp [intOf]; omega
      · have hq : decide ((300 : Int) < (n1 : Int)) = true := by simp; omega
        have hR := Lib.hid (show fewCp ss = false by unfold fewCp; rw [hNo.out (decide_eq_false hs)]; rfl)
        clear hYe hNo
        go_wp2
        go_ret
        exact ⟨ret_boolC hR.out.symm, rfl⟩
    · obtain rfl : n = j := by omega
      have HT := Lib.hid (cpall_done HN.out hall.out)
      have HF := Lib.hid (show fewCp ss = decide (n ≤ 40) by unfold fewCp; rw [HT.out, Bool.true_and, HN.out])
      by_cases h40 : n ≤ 40
      · have hq : decide ((n : Int) ≤ 40) = true := by simp; omega
        rw [decide_eq_true h40] at HF
        clear hlt hj h40
        go_wp2
        go_ret
        exact ⟨ret_boolC HF.out.symm, rfl⟩
      · have hq : decide ((n : Int) ≤ 40) = false := by simp; omega
        rw [decide_eq_false h40] at HF
        clear hlt hj h40
        go_wp2
        go_ret
        exact ⟨ret_boolC HF.out.symm, rfl⟩

set_option maxRecDepth 100000 in
set_option maxHeartbeats 3200000 in
theorem given_any (A : Option Addr) (n c : Nat) (ss : List Cp) (w : World) (h : Caps w w.heap.size A n ss) (hn : n ≤ 100000) :
    Calls Tryd.prog 71 #[.slice A n c] w fun e w' => ∃ A' c', e = .returned (.slice A' n c') ∧ Caps w' w'.heap.size A' n ss ∧ Below w.heap.size w w' := by
  have HN := Lib.hid h.1
  have HE := Lib.hid h
  clear h
  go_enter Tryd.func71, Tryd.ntmps71
  go_wp2_with fail
  go_loopw [3, 5, 8] (fun ov _ i wr => ∃ k : Nat, k ≤ n ∧ i = .int .i64 k ∧ wr.ownsRow w.heap.size 83 2 ov k (cellsP (ss.take k)) ∧ Below w.heap.size w wr) (fun _ _ i _ => n - (intOf i).toNat)
  case atStart => exact ⟨0, Nat.zero_le _, rfl, by simpa [cellsP] using World.ownsRow_nil _ _ _ _, bl_refl _⟩
  case round =>
    obtain ⟨k, hk, rfl, hrow, hb⟩ := hrel
    by_cases hlt : k < n
    · obtain ⟨b, o, rfl, hbB, d0, d1⟩ := ((HE.out.below hb)).at_ hlt
      have hst := Lib.hid (cellsP_take (ss := ss) (k := k) (by have := HN.out; omega))
      generalize cpth ss k = E at *
      obtain ⟨Ek, EA, En, Ec, Ex⟩ := E
      dsimp only at d0 d1 hst
      have bX := bl_alloc (bl_refl wr) (.cells #[.int .i64 Ek, .slice EA En Ec] 89)
      have oX := Own.new wr 89 #[.int .i64 Ek, .slice EA En Ec]
      have oS := Own.new (wr.alloc (.cells #[.int .i64 Ek, .slice EA En Ec] 89)) 83 #[.int .i64 Ek, .slice EA En Ec]
      rw [show (wr.alloc (.cells #[.int .i64 Ek, .slice EA En Ec] 89)).heap.size = wr.heap.size + 1 by simp] at oS
      have bY := bl_alloc bX (.cells #[.int .i64 Ek, .slice EA En Ec] 83)
      have HRow := Lib.hid (own_belowG hrow bY)
      have hbY := bl_trans hb bY
      have hbs := hb.size
      have x0 := oX.cell (i := 0) (v := .int .i64 Ek) rfl
      have x1 := oX.cell (i := 1) (v := .slice EA En Ec) rfl
      clear hrow hb bX bY oX
      go_wp2_with (at_builtin; refine wpList_append_grow _ rfl _ _ rfl sl_cps w.heap.size _ k (cellsP (ss.take k)) rfl HRow.out (wr.heap.size + 1 + 1) (some ⟨wr.heap.size + 1, 0, none⟩) 1 1 [.int .i64 Ek, .slice EA En Ec] rfl rfl (Shows.of_owned (xs := [.int .i64 Ek, .slice EA En Ec]) oS (Nat.lt_succ_self _)) (oneP _ _ _ _) (by unfold maxLen; omega) (by omega) (by simp; omega) ?_; intro v6 w6 hrow6 hg6)
      have hb6 := hbY.grown hg6 hbY.size (fun j hj => (row_typed HRow.out hj).2)
      go_roundw
      case rel => exact ⟨k + 1, by omega, by go_num, by rw [hst.out]; exact hrow6, hb6⟩
      case measure => simp [intOf]; omega
    · obtain rfl : n = k := by omega
      have HL := Lib.hid (show ss.take n = ss by rw [List.take_of_length_le (by rw [← HN.out]; exact Nat.le_refl _)])
      rw [HL.out] at hrow
      obtain ⟨A0, c0, rfl⟩ := own_form hrow
      have HF := Lib.hid (caps_of_row hrow HN.out (fun x hx => ((HE.out.2.1 x hx).below hb).more hb.size))
      clear hrow
      go_wp2
      go_ret
      exact ⟨_, _, rfl, HF.out, hb⟩

set_option maxRecDepth 100000 in
set_option maxHeartbeats 3200000 in
theorem back16_any (A : Option Addr) (n c : Nat) (ss : List Cp) (w : World) (h : Caps w w.heap.size A n ss) (hn : n ≤ 100000) :
    Calls Tryd.prog 13 #[.slice A n c] w fun e w' => ∃ A' c', e = .returned (.slice A' n c') ∧ Caps w' w'.heap.size A' n ss ∧ Below w.heap.size w w' := by
  have HN := Lib.hid h.1
  have HE := Lib.hid h
  clear h
  go_enter Tryd.func13, Tryd.ntmps13
  go_wp2_with fail
  go_loopw [3, 5, 8] (fun ov _ i wr => ∃ k : Nat, k ≤ n ∧ i = .int .i64 k ∧ wr.ownsRow w.heap.size 89 2 ov k (cellsP (ss.take k)) ∧ Below w.heap.size w wr) (fun _ _ i _ => n - (intOf i).toNat)
  case atStart => exact ⟨0, Nat.zero_le _, rfl, by simpa [cellsP] using World.ownsRow_nil _ _ _ _, bl_refl _⟩
  case round =>
    obtain ⟨k, hk, rfl, hrow, hb⟩ := hrel
    by_cases hlt : k < n
    · obtain ⟨b, o, rfl, hbB, d0, d1⟩ := ((HE.out.below hb)).at_ hlt
      have hst := Lib.hid (cellsP_take (ss := ss) (k := k) (by have := HN.out; omega))
      generalize cpth ss k = E at *
      obtain ⟨Ek, EA, En, Ec, Ex⟩ := E
      dsimp only at d0 d1 hst
      have bX := bl_alloc (bl_refl wr) (.cells #[.int .i64 Ek, .slice EA En Ec] 83)
      have oX := Own.new wr 83 #[.int .i64 Ek, .slice EA En Ec]
      have oS := Own.new (wr.alloc (.cells #[.int .i64 Ek, .slice EA En Ec] 83)) 89 #[.int .i64 Ek, .slice EA En Ec]
      rw [show (wr.alloc (.cells #[.int .i64 Ek, .slice EA En Ec] 83)).heap.size = wr.heap.size + 1 by simp] at oS
      have bY := bl_alloc bX (.cells #[.int .i64 Ek, .slice EA En Ec] 89)
      have HRow := Lib.hid (own_belowG hrow bY)
      have hbY := bl_trans hb bY
      have hbs := hb.size
      have x0 := oX.cell (i := 0) (v := .int .i64 Ek) rfl
      have x1 := oX.cell (i := 1) (v := .slice EA En Ec) rfl
      clear hrow hb bX bY oX
      go_wp2_with (at_builtin; refine wpList_append_grow _ rfl _ _ rfl sl_rcps w.heap.size _ k (cellsP (ss.take k)) rfl HRow.out (wr.heap.size + 1 + 1) (some ⟨wr.heap.size + 1, 0, none⟩) 1 1 [.int .i64 Ek, .slice EA En Ec] rfl rfl (Shows.of_owned (xs := [.int .i64 Ek, .slice EA En Ec]) oS (Nat.lt_succ_self _)) (oneP _ _ _ _) (by unfold maxLen; omega) (by omega) (by simp; omega) ?_; intro v6 w6 hrow6 hg6)
      have hb6 := hbY.grown hg6 hbY.size (fun j hj => (row_typed HRow.out hj).2)
      go_roundw
      case rel => exact ⟨k + 1, by omega, by go_num, by rw [hst.out]; exact hrow6, hb6⟩
      case measure => simp [intOf]; omega
    · obtain rfl : n = k := by omega
      have HL := Lib.hid (show ss.take n = ss by rw [List.take_of_length_le (by rw [← HN.out]; exact Nat.le_refl _)])
      rw [HL.out] at hrow
      obtain ⟨A0, c0, rfl⟩ := own_form hrow
      have HF := Lib.hid (caps_of_row hrow HN.out (fun x hx => ((HE.out.2.1 x hx).below hb).more hb.size))
      clear hrow
      go_wp2
      go_ret
      exact ⟨_, _, rfl, HF.out, hb⟩

set_option maxRecDepth 100000 in
set_option maxHeartbeats 1600000 in
theorem cvf_any (s : Cp) (w : World) (hn : s.n ≤ 1000000) : Calls Tryd.prog 66 #[.agg #[.int .i64 s.k, .slice s.A s.n s.c]] w fun e w' => e = .returned (.bool (!cpOk s)) ∧ Below w.heap.size w w' := by
  obtain ⟨k, A, n, c, xs⟩ := s
  dsimp only at *
  have hb := bl_alloc (bl_refl w) (.cells #[.int .i64 k, .slice A n c] 83)
  by_cases h1 : k < 0
  · have hR := Lib.hid (show cpOk ⟨k, A, n, c, xs⟩ = false by unfold cpOk; exact decide_eq_false (fun h => by have := h.1; dsimp only at this; omega))
    go_enter Tryd.func66, Tryd.ntmps66
    go_wp2
    go_ret
    exact ⟨by rw [hR.out]; rfl, hb⟩
  · by_cases h2 : 255 < k
    · have hR := Lib.hid (show cpOk ⟨k, A, n, c, xs⟩ = false by unfold cpOk; exact decide_eq_false (fun h => by have := h.2.1; dsimp only at this; omega))
      go_enter Tryd.func66, Tryd.ntmps66
      go_wp2
      go_ret
      exact ⟨by rw [hR.out]; rfl, hb⟩
    · by_cases h3 : n ≤ 255
      · have hR := Lib.hid (show cpOk ⟨k, A, n, c, xs⟩ = true by unfold cpOk; exact decide_eq_true ⟨by dsimp only; omega, by dsimp only; omega, h3⟩)
        have h4 : ¬ (255 : Int) < (n : Int) := by omega
        clear h3
        go_enter Tryd.func66, Tryd.ntmps66
        go_wp2
        go_ret
        exact ⟨by rw [hR.out]; rfl, hb⟩
      · have hR := Lib.hid (show cpOk ⟨k, A, n, c, xs⟩ = false by unfold cpOk; exact decide_eq_false (fun h => by have := h.2.2; dsimp only at this; omega))
        have h4 : (255 : Int) < (n : Int) := by omega
        clear h3
        go_enter Tryd.func66, Tryd.ntmps66
        go_wp2
        go_ret
        exact ⟨by rw [hR.out]; rfl, hb⟩
set_option maxRecDepth 100000 in
set_option maxHeartbeats 3200000 in
theorem cidx_any (A : Option Addr) (n c : Nat) (ss : List Cp) (w : World) (h : Caps w w.heap.size A n ss) (hn : n ≤ 100000) (hs : ∀ s ∈ ss, s.n ≤ 1000000) :
    Calls Tryd.prog 60 #[.slice A n c, .func (.func 66) #[] #[]] w fun e w' => Below w.heap.size w w' ∧ ((e = .returned (.int .i64 (-1)) ∧ ss.all cpOk = true) ∨ ∃ i : Nat, e = .returned (.int .i64 i) ∧ ss.all cpOk = false) := by
  have HN := Lib.hid h.1
  have HX := Lib.hid h
  have HS := Lib.hid hs
  clear h hs
  go_enter Tryd.func60, Tryd.ntmps60
  go_wp2
  go_loopw [8] (fun i wr => ∃ k : Nat, k ≤ n ∧ i = .int .i64 k ∧ Hid ((ss.take k).all cpOk = true) ∧ Below w.heap.size w wr) (fun i _ => n - (intOf i).toNat)
  case atStart => exact ⟨0, Nat.zero_le _, rfl, Lib.hid (by simp), bl_refl _⟩
  case round =>
    obtain ⟨k, hk, rfl, hall, hb⟩ := hrel
    by_cases hlt : k < n
    · obtain ⟨b, o, rfl, hbB, d0, d1⟩ := (HX.out.below hb).at_ hlt
      have hkx := Lib.hid (show k < ss.length by rw [← HN.out]; exact hlt)
      have hYe := Lib.hid (fun h => cpall_step (P := cpOk) hkx.out hall.out h)
      have hNo := Lib.hid (fun h => cpall_no (P := cpOk) hkx.out h)
      have hC := Lib.hid (fun W => cvf_any (cpth ss k) W (HS.out _ (cpth_mem hkx.out)))
      have hbs := hb.size
      generalize cpth ss k = s at *
      cases he : cpOk s with
      | true =>
        rw [he] at hC
        have hR := Lib.hid (hYe.out he)
        clear he hYe hNo
        obtain ⟨sk, sA, sn, sc, sx⟩ := s
        dsimp only at *
        go_wp2_with fail
        go_at_call 66
        refine (hC.out _).mono ?_
        rintro e w2 ⟨rfl, hb2⟩
        have hb3 := bl_trans hb hb2
        go_wp2
        go_roundw
        case rel => exact ⟨k + 1, by omega, by go_num, hR, hb3⟩
        case measure => simp [intOf]; omega
      | false =>
        rw [he] at hC
        have hR := Lib.hid (hNo.out he)
        clear he hYe hNo
        obtain ⟨sk, sA, sn, sc, sx⟩ := s
        dsimp only at *
        go_wp2_with fail
        go_at_call 66
        refine (hC.out _).mono ?_
        rintro e w2 ⟨rfl, hb2⟩
        have hb3 := bl_trans hb hb2
        go_wp2
        go_ret
        exact ⟨hb3, .inr ⟨k, rfl, hR.out⟩⟩
    · obtain rfl : n = k := by omega
      have HE := Lib.hid (cpall_done HN.out hall.out)
      go_wp2
      go_ret
      exact ⟨hb, .inl ⟨rfl, HE.out⟩⟩
set_option maxRecDepth 100000 in
theorem ccont_any (A : Option Addr) (n c : Nat) (ss : List Cp) (w : World) (h : Caps w w.heap.size A n ss) (hn : n ≤ 100000) (hs : ∀ s ∈ ss, s.n ≤ 1000000) :
    Calls Tryd.prog 65 #[.slice A n c, .func (.func 66) #[] #[]] w fun e w' => e = .returned (.bool (!ss.all cpOk)) ∧ Below w.heap.size w w' := by
  go_enter Tryd.func65, Tryd.ntmps65
  go_wp2_with fail
  refine (cidx_any A n c ss w h hn hs).mono ?_
  rintro e w' ⟨hb, ⟨rfl, h⟩ | ⟨i, rfl, h⟩⟩
  · have h2 := Lib.hid h
    clear h
    go_wp2
    go_ret
    exact ⟨by rw [h2.out]; rfl, hb⟩
  · have h2 := Lib.hid h
    clear h
    have hi : (0 : Int) ≤ (i : Int) := by omega
    go_wp2
    go_ret
    exact ⟨by rw [h2.out]; rfl, hb⟩
set_option maxRecDepth 100000 in
theorem cvalid_any (A : Option Addr) (n c : Nat) (ss : List Cp) (w : World) (h : Caps w w.heap.size A n ss) (hn : n ≤ 100000) (hs : ∀ s ∈ ss, s.n ≤ 1000000) :
    Calls Tryd.prog 18 #[.slice A n c] w fun e w' => e = .returned (.bool (ss.all cpOk)) ∧ Below w.heap.size w w' := by
  have HC := Lib.hid (ccont_any A n c ss w h hn hs)
  clear h hs
  go_enter Tryd.func18, Tryd.ntmps18
  go_wp2_with fail
  refine HC.out.mono ?_
  rintro e w' ⟨rfl, hb⟩
  go_wp2
  go_ret
  exact ⟨by simp, hb⟩
set_option maxRecDepth 100000 in
set_option maxHeartbeats 3200000 in
theorem rcvalid_any (A : Option Addr) (n c : Nat) (ss : List Cp) (w : World) (h : Caps w w.heap.size A n ss) (hn : n ≤ 100000) :
    Calls Tryd.prog 107 #[.slice A n c] w fun e w' => e = .returned (.bool (ss.all cpOk)) ∧ w = w' := by
  have HN := Lib.hid h.1
  have HX := Lib.hid h
  clear h
  go_enter Tryd.func107, Tryd.ntmps107
  go_wp2
  go_loopw [3] (fun i wr => ∃ k : Nat, k ≤ n ∧ i = .int .i64 k ∧ Hid ((ss.take k).all cpOk = true) ∧ wr = w) (fun i _ => n - (intOf i).toNat)
  case atStart => exact ⟨0, Nat.zero_le _, rfl, Lib.hid (by simp), rfl⟩
  case round =>
    obtain ⟨k, hk, rfl, hall, rfl⟩ := hrel
    by_cases hlt : k < n
    · obtain ⟨b, o, rfl, hbB, d0, d1⟩ := HX.out.at_ hlt
      have hkx := Lib.hid (show k < ss.length by rw [← HN.out]; exact hlt)
      have hYe := Lib.hid (fun h => cpall_step (P := cpOk) hkx.out hall.out h)
      have hNo := Lib.hid (fun h => cpall_no (P := cpOk) hkx.out h)
      have hok := (HX.out.ok hlt).2
      unfold maxLen at hok
      generalize cpth ss k = s at *
      obtain ⟨sk, sA, sn, sc, sx⟩ := s
      dsimp only at *
      by_cases h1 : sk < 0
      · have hR := Lib.hid (hNo.out (by unfold cpOk; exact decide_eq_false (fun h => by have := h.1; dsimp only at this; omega)))
        clear hYe hNo
        go_wp2
        go_ret
        exact ⟨ret_boolC hR.out.symm, rfl⟩
      · by_cases h2 : 255 < sk
        · have hR := Lib.hid (hNo.out (by unfold cpOk; exact decide_eq_false (fun h => by have := h.2.1; dsimp only at this; omega)))
          clear hYe hNo
          go_wp2
          go_ret
          exact ⟨ret_boolC hR.out.symm, rfl⟩
        · by_cases h3 : sn ≤ 255
          · have hR := Lib.hid (hYe.out (by unfold cpOk; exact decide_eq_true ⟨by dsimp only; omega, by dsimp only; omega, h3⟩))
            have h4 : ¬ (255 : Int) < (sn : Int) := by omega
            clear hYe hNo h3
            go_wp2
            go_roundw
            case rel => exact ⟨k + 1, by omega, by go_num, hR, trivial⟩
            case measure => simp [intOf]; omega
          · have hR := Lib.hid (hNo.out (by unfold cpOk; exact decide_eq_false (fun h => by have := h.2.2; dsimp only at this; omega)))
            have h4 : (255 : Int) < (sn : Int) := by omega
            clear hYe hNo h3
            go_wp2
            go_ret
            exact ⟨ret_boolC hR.out.symm, rfl⟩
    · obtain rfl : n = k := by omega
      have HE := Lib.hid (cpall_done HN.out hall.out)
      go_wp2
      go_ret
      exact ⟨ret_boolC HE.out.symm, rfl⟩
end Go.Proofs.YtniheakafkakhaaDoor

/- Segments: Length, Valid, Same on both sides (not segment.Same) -/
import Derived.Test.YtecbbjdcnlocdaaDoorFew
import Derived.Test.YtecbbjdcnlocdaaDoorEq
namespace Go.Proofs.YtecbbjdcnlocdaaDoor
open Go.RowKit

theorem U32s.at_ {w : World} {B n : Nat} {A : Option Addr} {ls : List Int} (h : U32s w B A n ls) {k : Nat} (hk : k < n) : ∃ b o, A = some ⟨b, o, none⟩ ∧ b < B ∧ w.cell? ⟨b, o + k, none⟩ = some (.int .u32 (nth ls k)) :=
  h.2.at_ (k := k) (by rw [List.getElem?_map, nth_some (by rw [← h.1]; exact hk)]; rfl)
theorem sgth_mem {ss : List Sg} {k : Nat} (h : k < ss.length) : sgth ss k ∈ ss := List.mem_of_getElem? (sgth_some h)
theorem take_sgth {ss : List Sg} {k : Nat} (h : k < ss.length) : ss.take (k + 1) = ss.take k ++ [sgth ss k] := by rw [List.take_add_one, sgth_some h]; rfl
def lenS (ss : List Sg) (k : Nat) : Nat := ((ss.take k).map fun s => if s.k = 1 then 1 else if s.k = 2 then s.n else 0).sum
theorem lenS_succ {ss : List Sg} {k : Nat} (h : k < ss.length) : lenS ss (k + 1) = lenS ss k + if (sgth ss k).k = 1 then 1 else if (sgth ss k).k = 2 then (sgth ss k).n else 0 := by
  unfold lenS
  rw [take_sgth h, List.map_append, List.sum_append]
  simp
theorem lenS_le {ss : List Sg} (k : Nat) (h : ∀ s ∈ ss, s.n ≤ 1000) : lenS ss k ≤ 1000 * k := by
  induction k with
  | zero => simp [lenS]
  | succ k ih =>
    by_cases hk : k < ss.length
    · have := h _ (sgth_mem hk)
      rw [lenS_succ hk]
      split
      · omega
      · split <;> omega
    · have e : lenS ss (k + 1) = lenS ss k := by unfold lenS; rw [List.take_of_length_le (by omega), List.take_of_length_le (by omega)]
      omega
set_option maxRecDepth 100000 in
set_option maxHeartbeats 1600000 in
theorem slength_any (A : Option Addr) (n c : Nat) (ss : List Sg) (w : World) (hx : Segs w w.heap.size A n ss) (hn : n ≤ 1000) (hs : ∀ s ∈ ss, s.n ≤ 1000) :
    Calls Tryd.prog 39 #[.slice A n c] w fun e w' => e = .returned (.int .i64 (lenS ss n : Nat)) ∧ Below w.heap.size w w' := by
  have HN := Lib.hid hx.1
  have HX := Lib.hid hx
  have hle := Lib.hid (fun k => lenS_le (ss := ss) k hs)
  have HS := Lib.hid hs
  clear hx hs
  go_enter Tryd.func39, Tryd.ntmps39
  go_wp2_with fail
  go_loopw [3, 8] (fun s i wr => ∃ k : Nat, k ≤ n ∧ i = .int .i64 k ∧ s = .int .i64 (lenS ss k : Nat) ∧ Below w.heap.size w wr) (fun _ i _ => n - (intOf i).toNat)
  case atStart => exact ⟨0, Nat.zero_le _, rfl, rfl, bl_refl w⟩
  case round =>
    obtain ⟨k, hk, rfl, rfl, hb⟩ := hrel
    have hlk := hle.out k
    by_cases hlt : k < n
    · obtain ⟨b, o, rfl, hbB, hc0, hc1⟩ := (HX.out.below hb).at_ hlt
      have hkl := Lib.hid (show k < ss.length by have := HN.out; omega)
      have hst := Lib.hid (lenS_succ hkl.out)
      have hn1 := HS.out _ (sgth_mem hkl.out)
      generalize sgth ss k = s at *
      generalize lenS ss k = q at *
      obtain ⟨sk, sA, sn, sc, sx⟩ := s
      dsimp only at hst hn1 hc0 hc1
      have hbs := hb.size
      by_cases h1 : sk = 1
      · subst h1
        go_wp2
        go_roundw
        case rel => exact ⟨k + 1, by omega, by go_num, by rw [hst.out, if_pos rfl]; go_num, bl_alloc hb _⟩
        case measure => simp [intOf]; omega
      · by_cases h2 : sk = 2
        · subst h2
          go_wp2
          go_roundw
          case rel => exact ⟨k + 1, by omega, by go_num, by rw [hst.out, if_neg (by omega), if_pos rfl]; go_num, bl_alloc hb _⟩
          case measure => simp [intOf]; omega
        · have e1 : (sk == 1) = false := by simpa using h1
          have e2 : (sk == 2) = false := by simpa using h2
          have hst2 := Lib.hid (show lenS ss (k + 1) = q by rw [hst.out, if_neg h1, if_neg h2]; rfl)
          clear h1 h2 hst
          go_wp2
          go_roundw
          case rel => exact ⟨k + 1, by omega, by go_num, by rw [hst2.out], bl_alloc hb _⟩
          case measure => simp [intOf]; omega
    · obtain rfl : n = k := by omega
      go_wp2
      go_ret
      exact ⟨rfl, hb⟩
/-- Whether all numbers have two bytes. -/
def narB (xs : List Int) : Bool := xs.all fun x => decide (x ≤ 65535)
/-- Whether a segment is valid. -/
def sgOk (wd : Int) (s : Sg) : Bool := decide ((s.k = 1 ∨ s.k = 2) ∧ 1 ≤ s.n ∧ s.n ≤ 255) && (decide (wd ≠ 2) || narB s.xs)
theorem sgall_no {ss : List Sg} {P : Sg → Bool} {k : Nat} (h : k < ss.length) (hp : P (sgth ss k) = false) : ss.all P = false := by
  rw [List.all_eq_false]
  exact ⟨_, sgth_mem h, by simp [hp]⟩
theorem sgall_step {ss : List Sg} {P : Sg → Bool} {k : Nat} (h : k < ss.length) (h0 : (ss.take k).all P = true) (hp : P (sgth ss k) = true) : (ss.take (k + 1)).all P = true := by
  rw [take_sgth h, List.all_append, h0]; simp [hp]
set_option maxRecDepth 100000 in
theorem wide_any (x : Int) (w : World) : Calls Tryd.prog 47 #[.int .u32 x] w fun e w' => e = .returned (.bool (decide (65535 < x))) ∧ w = w' := by
  go_enter Tryd.func47, Tryd.ntmps47
  go_wp2
  go_ret
  exact ⟨rfl, rfl⟩
set_option maxRecDepth 100000 in
theorem u32idx_any (A : Option Addr) (n c : Nat) (xs : List Int) (w : World) (B : Nat) (hx : U32s w B A n xs) (hn : n ≤ 1000) :
    Calls Tryd.prog 82 #[.slice A n c, .func (.func 47) #[] #[]] w fun e w' => w = w' ∧ ((e = .returned (.int .i64 (-1)) ∧ narB xs = true) ∨ ∃ i : Nat, e = .returned (.int .i64 i) ∧ narB xs = false) := by
  have HN := Lib.hid hx.1
  go_enter Tryd.func82, Tryd.ntmps82
  go_wp2
  go_loop [8] (fun i => ∃ k : Nat, k ≤ n ∧ i = .int .i64 k ∧ Hid ((xs.take k).all (fun x => decide (x ≤ 65535)) = true)) (fun i => n - (intOf i).toNat)
  case atStart => exact ⟨0, Nat.zero_le _, rfl, Lib.hid (by simp)⟩
  case round =>
    obtain ⟨k, hk, rfl, HA⟩ := hrel
    by_cases hlt : k < n
    · obtain ⟨b, o, rfl, hb, hc⟩ := hx.at_ hlt
      have hkx := Lib.hid (show k < xs.length by rw [← HN.out]; exact hlt)
      by_cases he : nth xs k ≤ 65535
      · have HE := Lib.hid (show (xs.take (k + 1)).all (fun x => decide (x ≤ 65535)) = true by rw [take_nth hkx.out, List.all_append, HA.out]; simp [he])
        have h1 : ¬ 65535 < nth xs k := by omega
        clear he
        go_wp2_with (go_at_call 47; refine (wide_any _ _).mono ?_; rintro e w' ⟨rfl, rfl⟩)
        go_round
        case rel => exact ⟨k + 1, by omega, by go_num, HE⟩
        case measure => simp [intOf]; omega
      · have HE := Lib.hid (show narB xs = false by unfold narB; rw [List.all_eq_false]; exact ⟨_, nth_mem hkx.out, by simp; omega⟩)
        have h1 : 65535 < nth xs k := by omega
        clear he
        go_wp2_with (go_at_call 47; refine (wide_any _ _).mono ?_; rintro e w' ⟨rfl, rfl⟩)
        go_ret
        exact ⟨rfl, .inr ⟨k, rfl, HE.out⟩⟩
    · have HE := Lib.hid (show narB xs = true by unfold narB; have := HA.out; rwa [List.take_of_length_le (by rw [← HN.out]; omega)] at this)
      go_wp2
      go_ret
      exact ⟨rfl, .inl ⟨rfl, HE.out⟩⟩
set_option maxRecDepth 100000 in
theorem contf_any (A : Option Addr) (n c : Nat) (xs : List Int) (w : World) (B : Nat) (hx : U32s w B A n xs) (hn : n ≤ 1000) :
    Calls Tryd.prog 46 #[.slice A n c, .func (.func 47) #[] #[]] w fun e w' => e = .returned (.bool (!narB xs)) ∧ w = w' := by
  go_enter Tryd.func46, Tryd.ntmps46
  go_wp2_with fail
  refine (u32idx_any A n c xs w B hx hn).mono ?_
  rintro e w' ⟨rfl, ⟨rfl, h⟩ | ⟨i, rfl, h⟩⟩
  · have h2 := Lib.hid h
    clear h
    go_wp2
    go_ret
    exact ⟨by rw [h2.out]; rfl, rfl⟩
  · have h2 := Lib.hid h
    clear h
    have hi : (0 : Int) ≤ (i : Int) := by omega
    go_wp2
    go_ret
    exact ⟨by rw [h2.out]; rfl, rfl⟩
set_option maxRecDepth 100000 in
theorem hasw_any (wd : Int) (w : World) : Calls Tryd.prog 45 #[.int .i64 wd] w fun e w' => e = .returned (.bool (decide (wd = 2 ∨ wd = 4))) ∧ w = w' := by
  by_cases h2 : wd = 2
  · subst h2
    go_enter Tryd.func45, Tryd.ntmps45
    go_wp2
    go_ret
    exact ⟨rfl, rfl⟩
  · by_cases h4 : wd = 4
    · subst h4
      go_enter Tryd.func45, Tryd.ntmps45
      go_wp2
      go_ret
      exact ⟨rfl, rfl⟩
    · have e2 : (wd == 2) = false := by simpa using h2
      have e4 : (wd == 4) = false := by simpa using h4
      have hd := Lib.hid (show decide (wd = 2 ∨ wd = 4) = false by simp [h2, h4])
      clear h2 h4
      go_enter Tryd.func45, Tryd.ntmps45
      go_wp2
      go_ret
      exact ⟨by rw [hd.out]; rfl, rfl⟩
set_option maxRecDepth 100000 in
set_option maxHeartbeats 3200000 in
theorem svalid_yes (wd : Int) (hw : wd = 2 ∨ wd = 4) (A : Option Addr) (n c : Nat) (ss : List Sg) (w : World) (hx : Segs w w.heap.size A n ss) (hn : n ≤ 1000000) :
    Calls Tryd.prog 13 #[.int .i64 wd, .slice A n c] w fun e w' => e = .returned (.bool (ss.all (sgOk wd))) ∧ Below w.heap.size w w' := by
  have HN := Lib.hid hx.1
  have HX := Lib.hid hx
  have hwd := decide_eq_true hw
  have HWd := Lib.hid (hasw_any wd w)
  rw [hwd] at HWd
  clear hx hwd
  go_enter Tryd.func13, Tryd.ntmps13
  go_wp2_with fail
  refine HWd.out.mono ?_
  rintro e w' ⟨rfl, rfl⟩
  go_wp2_with fail
  go_loopw [12] (fun i wr => (∃ k : Nat, k ≤ n ∧ i = .int .i64 k ∧ Hid ((ss.take k).all (sgOk wd) = true)) ∧ Below w.heap.size w wr) (fun i _ => n - (intOf i).toNat)
  case atStart => exact ⟨⟨0, Nat.zero_le _, rfl, Lib.hid (by simp)⟩, bl_refl w⟩
  case round =>
    obtain ⟨⟨k, hk, rfl, hall⟩, hb⟩ := hrel
    by_cases hlt : k < n
    · obtain ⟨b, o, rfl, hbB, hc0, hc1⟩ := (HX.out.below hb).at_ hlt
      have hkl := Lib.hid (show k < ss.length by have := HN.out; omega)
      have hNo := Lib.hid (fun h => sgall_no (P := sgOk wd) hkl.out h)
      have hYe := Lib.hid (fun h => sgall_step (P := sgOk wd) hkl.out hall.out h)
      have hU := (HX.out.2.1 _ (sgth_mem hkl.out)).2.2.2.2
      have hbs := hb.size
      generalize sgth ss k = s at *
      obtain ⟨sk, sA, sn, sc, sx⟩ := s
      dsimp only at hc0 hc1 hU
      unfold sgOk at hNo hYe
      dsimp only at hNo hYe
      by_cases hp : (sk = 1 ∨ sk = 2) ∧ 1 ≤ sn ∧ sn ≤ 255
      · have hb1 := bl_alloc hb (.cells #[.int .i64 sk, .slice sA sn sc] 61)
        have oB := Own.new wr 61 #[.int .i64 sk, .slice sA sn sc]
        have hU1 := Lib.hid ((hU.below hb1).more hb1.size)
        have hCF := Lib.hid (fun W B h => contf_any sA sn sc sx W B h (by omega))
        have hdp := decide_eq_true hp
        rw [hdp] at hNo hYe
        have hn1 : ¬ (sn : Int) < 1 := by omega
        have hn2 : ¬ (255 : Int) < (sn : Int) := by omega
        have hk12 := hp.1
        clear hp hU hdp
        rcases hw with rfl | rfl
        · rcases hk12 with rfl | rfl
          all_goals
            go_wp2_with fail
            refine (hCF.out _ _ hU1.out).mono ?_
            cases hsx : narB sx
            · rw [hsx] at hNo
              have hR := Lib.hid (hNo.out rfl)
              clear hsx
              rintro e w2 ⟨rfl, rfl⟩
              go_wp2
              go_ret
              exact ⟨ret_boolA hR.out.symm, hb1⟩
            · rw [hsx] at hYe
              have hR := Lib.hid (hYe.out rfl)
              clear hsx
              rintro e w2 ⟨rfl, rfl⟩
              go_wp2
              go_roundw
              case rel => exact ⟨⟨k + 1, by omega, by go_num, hR⟩, hb1⟩
              case measure => simp [intOf]; omega
        · have hR := Lib.hid (hYe.out rfl)
          rcases hk12 with rfl | rfl
          all_goals
            go_wp2
            go_roundw
            case rel => exact ⟨⟨k + 1, by omega, by go_num, hR⟩, hb1⟩
            case measure => simp [intOf]; omega
      · have hR := Lib.hid (hNo.out (by rw [decide_eq_false hp]; rfl))
        have hb1 := bl_alloc hb (.cells #[.int .i64 sk, .slice sA sn sc] 61)
        clear hNo hYe hU
        by_cases hk12 : sk = 1 ∨ sk = 2
        · by_cases hs1 : sn < 1
          · obtain rfl : sn = 0 := by omega
            clear hp hs1
            rcases hk12 with rfl | rfl
            all_goals
              go_wp2
              go_ret
              exact ⟨ret_boolA hR.out.symm, hb1⟩
          · have hs2 : (255 : Int) < (sn : Int) := by omega
            have hs3 : ¬ (sn : Int) < 1 := by omega
            clear hp hs1
            rcases hk12 with rfl | rfl
            all_goals
              go_wp2
              go_ret
              exact ⟨ret_boolA hR.out.symm, hb1⟩
        · have h1 : ¬ sk = 1 := fun h => hk12 (.inl h)
          have h2 : ¬ sk = 2 := fun h => hk12 (.inr h)
          have e1 : (sk == 1) = false := by simpa using h1
          have e2 : (sk == 2) = false := by simpa using h2
          clear hp hk12
          go_wp2
          go_ret
          exact ⟨ret_boolA hR.out.symm, hb1⟩
    · have HE := Lib.hid (show ss.all (sgOk wd) = true by have := hall.out; rwa [List.take_of_length_le (by rw [← HN.out]; omega)] at this)
      go_wp2
      go_ret
      exact ⟨ret_boolA HE.out.symm, hb⟩
set_option maxRecDepth 100000 in
theorem svalid_no (wd : Int) (hw : ¬ (wd = 2 ∨ wd = 4)) (A : Option Addr) (n c : Nat) (w : World) :
    Calls Tryd.prog 13 #[.int .i64 wd, .slice A n c] w fun e w' => e = .returned (.bool false) ∧ Below w.heap.size w w' := by
  have HWd := Lib.hid (hasw_any wd w)
  rw [decide_eq_false hw] at HWd
  clear hw
  go_enter Tryd.func13, Tryd.ntmps13
  go_wp2_with fail
  refine HWd.out.mono ?_
  rintro e w' ⟨rfl, rfl⟩
  go_wp2
  go_ret
  exact ⟨rfl, bl_refl _⟩
set_option maxRecDepth 100000 in
theorem svalid_any (wd : Int) (A : Option Addr) (n c : Nat) (ss : List Sg) (w : World) (hx : Segs w w.heap.size A n ss) (hn : n ≤ 1000000) :
    Calls Tryd.prog 13 #[.int .i64 wd, .slice A n c] w fun e w' => e = .returned (.bool (decide (wd = 2 ∨ wd = 4) && ss.all (sgOk wd))) ∧ Below w.heap.size w w' := by
  by_cases hw : wd = 2 ∨ wd = 4
  · rw [decide_eq_true hw, Bool.true_and]
    exact svalid_yes wd hw A n c ss w hx hn
  · rw [decide_eq_false hw, Bool.false_and]
    exact svalid_no wd hw A n c w
end Go.Proofs.YtecbbjdcnlocdaaDoor

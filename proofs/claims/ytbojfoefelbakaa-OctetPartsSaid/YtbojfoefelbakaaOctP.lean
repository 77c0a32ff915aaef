/- OctetParts: the walk -/
import Derived.Test.YtbojfoefelbakaaTot
import Derived.Test.YtbojfoefelbakaaAlive
namespace Go.Proofs.Ytbojfoefelbakaa
open Go.RowKit

theorem parts_early (A : Option Addr) (n c : Nat) (A2 : Option Addr) (n2 c2 : Nat) (k : Int) (w : World) (hm : n ≤ maxLen) (hm2 : n2 ≤ maxLen) (h : 500 < n ∨ 100 < n2) :
    Calls Try.prog 4 #[.slice A n c, .int .i64 k, .slice A2 n2 c2] w fun e w' => e = .returned (.bool true) ∧ Below w.heap.size w w' := by
  unfold maxLen at hm hm2
  by_cases h1 : (500 : Int) < (n : Int)
  · go_enter Try.func4, Try.ntmps4
    go_wp2_with fail
    refine (alive_any _).mono ?_
    rintro e w2 ⟨rfl, hb2⟩
    go_wp2
    go_ret
    exact ⟨rfl, hb2⟩
  · have h2 : (100 : Int) < (n2 : Int) := by omega
    go_enter Try.func4, Try.ntmps4
    go_wp2_with fail
    refine (alive_any _).mono ?_
    rintro e w2 ⟨rfl, hb2⟩
    go_wp2
    go_ret
    exact ⟨rfl, hb2⟩

set_option maxHeartbeats 400000 in
theorem parts_no (A : Option Addr) (n c : Nat) (A2 : Option Addr) (n2 c2 : Nat) (xs : List Int) (k : Int) (w : World) (hx : Bytes w w.heap.size A n xs) (h1 : n ≤ 500) (h2 : n2 ≤ 100) (hk : k < 0 ∨ (n : Int) < k) :
    Calls Try.prog 4 #[.slice A n c, .int .i64 k, .slice A2 n2 c2] w fun e w' => e = .returned (.bool true) ∧ Below w.heap.size w w' := by
  have HN := Lib.hid hx.1
  have hptr : ∀ W, (binOp .eql 25 (.pointer none) (.pointer none)).run Try.prog W = .ok (.bool true) W := fun _ => by kernel_rfl
  have hor : (decide (k < 0) || decide ((n : Int) < k)) = true := by simpa using hk
  have hd : ¬ (500 : Int) < (n : Int) := by omega
  have hd2 : ¬ (100 : Int) < (n2 : Int) := by omega
  have HK := Lib.hid hk
  clear hk
  go_enter Try.func4, Try.ntmps4
  go_wp2_with fail
  refine (new_any _ _ _ _ _ hx (by omega)).mono ?_
  rintro e w1 ⟨g, rfl, hg, hr, hb1⟩
  go_wp2_with fail
  refine (part_no _ _ _ _ _ hr (by have := HN.out; omega) (by have := HN.out; have := HK.out; omega)).mono ?_
  rintro e w' ⟨rfl, rfl⟩
  go_wp2_with fail
  refine (alive_any _).mono ?_
  rintro e w2 ⟨rfl, hb2⟩
  have hr2 := hr.below hb2
  rcases HK.out with hk | hk
  · go_wp2_with fail
    refine (at_any _ _ _ _ hr2).mono ?_
    rintro e w' ⟨rfl, rfl⟩
    go_wp2_with fail
    refine (left_any _ _ _ _ hr2).mono ?_
    rintro e w' ⟨rfl, rfl⟩
    rw [← HN.out]
    go_wp2
    go_ret
    exact ⟨rfl, bl_trans hb1 hb2⟩
  · have hk0 : ¬ k < 0 := by omega
    go_wp2_with fail
    refine (at_any _ _ _ _ hr2).mono ?_
    rintro e w' ⟨rfl, rfl⟩
    go_wp2_with fail
    refine (left_any _ _ _ _ hr2).mono ?_
    rintro e w' ⟨rfl, rfl⟩
    rw [← HN.out]
    go_wp2
    go_ret
    exact ⟨rfl, bl_trans hb1 hb2⟩

set_option maxHeartbeats 800000 in
theorem parts_yes (A : Option Addr) (n c : Nat) (A2 : Option Addr) (n2 c2 : Nat) (xs : List Int) (l : List (Int × Int)) (k : Int) (w : World) (hx : Bytes w w.heap.size A n xs) (hnc : n ≤ c) (hl : Pairs w w.heap.size A2 n2 l) (h1 : n ≤ 500) (h2 : n2 ≤ 100) (hk0 : 0 ≤ k) (hk : k ≤ (n : Int)) :
    Calls Try.prog 4 #[.slice A n c, .int .i64 k, .slice A2 n2 c2] w fun e w' => e = .returned (.bool true) ∧ Below w.heap.size w w' := by
  have HN := Lib.hid hx.1
  have hd : ¬ (500 : Int) < (n : Int) := by omega
  have hd2 : ¬ (100 : Int) < (n2 : Int) := by omega
  go_enter Try.func4, Try.ntmps4
  go_wp2_with fail
  refine (new_any _ _ _ _ _ hx (by omega)).mono ?_
  rintro e w1 ⟨g, rfl, hg, hr, hb1⟩
  go_wp2_with fail
  refine (part_yes _ _ _ _ _ hr (by have := HN.out; omega) (by omega) hk0 (by have := HN.out; omega)).mono ?_
  rintro e w2 ⟨j, rfl, hj, hrj, hrg, hg2⟩
  have hb2 : Below w.heap.size w w2 := bl_only hb1 hg2 hg
  have hgj : g < j := by have := hr.lt; omega
  go_wp2_with fail
  go_loopw [62] (fun i wr => ∃ (m : Nat) (ys : List Int) (q : Nat), m ≤ n2 ∧ i = .int .i64 m ∧ Rdr wr j ys q ∧ Rdr wr g (xs.drop k.toNat) (0 + k.toNat) ∧ ys.length + q ≤ 500 ∧ Below w.heap.size w wr) (fun i _ => n2 - (intOf i).toNat)
  case atStart => exact ⟨0, _, _, Nat.zero_le _, rfl, hrj, hrg, by simp; omega, hb2⟩
  case round =>
    obtain ⟨m, ys, q, hm, rfl, hry, hrx, hq, hb⟩ := hrel
    clear hrj hrg hg2 hb2
    by_cases hlt : m < n2
    · obtain ⟨b, o, rfl, hbb, hc0, hc1⟩ := (hl.below hb).at_ hlt
      have hbs := hb.size
      have hb' := bl_alloc hb (.cells #[.int .i64 (pairX l m), .int .i64 (pairY l m)] 30)
      have hry' := hry.below (bl_alloc (bl_refl wr) (.cells #[.int .i64 (pairX l m), .int .i64 (pairY l m)] 30))
      have hrx' := hrx.below (bl_alloc (bl_refl wr) (.cells #[.int .i64 (pairX l m), .int .i64 (pairY l m)] 30))
      have ho := Own.new wr 30 #[.int .i64 (pairX l m), .int .i64 (pairY l m)]
      have hjl := hry.lt
      go_wp2_with fail
      refine (take_total j ys q (pairY l m) _ hry' (by omega) (by omega)).mono ?_
      rintro e w3 ⟨v3, ys3, q3, rfl, hr3, hq3, hg3⟩
      have hx3 := hrx'.only hry' hg3 (by omega)
      have hb3 := bl_only hb' hg3 (by omega)
      have ho3 := ho.grown hg3 (by intro e; have := Option.some.inj e; omega)
      have hc3 := ho3.cell (i := 1) (v := .int .i64 (pairY l m)) rfl
      have hq3' : ys3.length + q3 ≤ 500 := by omega
      clear hq3
      go_wp2_with fail
      refine (number_total j ys3 q3 (pairY l m) _ hr3 (by omega) (by omega)).mono ?_
      rintro e w4 ⟨v4, ys4, q4, rfl, hr4, hq4, hg4⟩
      have hx4 := hx3.only hr3 hg4 (by omega)
      have hb4 := bl_only hb3 hg4 (by omega)
      have hq4' : ys4.length + q4 ≤ 500 := by omega
      clear hq4
      go_wp2
      go_roundw
      case rel => exact ⟨m + 1, ys4, q4, by omega, by go_num, hr4, hx4, hq4', hb4⟩
      case measure => simp [intOf]; omega
    · have hlen : (xs.drop k.toNat).length = n - k.toNat := by rw [List.length_drop, ← HN.out]
      have HL := Lib.hid hlen
      clear hlen
      have hgl := hrx.lt
      go_wp2_with fail
      refine (take_yes g _ _ ((n : Int) - k) _ hrx (by rw [HL.out]; omega) (by omega) (by omega) (by rw [HL.out]; omega)).mono ?_
      rintro e w5 ⟨h, rfl, hh, ho5, hr5, hg5⟩
      have hb5 := bl_only hb hg5 (by omega)
      have e1 : (xs.drop k.toNat).take ((n : Int) - k).toNat = xs.drop k.toNat := List.take_of_length_le (by rw [HL.out]; omega)
      rw [e1] at ho5
      have HX := (hx.below hb5).cut (k := k.toNat) (cap := c) (by omega) hnc
      have hrange : ∀ x ∈ xs.drop k.toNat, 0 ≤ x ∧ x ≤ 255 := fun x hxx => hx.2.1 x (List.mem_of_mem_drop hxx)
      go_wp2_with fail
      refine (alive_any _).mono ?_
      rintro e w6 ⟨rfl, hb6⟩
      have ho6 := ho5.below hb6 ho5.lt
      have hr6 := hr5.below hb6
      have HX6 := HX.below (hb6.mono hb5.size)
      have B1 : Bytes w6 w6.heap.size (some ⟨h, 0, none⟩) ((n : Int) - k).toNat (xs.drop k.toNat) := by
        have := Bytes.of_owned ho6 hrange ho6.lt
        rwa [HL.out, show n - k.toNat = ((n : Int) - k).toNat by omega] at this
      have hat : (0 + k.toNat + ((n : Int) - k).toNat : Nat) = n := by omega
      rw [hat] at hr6
      clear hr5 hrx hry e1 hat
      go_wp2_with fail
      · have hck : c = k.toNat := by assumption
        rw [if_pos hck] at HX6
        have HC := Lib.hid hck
        clear hck HX
        refine (bytesEq_any _ _ _ _ _ _ _ _ _ _ _ B1 HX6 (by omega) (by omega)).mono ?_
        rintro e w' ⟨rfl, m7, rfl⟩
        go_wp2_with fail
        refine (at_any _ _ _ _ (hr6.drewN m7)).mono ?_
        rintro e w' ⟨rfl, rfl⟩
        go_wp2
        go_ret
        exact ⟨by simp, bl_drewN (bl_trans hb5 hb6) m7⟩
      · have hck : ¬ c = k.toNat := by assumption
        rw [if_neg hck] at HX6
        refine (bytesEq_any _ _ _ _ _ _ _ _ _ _ _ B1 HX6 (by omega) (by omega)).mono ?_
        rintro e w' ⟨rfl, m7, rfl⟩
        go_wp2_with fail
        refine (at_any _ _ _ _ (hr6.drewN m7)).mono ?_
        rintro e w' ⟨rfl, rfl⟩
        go_wp2
        go_ret
        exact ⟨by simp, bl_drewN (bl_trans hb5 hb6) m7⟩
theorem parts_all (A : Option Addr) (n c : Nat) (A2 : Option Addr) (n2 c2 : Nat) (xs : List Int) (l : List (Int × Int)) (k : Int) (w : World) (hx : Bytes w w.heap.size A n xs) (hnc : n ≤ c) (hm : n ≤ maxLen) (hl : Pairs w w.heap.size A2 n2 l) (hm2 : n2 ≤ maxLen) :
    Calls Try.prog 4 #[.slice A n c, .int .i64 k, .slice A2 n2 c2] w fun e w' => e = .returned (.bool true) ∧ Below w.heap.size w w' := by
  by_cases h : 500 < n ∨ 100 < n2
  · exact parts_early A n c A2 n2 c2 k w hm hm2 h
  · by_cases hk : k < 0 ∨ (n : Int) < k
    · exact parts_no A n c A2 n2 c2 xs k w hx (by omega) (by omega) hk
    · exact parts_yes A n c A2 n2 c2 xs l k w hx hnc hl (by omega) (by omega) (by omega) (by omega)
end Go.Proofs.Ytbojfoefelbakaa

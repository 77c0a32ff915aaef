/- OptionFamilies: the walk -/
import Derived.Test.YtaopinecidddkaaOpC
import Derived.Test.YtaopinecidddkaaRfA
import Derived.Test.YtaopinecidddkaaEq
import Derived.Deep.RegionHeld3
namespace Go.Proofs.Ytaopinecidddkaa
open Go.RowKit Go.Sort

def IntsO (w : World) (B : Nat) (A : Option Addr) (n : Nat) (xs : List Int) : Prop := n = xs.length ∧ Shows w B A (xs.map (Value.int .i64))
theorem IntsO.at_ {w : World} {B : Nat} {A : Option Addr} {n : Nat} {xs : List Int} (h : IntsO w B A n xs) {k : Nat} (hk : k < n) : ∃ b o, A = some ⟨b, o, none⟩ ∧ b < B ∧ w.cell? ⟨b, o + k, none⟩ = some (.int .i64 (nth xs k)) := by
  obtain ⟨hn, hs⟩ := h
  obtain ⟨b, o, hA, hb, hc⟩ := hs.at_ (k := k) (v := .int .i64 (nth xs k)) (by rw [List.getElem?_map, nth_some (by omega)]; rfl)
  exact ⟨b, o, hA, hb, hc⟩
set_option maxRecDepth 100000 in
theorem intsO_any (A A' : Option Addr) (n c c' : Nat) (xs : List Int) (w : World) (B B' : Nat) (hx : IntsO w B A n xs) (hy : IntsO w B' A' n xs) (hn : n ≤ 1000000000) :
    Calls Try.prog 26 #[.slice A n c, .slice A' n c'] w fun e w' => e = .returned (.bool true) ∧ ∃ m, w.drewN m = w' := by
  have HN := Lib.hid hx.1
  go_enter Try.func26, Try.ntmps26
  go_wp2
  go_loopw [5, 13] (fun _ i wr => ∃ (k m : Nat), k ≤ n ∧ i = .int .i64 k ∧ wr = w.drewN m) (fun _ i _ => n - (intOf i).toNat)
  case atStart => exact ⟨0, 0, Nat.zero_le _, rfl, rfl⟩
  case round =>
    obtain ⟨k, m, hk, rfl, rfl⟩ := hrel
    by_cases hlt : k < n
    · obtain ⟨b, o, rfl, hb, hc⟩ := hx.at_ hlt
      obtain ⟨b', o', rfl, hb', hc'⟩ := hy.at_ hlt
      have he1 : (nth xs k != nth xs k) = false := by simp
      generalize nth xs k = x at *
      go_wp2
      go_quiet (fail)
      go_wp2
      go_roundw
      case rel => exact ⟨k + 1, _, by omega, by go_num, rfl⟩
      case measure => simp [intOf]; omega
    · go_wp2
      go_ret
      exact ⟨rfl, _, rfl⟩
theorem own_sixF {W : World} {g : Nat} {T : TypeId} {a0 a1 a2 a3 a4 a5 : Bool} (o : Own W g T #[.bool a0, .bool a1, .bool a2, .bool a3, .bool a4, .bool a5]) : W.cell? ⟨g, 0, none⟩ = some (.bool a0) ∧ W.cell? ⟨g, 1, none⟩ = some (.bool a1) ∧ W.cell? ⟨g, 2, none⟩ = some (.bool a2) ∧ W.cell? ⟨g, 3, none⟩ = some (.bool a3) ∧ W.cell? ⟨g, 4, none⟩ = some (.bool a4) ∧ W.cell? ⟨g, 5, none⟩ = some (.bool a5) := ⟨o.cell rfl, o.cell rfl, o.cell rfl, o.cell rfl, o.cell rfl, o.cell rfl⟩
set_option maxRecDepth 100000 in
theorem sl_intF : SliceOf Try.prog 44 3 1 8 := SliceOf.mk Try.underlying44 (z := .int .i64 0) (by kernel_rfl) rfl (by decide)
set_option maxRecDepth 100000 in
theorem families_true (a0 a1 a2 a4 a5 : Bool) (w : World) : Calls Try.prog 27 #[.agg #[.bool a0, .bool a1, .bool a2, .bool true, .bool a4, .bool a5]] w fun e w' => e = .returned (.slice (some ⟨w.heap.size + 1, 0, none⟩) 2 2) ∧ Own w' (w.heap.size + 1) 3 #[.int .i64 1, .int .i64 2] ∧ Below w.heap.size w w' := ofamilies_any a0 a1 a2 true a4 a5 w
set_option maxRecDepth 100000 in
theorem families_false (a0 a1 a2 a4 a5 : Bool) (w : World) : Calls Try.prog 27 #[.agg #[.bool a0, .bool a1, .bool a2, .bool false, .bool a4, .bool a5]] w fun e w' => e = .returned (.slice (some ⟨w.heap.size + 1, 0, none⟩) 1 1) ∧ Own w' (w.heap.size + 1) 3 #[.int .i64 1] ∧ Below w.heap.size w w' := ofamilies_any a0 a1 a2 false a4 a5 w
set_option maxRecDepth 100000 in
set_option maxHeartbeats 6400000 in
theorem ofam_true (a0 a1 a2 a4 a5 : Bool) (f : Int) (w : World) :
    Calls Try.prog 6 #[.agg #[.bool a0, .bool a1, .bool a2, .bool true, .bool a4, .bool a5], .int .i64 f] w fun e w' => e = .returned (.bool true) ∧ Below w.heap.size w w' := by
  have hb0 := bl_alloc (bl_alloc (bl_refl w) (.cells #[.bool a0, .bool a1, .bool a2, .bool true, .bool a4, .bool a5] 43)) (.cells #[.int .i64 1] 3)
  have o0 := (Own.new w 43 #[.bool a0, .bool a1, .bool a2, .bool true, .bool a4, .bool a5]).alloc (.cells #[.int .i64 1] 3)
  have oW := Own.new (w.alloc (.cells #[.bool a0, .bool a1, .bool a2, .bool true, .bool a4, .bool a5] 43)) 3 #[.int .i64 1]
  rw [show (w.alloc (.cells #[.bool a0, .bool a1, .bool a2, .bool true, .bool a4, .bool a5] 43)).heap.size = w.heap.size + 1 by simp] at oW
  have hM := Lib.hid (fun W => rompA_any a0 a1 a2 true a4 a5 f W)
  have hM2 := Lib.hid (fun W => (rompA_any a0 a1 a2 true a4 a5 2 W).mono (fun e w' h => show e = .returned (.bool true) ∧ Below W.heap.size W w' from ⟨by rw [h.1]; simp, h.2⟩))
  have hm := Lib.hid (fun W => ompA_any a0 a1 a2 true a4 a5 f W)
  have hA := Lib.hid (fun W => oaddA_any a0 a1 a2 true a4 a5 f W)
  have hB := Lib.hid (fun W => roaddA_any a0 a1 a2 true a4 a5 f W)
  have hW := Lib.hid (fun W => owidth_any a0 a1 a2 true a4 a5 W)
  have hX := Lib.hid (fun W => rowidth_any a0 a1 a2 true a4 a5 W)
  have hF := Lib.hid (fun W => families_true a0 a1 a2 a4 a5 W)
  generalize (decide (f = 1) && a2 || decide (f = 2) && true) = X at *
  generalize (decide (f = 1) && a4 || decide (f = 2) && a5) = Y at *
  generalize (if a0 then (4 : Int) else 2) = Z at *
  have hXX : (X == X) = true := by simp
  have hYY : (Y == Y) = true := by simp
  have hZZ : (Z == Z) = true := by simp
  go_enter Try.func6, Try.ntmps6
  go_wp2_with fail
  refine (hM2.out _).mono ?_
  rintro e w1 ⟨rfl, hb1⟩
  have o1 := o0.step hb1
  have oW1 := oW.step hb1
  have hb2 := bl_trans hb0 hb1
  clear o0 oW hb0 hb1
  have hrow := Own.row (base := w.heap.size + 1) (n := 1) (cs := [.int .i64 1]) oW1 rfl (Nat.le_refl _) (by unfold maxLen; omega)
  have hlt := oW1.lt
  go_wp2_with (at_builtin; refine wpList_append_grow _ rfl _ _ rfl sl_intF (w.heap.size + 1) _ _ _ rfl (hrow.alloc _) (w1.heap.size + 1) (some ⟨w1.heap.size, 0, none⟩) 1 1 [_] rfl rfl (Shows.of_owned (Own.new _ _ _) (by omega)) (one1 rfl) (by unfold maxLen; omega) (by omega) (by simp; omega) ?_; intro v1 w2 hown hgrow)
  have hb3 : Below w.heap.size w w2 := (hb2.alloc hb2.size _).grown hgrow (by have := hb2.size; simp; omega) (fun j hj => Nat.le_trans (by omega) (own_base hrow j hj))
  have g0 : Own w2 w.heap.size 43 #[.bool a0, .bool a1, .bool a2, .bool true, .bool a4, .bool a5] := (o1.alloc _).grown hgrow (by intro e; have := own_base hrow _ e.symm; omega)
  obtain ⟨A, c, rfl, hc, hsh⟩ := own_val hown
  have hwant : IntsO w2 w2.heap.size A 2 [1, 2] := ⟨rfl, hsh⟩
  clear hown hgrow hrow hb2 o1 oW1 hlt hsh hc
  have HW := Lib.hid hwant
  clear hwant
  have HS0 := own_sixF g0.drew
  go_region_held3 (fun W => W.cell? ⟨w.heap.size, 0, none⟩ = some (.bool a0) ∧ W.cell? ⟨w.heap.size, 1, none⟩ = some (.bool a1) ∧ W.cell? ⟨w.heap.size, 2, none⟩ = some (.bool a2) ∧ W.cell? ⟨w.heap.size, 3, none⟩ = some (.bool true) ∧ W.cell? ⟨w.heap.size, 4, none⟩ = some (.bool a4) ∧ W.cell? ⟨w.heap.size, 5, none⟩ = some (.bool a5)) (with_reducible first | exact HS0 | exact HS3 | exact HS4 | exact HS5 | exact HS6 | exact HS7 | exact HS8 | exact HS9 | exact HS10 | exact HS11) ((first
    | (go_at_call 20; (with_reducible refine (alive05_any _).mono ?_); rintro e w3 ⟨rfl, hq3⟩; have g3 := g0.drew.step hq3; have hb3 := bl_trans hb3.drew hq3; have HW3 := Lib.hid (show IntsO w3 w3.heap.size A 2 [1, 2] from ⟨HW.out.1, (HW.out.2.below (B := w2.heap.size) (show Below w2.heap.size w2 w3 from ((Below.refl _ _).drew).trans hq3)).more (show w2.heap.size ≤ _ from hq3.size)⟩); have HS3 := own_sixF g3)
    | (go_at_call 21; (with_reducible refine (hm.out _).mono ?_); rintro e w4 ⟨rfl, hq4⟩; have g4 := g3.step hq4; have hb4 := bl_trans hb3 hq4; have HW4 := Lib.hid (show IntsO w4 w4.heap.size A 2 [1, 2] from ⟨HW.out.1, (HW3.out.2.below hq4).more hq4.size⟩); have HS4 := own_sixF g4)
    | (go_at_call 19; (with_reducible refine (hM.out _).mono ?_); rintro e w5 ⟨rfl, hq5⟩; have g5 := g4.step hq5; have hb5 := bl_trans hb4 hq5; have HW5 := Lib.hid (show IntsO w5 w5.heap.size A 2 [1, 2] from ⟨HW.out.1, (HW4.out.2.below hq5).more hq5.size⟩); have HS5 := own_sixF g5)
    | (go_at_call 22; (with_reducible refine (hA.out _).mono ?_); rintro e w6 ⟨rfl, hq6⟩; have g6 := g5.step hq6; have hb6 := bl_trans hb5 hq6; have HW6 := Lib.hid (show IntsO w6 w6.heap.size A 2 [1, 2] from ⟨HW.out.1, (HW5.out.2.below hq6).more hq6.size⟩); have HS6 := own_sixF g6)
    | (go_at_call 23; (with_reducible refine (hB.out _).mono ?_); rintro e w7 ⟨rfl, hq7⟩; have g7 := g6.step hq7; have hb7 := bl_trans hb6 hq7; have HW7 := Lib.hid (show IntsO w7 w7.heap.size A 2 [1, 2] from ⟨HW.out.1, (HW6.out.2.below hq7).more hq7.size⟩); have HS7 := own_sixF g7)
    | (go_at_call 24; (with_reducible refine (hW.out _).mono ?_); rintro e w8 ⟨rfl, hq8⟩; have g8 := g7.step hq8; have hb8 := bl_trans hb7 hq8; have HW8 := Lib.hid (show IntsO w8 w8.heap.size A 2 [1, 2] from ⟨HW.out.1, (HW7.out.2.below hq8).more hq8.size⟩); have HS8 := own_sixF g8)
    | (go_at_call 25; (with_reducible refine (hX.out _).mono ?_); rintro e w9 ⟨rfl, hq9⟩; have g9 := g8.step hq9; have hb9 := bl_trans hb8 hq9; have HW9 := Lib.hid (show IntsO w9 w9.heap.size A 2 [1, 2] from ⟨HW.out.1, (HW8.out.2.below hq9).more hq9.size⟩); have HS9 := own_sixF g9)
    | (go_at_call 27; (with_reducible refine (hF.out _).mono ?_); rintro e w10 ⟨rfl, hf10, hq10⟩; have g10 := g9.step hq10; have hb10 := bl_trans hb9 hq10; have HW10 := Lib.hid (show IntsO w10 w10.heap.size A 2 [1, 2] from ⟨HW.out.1, (HW9.out.2.below hq10).more hq10.size⟩); have HF10 := Lib.hid (show IntsO w10 w10.heap.size (some ⟨w9.heap.size + 1, 0, none⟩) 2 [1, 2] from ⟨rfl, Shows.of_owned (xs := [1, 2].map (Value.int .i64)) hf10 hf10.lt⟩); have HS10 := own_sixF g10)
    | (go_at_call 26; (with_reducible refine (intsO_any _ _ _ _ _ _ _ _ _ HF10.out HW10.out (by omega)).mono ?_); rintro e w11 ⟨rfl, m11, rfl⟩; have HS11 := own_sixF (g10.drewN m11))))
  go_wp2
  go_ret
  exact ⟨rfl, bl_drewN hb10 m11⟩
set_option maxRecDepth 100000 in
set_option maxHeartbeats 6400000 in
theorem ofam_false (a0 a1 a2 a4 a5 : Bool) (f : Int) (w : World) :
    Calls Try.prog 6 #[.agg #[.bool a0, .bool a1, .bool a2, .bool false, .bool a4, .bool a5], .int .i64 f] w fun e w' => e = .returned (.bool true) ∧ Below w.heap.size w w' := by
  have hb0 := bl_alloc (bl_alloc (bl_refl w) (.cells #[.bool a0, .bool a1, .bool a2, .bool false, .bool a4, .bool a5] 43)) (.cells #[.int .i64 1] 3)
  have o0 := (Own.new w 43 #[.bool a0, .bool a1, .bool a2, .bool false, .bool a4, .bool a5]).alloc (.cells #[.int .i64 1] 3)
  have oW := Own.new (w.alloc (.cells #[.bool a0, .bool a1, .bool a2, .bool false, .bool a4, .bool a5] 43)) 3 #[.int .i64 1]
  rw [show (w.alloc (.cells #[.bool a0, .bool a1, .bool a2, .bool false, .bool a4, .bool a5] 43)).heap.size = w.heap.size + 1 by simp] at oW
  have hM := Lib.hid (fun W => rompA_any a0 a1 a2 false a4 a5 f W)
  have hM2 := Lib.hid (fun W => (rompA_any a0 a1 a2 false a4 a5 2 W).mono (fun e w' h => show e = .returned (.bool false) ∧ Below W.heap.size W w' from ⟨by rw [h.1]; simp, h.2⟩))
  have hm := Lib.hid (fun W => ompA_any a0 a1 a2 false a4 a5 f W)
  have hA := Lib.hid (fun W => oaddA_any a0 a1 a2 false a4 a5 f W)
  have hB := Lib.hid (fun W => roaddA_any a0 a1 a2 false a4 a5 f W)
  have hW := Lib.hid (fun W => owidth_any a0 a1 a2 false a4 a5 W)
  have hX := Lib.hid (fun W => rowidth_any a0 a1 a2 false a4 a5 W)
  have hF := Lib.hid (fun W => families_false a0 a1 a2 a4 a5 W)
  generalize (decide (f = 1) && a2 || decide (f = 2) && false) = X at *
  generalize (decide (f = 1) && a4 || decide (f = 2) && a5) = Y at *
  generalize (if a0 then (4 : Int) else 2) = Z at *
  have hXX : (X == X) = true := by simp
  have hYY : (Y == Y) = true := by simp
  have hZZ : (Z == Z) = true := by simp
  go_enter Try.func6, Try.ntmps6
  go_wp2_with fail
  refine (hM2.out _).mono ?_
  rintro e w1 ⟨rfl, hb1⟩
  have o1 := o0.step hb1
  have oW1 := oW.step hb1
  have hb2 := bl_trans hb0 hb1
  clear o0 oW hb0 hb1
  have g0 := o1
  have hb3 := hb2
  have hlt := oW1.lt
  have hwant : IntsO w1 w1.heap.size (some ⟨w.heap.size + 1, 0, none⟩) 1 [1] := ⟨rfl, Shows.of_owned (xs := [.int .i64 1]) oW1 hlt⟩
  have hA' : ∃ A : Option Addr, A = some ⟨w.heap.size + 1, 0, none⟩ := ⟨_, rfl⟩
  clear hb2 o1 oW1 hlt
  generalize w1 = w2 at *
  go_wp2_with fail
  generalize (some ⟨w.heap.size + 1, 0, none⟩ : Option Addr) = A at *
  have HW := Lib.hid hwant
  clear hwant
  have HS0 := own_sixF g0.drew
  go_region_held3 (fun W => W.cell? ⟨w.heap.size, 0, none⟩ = some (.bool a0) ∧ W.cell? ⟨w.heap.size, 1, none⟩ = some (.bool a1) ∧ W.cell? ⟨w.heap.size, 2, none⟩ = some (.bool a2) ∧ W.cell? ⟨w.heap.size, 3, none⟩ = some (.bool false) ∧ W.cell? ⟨w.heap.size, 4, none⟩ = some (.bool a4) ∧ W.cell? ⟨w.heap.size, 5, none⟩ = some (.bool a5)) (with_reducible first | exact HS0 | exact HS3 | exact HS4 | exact HS5 | exact HS6 | exact HS7 | exact HS8 | exact HS9 | exact HS10 | exact HS11) ((first
    | (go_at_call 20; (with_reducible refine (alive05_any _).mono ?_); rintro e w3 ⟨rfl, hq3⟩; have g3 := g0.drew.step hq3; have hb3 := bl_trans hb3.drew hq3; have HW3 := Lib.hid (show IntsO w3 w3.heap.size A 1 [1] from ⟨HW.out.1, (HW.out.2.below (B := w2.heap.size) (show Below w2.heap.size w2 w3 from ((Below.refl _ _).drew).trans hq3)).more (show w2.heap.size ≤ _ from hq3.size)⟩); have HS3 := own_sixF g3)
    | (go_at_call 21; (with_reducible refine (hm.out _).mono ?_); rintro e w4 ⟨rfl, hq4⟩; have g4 := g3.step hq4; have hb4 := bl_trans hb3 hq4; have HW4 := Lib.hid (show IntsO w4 w4.heap.size A 1 [1] from ⟨HW.out.1, (HW3.out.2.below hq4).more hq4.size⟩); have HS4 := own_sixF g4)
    | (go_at_call 19; (with_reducible refine (hM.out _).mono ?_); rintro e w5 ⟨rfl, hq5⟩; have g5 := g4.step hq5; have hb5 := bl_trans hb4 hq5; have HW5 := Lib.hid (show IntsO w5 w5.heap.size A 1 [1] from ⟨HW.out.1, (HW4.out.2.below hq5).more hq5.size⟩); have HS5 := own_sixF g5)
    | (go_at_call 22; (with_reducible refine (hA.out _).mono ?_); rintro e w6 ⟨rfl, hq6⟩; have g6 := g5.step hq6; have hb6 := bl_trans hb5 hq6; have HW6 := Lib.hid (show IntsO w6 w6.heap.size A 1 [1] from ⟨HW.out.1, (HW5.out.2.below hq6).more hq6.size⟩); have HS6 := own_sixF g6)
    | (go_at_call 23; (with_reducible refine (hB.out _).mono ?_); rintro e w7 ⟨rfl, hq7⟩; have g7 := g6.step hq7; have hb7 := bl_trans hb6 hq7; have HW7 := Lib.hid (show IntsO w7 w7.heap.size A 1 [1] from ⟨HW.out.1, (HW6.out.2.below hq7).more hq7.size⟩); have HS7 := own_sixF g7)
    | (go_at_call 24; (with_reducible refine (hW.out _).mono ?_); rintro e w8 ⟨rfl, hq8⟩; have g8 := g7.step hq8; have hb8 := bl_trans hb7 hq8; have HW8 := Lib.hid (show IntsO w8 w8.heap.size A 1 [1] from ⟨HW.out.1, (HW7.out.2.below hq8).more hq8.size⟩); have HS8 := own_sixF g8)
    | (go_at_call 25; (with_reducible refine (hX.out _).mono ?_); rintro e w9 ⟨rfl, hq9⟩; have g9 := g8.step hq9; have hb9 := bl_trans hb8 hq9; have HW9 := Lib.hid (show IntsO w9 w9.heap.size A 1 [1] from ⟨HW.out.1, (HW8.out.2.below hq9).more hq9.size⟩); have HS9 := own_sixF g9)
    | (go_at_call 27; (with_reducible refine (hF.out _).mono ?_); rintro e w10 ⟨rfl, hf10, hq10⟩; have g10 := g9.step hq10; have hb10 := bl_trans hb9 hq10; have HW10 := Lib.hid (show IntsO w10 w10.heap.size A 1 [1] from ⟨HW.out.1, (HW9.out.2.below hq10).more hq10.size⟩); have HF10 := Lib.hid (show IntsO w10 w10.heap.size (some ⟨w9.heap.size + 1, 0, none⟩) 1 [1] from ⟨rfl, Shows.of_owned (xs := [1].map (Value.int .i64)) hf10 hf10.lt⟩); have HS10 := own_sixF g10)
    | (go_at_call 26; (with_reducible refine (intsO_any _ _ _ _ _ _ _ _ _ HF10.out HW10.out (by omega)).mono ?_); rintro e w11 ⟨rfl, m11, rfl⟩; have HS11 := own_sixF (g10.drewN m11))))
  go_wp2
  go_ret
  exact ⟨rfl, bl_drewN hb10 m11⟩
set_option maxRecDepth 100000 in
theorem ofam_walk (a0 a1 a2 a3 a4 a5 : Bool) (f : Int) (w : World) :
    Calls Try.prog 6 #[.agg #[.bool a0, .bool a1, .bool a2, .bool a3, .bool a4, .bool a5], .int .i64 f] w fun e w' => e = .returned (.bool true) ∧ Below w.heap.size w w' := by
  cases a3
  · exact ofam_false a0 a1 a2 a4 a5 f w
  · exact ofam_true a0 a1 a2 a4 a5 f w
end Go.Proofs.Ytaopinecidddkaa

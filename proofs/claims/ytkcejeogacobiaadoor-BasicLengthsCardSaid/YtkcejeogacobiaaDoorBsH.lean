/- BasicLengths: the walk -/
import Derived.Test.YtkcejeogacobiaaDoorBsG
namespace Go.Proofs.YtkcejeogacobiaaDoor
open Go.RowKit Go.Maps

theorem bOkV_len {k : Int} {xs ys : List Int} (h : bOkV k xs = true) (hl : ys.length ≠ xs.length) : bOkV k ys = false := by
  unfold bOkV at *
  rw [decide_eq_true_eq] at h
  refine decide_eq_false (fun e => hl ?_)
  have := h.1
  have := e.1
  omega
theorem refuse_ne (k : Int) : (bRefuse k != 0) = true := by unfold bRefuse; split <;> rfl
theorem refuse_cases (k : Int) : (k = 6 ∧ bRefuse k = 1) ∨ (k ≠ 6 ∧ bRefuse k = 2) := by
  unfold bRefuse
  by_cases h : k = 6
  · exact .inl ⟨h, if_pos h⟩
  · exact .inr ⟨h, if_neg h⟩
set_option maxRecDepth 100000 in
theorem blens_early (k : Int) (A : Option Addr) (n c : Nat) (m : Int) (w : World) (hm : n ≤ maxLen) (h : 300 < n) :
    Calls Tryd.prog 4 #[.int .i64 k, .slice A n c, .int .u8 m] w fun e w' => e = .returned (.bool true) ∧ Below w.heap.size w w' := by
  unfold maxLen at hm
  have d : decide ((300 : Int) < (n : Int)) = true := by simp; omega
  go_enter Tryd.func4, Tryd.ntmps4
  go_wp2_with fail
  refine (alive07_any _).mono ?_
  rintro e w1 ⟨rfl, hb1⟩
  go_wp2
  go_ret
  exact ⟨rfl, hb1⟩
set_option maxRecDepth 100000 in
set_option maxHeartbeats 800000 in
theorem blens_no (k : Int) (A : Option Addr) (n c : Nat) (xs : List Int) (m : Int) (w : World) (hx : Bytes w w.heap.size A n xs) (hnc : n ≤ c) (h : n ≤ 300) (hv : bOkV k xs = false) :
    Calls Tryd.prog 4 #[.int .i64 k, .slice A n c, .int .u8 m] w fun e w' => e = .returned (.bool true) ∧ Below w.heap.size w w' := by
  have d : decide ((300 : Int) < (n : Int)) = false := by simp; omega
  have hR := Lib.hid (rbread_any k A n c xs w hx hnc (by omega))
  unfold bAtt bKind at hR
  rw [hv] at hR
  have hr := refuse_ne k
  unfold atV at hR
  simp only [Bool.false_eq_true, if_false] at hR
  generalize bRefuse k = r at *
  clear hx hv
  go_enter Tryd.func4, Tryd.ntmps4
  go_wp2_with fail
  refine hR.out.mono ?_
  rintro e w1 ⟨rfl, hb1⟩
  have hb2 := bl_alloc hb1 (.cells #[.int .i64 0, .bool false, .int .u32 0, .int .u32 0, .slice none 0 0, .slice none 0 0, .slice none 0 0, .int .i64 0, .slice none 0 0] 29)
  go_wp2_with fail
  refine (alive07_any _).mono ?_
  rintro e w2 ⟨rfl, hb3⟩
  go_wp2
  go_ret
  exact ⟨rfl, bl_trans hb2 hb3⟩
theorem one8b (m : Int) : ∀ u ∈ [Value.int .u8 m], u.oneCell' = true := by intro u hu; simp at hu; rw [hu]; rfl
set_option maxRecDepth 100000 in
set_option maxHeartbeats 1600000 in
theorem blens_yes (k : Int) (hwf : (Lit.int .i64 k).wf = true) (A : Option Addr) (n c : Nat) (xs : List Int) (m : Int) (hm0 : 0 ≤ m) (hm1 : m ≤ 255) (w : World) (hx : Bytes w w.heap.size A n xs) (hnc : n ≤ c) (h : n ≤ 300) (hv : bOkV k xs = true) (q6 : Bool) (h6 : (k == 6) = q6) :
    Calls Tryd.prog 4 #[.int .i64 k, .slice A n c, .int .u8 m] w fun e w' => e = .returned (.bool true) ∧ Below w.heap.size w w' := by
  have d : decide ((300 : Int) < (n : Int)) = false := by simp; omega
  have hR := Lib.hid (rbread_any k A n c xs w hx hnc (by omega))
  have hr : Hid (bRefuse k = if q6 then 1 else 2) := Lib.hid (by
    rw [← h6]
    rcases refuse_cases k with ⟨h, h'⟩ | ⟨h, h'⟩
    · rw [h', h]; rfl
    · rw [h', show (k == 6) = false by simpa using h]; rfl)
  have hX1 := Lib.hid (show bOkV k (xs ++ [m]) = false from bOkV_len hv (by simp))
  have hM := Lib.hid (show ∀ (A' : Option Addr) (c' : Nat) (W : World), Bytes W W.heap.size A' (n + 1) (xs ++ [m]) → Calls Tryd.prog 16 #[.int .i64 k, .slice A' (n + 1) c'] W fun e w' => e = .returned (.tuple #[.agg (atV 0 0), .int .i64 (bRefuse k)]) ∧ Below W.heap.size W w' from fun A' c' W hb => by
    have := bread_any k hwf A' (n + 1) c' (xs ++ [m]) W hb (by omega)
    unfold bAtt bKind at this
    rw [hX1.out] at this
    exact this)
  have hD := Lib.hid (show 0 < n → ∀ (A' : Option Addr) (c' : Nat) (W : World), Bytes W W.heap.size A' (n - 1) (xs.drop 1) → Calls Tryd.prog 16 #[.int .i64 k, .slice A' (n - 1) c'] W fun e w' => e = .returned (.tuple #[.agg (atV 0 0), .int .i64 (bRefuse k)]) ∧ Below W.heap.size W w' from fun h0 A' c' W hb => by
    have h1 : bOkV k (xs.drop 1) = false := bOkV_len hv (by rw [List.length_drop, ← hx.1]; omega)
    have := bread_any k hwf A' (n - 1) c' (xs.drop 1) W hb (by omega)
    unfold bAtt bKind at this
    rw [h1] at this
    exact this)
  unfold bAtt bKind at hR
  rw [hv] at hR
  unfold atV at hR hM hD
  simp only [if_true] at hR
  rw [hr.out] at hM hD
  generalize numV xs (bSize k) = N at *
  have HX := Lib.hid hx
  clear hx hv hX1 hr
  go_enter Tryd.func4, Tryd.ntmps4
  go_wp2_with fail
  refine hR.out.mono ?_
  rintro e w1 ⟨rfl, hb1⟩
  have hw1 := Lib.hid hb1.size
  have hb2 := bl_alloc hb1 (.cells #[.int .i64 k, .bool false, .int .u32 N, .int .u32 0, .slice none 0 0, .slice none 0 0, .slice none 0 0, .int .i64 0, .slice none 0 0] 29)
  have hx2 := (HX.out.below hb2).more hb2.size
  go_wp2_with fail
  refine (clone_any A n c xs _ hx2 (by omega)).mono ?_
  rintro e w2 ⟨v, rfl, ho2, hb3⟩
  obtain ⟨A1, c1, rfl, hc1, hs1⟩ := own_val ho2
  have hb4 := bl_trans hb2 hb3
  have ho3 := (ho2.kept (World.grownBy_alloc w2 (.cells #[.int .u8 m] 5) none) (by cases (Value.slice A1 n c1).ownBlock <;> simp))
  have oM := Own.new w2 5 #[.int .u8 m]
  have hsM := Shows.of_owned (xs := [.int .u8 m]) oM oM.lt
  have hb5 := bl_alloc hb4 (.cells #[.int .u8 m] 5)
  have hbs := hb3.size
  have hsz : w1.heap.size + 1 ≤ w2.heap.size := by simpa using hbs
  clear hb1 hb2 hb3 hb4 ho2 hx2
  have ho4 : (w2.alloc (.cells #[.int .u8 m] 5)).ownsRow (w1.heap.size + 1) 5 1 (.slice A1 n c1) n (xs.map (Value.int .u8)) := by simpa using ho3
  clear ho3 hbs hs1
  go_wp2_with (at_builtin; refine wpList_append_grow _ rfl _ _ rfl sl_bytes (w1.heap.size + 1) _ n _ rfl ho4 _ _ 1 1 [.int .u8 m] rfl rfl hsM (one8b m) (by unfold maxLen; omega) (by omega) (by simp; omega) ?_; intro v3 w3 hown3 hgrow3; obtain ⟨A3, c3, rfl, hc3, hs3⟩ := own_val hown3)
  have hb6 : Below w.heap.size w w3 := hb5.grown hgrow3 hb5.size (fun j hj => Nat.le_trans (by have := hw1.out; omega) (own_base ho4 j hj))
  have hB3 : Bytes w3 w3.heap.size A3 (n + 1) (xs ++ [m]) := ⟨by rw [List.length_append, ← HX.out.1]; rfl, fun x hx => by
    rcases List.mem_append.1 hx with h | h
    · exact HX.out.2.1 x h
    · simp at h; omega, by rw [List.map_append]; exact hs3⟩
  clear hgrow3 hown3 hs3 hsM oM ho4 hb5
  refine (hM.out A3 c3 _ hB3).mono ?_
  rintro e w4 ⟨rfl, hb7⟩
  have hb8 := bl_alloc (bl_trans hb6 hb7) (.cells #[.int .i64 0, .bool false, .int .u32 0, .int .u32 0, .slice none 0 0, .slice none 0 0, .slice none 0 0, .int .i64 0, .slice none 0 0] 29)
  have hX8 := Lib.hid ((HX.out.below hb8).more hb8.size)
  have hN8 := Lib.hid HX.out.1
  clear hb6 hb7 hB3 hM
  rcases Nat.eq_zero_or_pos n with hn | hn
  · have e0 : ((n : Int) == 0) = true := by simp; omega
    clear hD
    cases q6
    · go_wp2_with fail
      refine (alive07_any _).mono ?_
      rintro e w5 ⟨rfl, hb9⟩
      go_wp2
      go_ret
      exact ⟨rfl, bl_trans hb8 hb9⟩
    · go_wp2_with fail
      refine (alive07_any _).mono ?_
      rintro e w5 ⟨rfl, hb9⟩
      go_wp2
      go_ret
      exact ⟨rfl, bl_trans hb8 hb9⟩
  · have e0 : ((n : Int) == 0) = false := by simp; omega
    have e1 : (1 : Int) ≤ (n : Int) := by omega
    have e2 : (n : Int) ≤ (c : Int) := by omega
    have hcut := (hX8.out.cut (k := 1) (cap := c) (by omega) hnc)
    have hD2 := Lib.hid (fun A' c' W h => hD.out hn A' c' W h)
    clear hD
    by_cases hc : c = 1
    · rw [if_pos hc] at hcut
      have HCU := Lib.hid hcut
      clear hcut
      cases q6
      all_goals
        go_wp2_with fail
        refine (hD2.out _ _ _ HCU.out).mono ?_
        rintro e w5 ⟨rfl, hb9⟩
        have hb10 := bl_alloc (bl_trans hb8 hb9) (.cells #[.int .i64 0, .bool false, .int .u32 0, .int .u32 0, .slice none 0 0, .slice none 0 0, .slice none 0 0, .int .i64 0, .slice none 0 0] 29)
        go_wp2_with fail
        refine (alive07_any _).mono ?_
        rintro e w6 ⟨rfl, hb11⟩
        go_wp2
        go_ret
        exact ⟨rfl, bl_trans hb10 hb11⟩
    · rw [if_neg hc] at hcut
      have HCU := Lib.hid hcut
      clear hcut
      cases q6
      all_goals
        go_wp2_with fail
        refine (hD2.out _ _ _ HCU.out).mono ?_
        rintro e w5 ⟨rfl, hb9⟩
        have hb10 := bl_alloc (bl_trans hb8 hb9) (.cells #[.int .i64 0, .bool false, .int .u32 0, .int .u32 0, .slice none 0 0, .slice none 0 0, .slice none 0 0, .int .i64 0, .slice none 0 0] 29)
        go_wp2_with fail
        refine (alive07_any _).mono ?_
        rintro e w6 ⟨rfl, hb11⟩
        go_wp2
        go_ret
        exact ⟨rfl, bl_trans hb10 hb11⟩
set_option maxRecDepth 100000 in
theorem blens_all (k : Int) (hwf : (Lit.int .i64 k).wf = true) (A : Option Addr) (n c : Nat) (xs : List Int) (m : Int) (hm0 : 0 ≤ m) (hm1 : m ≤ 255) (w : World) (hx : Bytes w w.heap.size A n xs) (hnc : n ≤ c) (hm : c ≤ maxLen) :
    Calls Tryd.prog 4 #[.int .i64 k, .slice A n c, .int .u8 m] w fun e w' => e = .returned (.bool true) ∧ Below w.heap.size w w' := by
  by_cases h : 300 < n
  · exact blens_early k A n c m w (Nat.le_trans hnc hm) h
  · cases hv : bOkV k xs with
    | false => exact blens_no k A n c xs m w hx hnc (by omega) hv
    | true => exact blens_yes k hwf A n c xs m hm0 hm1 w hx hnc (by omega) hv _ rfl
end Go.Proofs.YtkcejeogacobiaaDoor

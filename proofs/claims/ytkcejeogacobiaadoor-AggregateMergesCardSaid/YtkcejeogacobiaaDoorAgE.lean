/- AggregateReads: the walk -/
import Derived.Test.YtkcejeogacobiaaDoorAgC
import Derived.Test.YtkcejeogacobiaaDoorAgD
import Derived.Test.YtkcejeogacobiaaDoorHdG
namespace Go.Proofs.YtkcejeogacobiaaDoor
open Go.RowKit Go.Sort

theorem agv_atc (k N M : Int) : agV k N M = atc (at2 k N M) := rfl
theorem ag2_bare (k N M : Int) : bareB (at2 k N M) = true := by unfold bareB at2; simp
set_option maxRecDepth 100000 in
theorem agreads_early (wd k : Int) (A : Option Addr) (n c : Nat) (w : World) (ht : Tens w) (hm : n ≤ maxLen) (h : 300 < n) :
    Calls Tryd.prog 8 #[.int .i64 wd, .int .i64 k, .slice A n c] w fun e w' => e = .returned (.bool true) ∧ Below w.heap.size w w' := by
  unfold maxLen at hm
  have d : decide ((300 : Int) < (n : Int)) = true := by simp; omega
  go_enter Tryd.func8, Tryd.ntmps8
  go_wp2_with fail
  refine (alive08_any _ ht).mono ?_
  rintro e w1 ⟨rfl, hb1⟩
  go_wp2
  go_ret
  exact ⟨rfl, hb1⟩
theorem ag_digits {xs : List Int} {s : Nat} (hr : ∀ x ∈ xs, 0 ≤ x ∧ x ≤ 255) (h : xs.length = s + 4) (hs : s = 2 ∨ s = 4) : agForm s (big (xs.take s)) (big (xs.drop s)) = xs := by
  rcases hs with rfl | rfl
  · match xs, h, hr with
    | [a, b, c, d, e, f], _, hr =>
      have h1 := hr a (by simp)
      have h2 := hr b (by simp)
      have h3 := hr c (by simp)
      have h4 := hr d (by simp)
      have h5 := hr e (by simp)
      have h6 := hr f (by simp)
      show digitsOf 2 (big [a, b]) ++ digitsOf 4 (big [c, d, e, f]) = _
      rw [digitsOf_2, digitsOf_4]; simp [big]; omega
  · match xs, h, hr with
    | [a, b, c, d, e, f, g, i], _, hr =>
      have h1 := hr a (by simp)
      have h2 := hr b (by simp)
      have h3 := hr c (by simp)
      have h4 := hr d (by simp)
      have h5 := hr e (by simp)
      have h6 := hr f (by simp)
      have h7 := hr g (by simp)
      have h8 := hr i (by simp)
      show digitsOf 4 (big [a, b, c, d]) ++ digitsOf 4 (big [e, f, g, i]) = _
      rw [digitsOf_4, digitsOf_4]; simp [big]; omega
theorem big4 {xs : List Int} (hr : ∀ x ∈ xs, 0 ≤ x ∧ x ≤ 255) (h : xs.length ≤ 4) : 0 ≤ big xs ∧ big xs < 4294967296 ∧ big xs < 256 ^ xs.length := by
  have hb := big_range _ xs rfl hr
  have hp : (256 : Int) ^ xs.length ≤ 256 ^ 4 := by
    have : ∀ j, j ≤ 4 → (256 : Int) ^ j ≤ 256 ^ 4 := by decide
    exact this _ h
  have h4 : (256 : Int) ^ 4 = 4294967296 := by decide
  exact ⟨hb.1, by omega, hb.2⟩
set_option maxRecDepth 100000 in
set_option maxHeartbeats 1600000 in
theorem agreads_yes (wd k : Int) (A : Option Addr) (n c : Nat) (xs : List Int) (w : World) (ht : Tens w) (hx : Bytes w w.heap.size A n xs) (hnc : n ≤ c) (h : n ≤ 300) (hh : agHnd wd k = true) (s : Nat) (hs : agSize wd k = (s : Int)) (hs2 : s = 2 ∨ s = 4) (hn : n = s + 4) :
    Calls Tryd.prog 8 #[.int .i64 wd, .int .i64 k, .slice A n c] w fun e w' => e = .returned (.bool true) ∧ Below w.heap.size w w' := by
  have d : decide ((300 : Int) < (n : Int)) = false := by simp; omega
  have hlen : xs.length = s + 4 := by rw [← hx.1]; exact hn
  have hR := Lib.hid (fun (W : World) (hb : Below w.heap.size w W) => agread_yes wd k A n c xs W ((hx.below hb).more hb.size) hh s hs hs2 hn)
  have hRR := Lib.hid (fun (W : World) (hb : Below w.heap.size w W) => ragread_yes wd k A n c xs W ((hx.below hb).more hb.size) hnc hh s hs hs2 hn)
  have hN := big4 (xs := xs.take s) (fun x hm => hx.2.1 x (List.mem_of_mem_take hm)) (by rw [List.length_take]; omega)
  have hM := big4 (xs := xs.drop s) (fun x hm => hx.2.1 x (List.mem_of_mem_drop hm)) (by rw [List.length_drop]; omega)
  have hN3 := hN.2.2
  rw [List.length_take, Nat.min_eq_left (by omega)] at hN3
  have hform := ag_digits hx.2.1 hlen hs2
  have hval : agVal wd (at2 k (big (xs.take s)) (big (xs.drop s))) = true := by
    unfold agVal
    rw [ag2_bare]
    show (agHnd wd k && true && decide (big (xs.take s) < 256 ^ (agSize wd k).toNat)) = true
    rw [hh, hs, Int.toNat_natCast, decide_eq_true hN3]
    rfl
  have hBB := Lib.hid (fun W => agbytes_yes wd (at2 k (big (xs.take s)) (big (xs.drop s))) W hN.1 hN.2.1 hM.1 hM.2.1 hval s hs hs2)
  have hSS := Lib.hid (fun W => rsame08_same (at2 k (big (xs.take s)) (big (xs.drop s))) W (ag2_bare _ _ _))
  rw [show (at2 k (big (xs.take s)) (big (xs.drop s))).N = big (xs.take s) from rfl, show (at2 k (big (xs.take s)) (big (xs.drop s))).M = big (xs.drop s) from rfl, hform] at hBB
  rw [← hn] at hBB
  unfold at2 atc at hBB hSS
  unfold agV at hR hRR
  dsimp only at hBB hSS
  generalize big (xs.take s) = N at *
  generalize big (xs.drop s) = M at *
  have HX := Lib.hid hx
  clear hx hh hs hs2 hn hlen hN hM hN3 hform hval
  go_enter Tryd.func8, Tryd.ntmps8
  go_wp2_with fail
  refine (hR.out _ (bl_refl w)).mono ?_
  rintro e w1 ⟨rfl, hb1⟩
  have hb2 := bl_alloc hb1 (.cells #[.int .i64 k, .bool false, .int .u32 N, .int .u32 M, .slice none 0 0, .slice none 0 0, .slice none 0 0, .int .i64 0, .slice none 0 0] 29)
  have o1 := Own.new w1 29 #[.int .i64 k, .bool false, .int .u32 N, .int .u32 M, .slice none 0 0, .slice none 0 0, .slice none 0 0, .int .i64 0, .slice none 0 0]
  go_wp2_with fail
  refine (hRR.out _ hb2).mono ?_
  rintro e w2 ⟨rfl, hb3⟩
  have hb4 := bl_alloc (bl_trans hb2 hb3) (.cells #[.int .i64 k, .bool false, .int .u32 N, .int .u32 M, .slice none 0 0, .slice none 0 0, .slice none 0 0, .int .i64 0, .slice none 0 0] 29)
  have o2 := (o1.step hb3).alloc (.cells #[.int .i64 k, .bool false, .int .u32 N, .int .u32 M, .slice none 0 0, .slice none 0 0, .slice none 0 0, .int .i64 0, .slice none 0 0] 29)
  have o3 := Own.new w2 29 #[.int .i64 k, .bool false, .int .u32 N, .int .u32 M, .slice none 0 0, .slice none 0 0, .slice none 0 0, .int .i64 0, .slice none 0 0]
  obtain ⟨e0, e1, e2, e3, e4, e5, e6, e7, e8⟩ := at_cells o2
  have hl := o2.lt
  clear hb1 hb2 hb3 o1
  go_wp2_with fail
  refine (hBB.out _).mono ?_
  rintro e w3 ⟨A3, rfl, hB3, hb5⟩
  have hb6 := bl_trans hb4 hb5
  have p2 := o2.step hb5
  have p3 := o3.step hb5
  clear e0 e1 e2 e3 e4 e5 e6 e7 e8 hl o2 o3 hb4 hb5
  go_wp2_with fail
  refine (alive08_any _ (ht.below hb6)).mono ?_
  rintro e w4 ⟨rfl, hb7⟩
  have q2 := p2.step hb7
  have q3 := p3.step hb7
  have hb8 := bl_trans hb6 hb7
  have hB4 := Lib.hid ((hB3.below hb7).more hb7.size)
  obtain ⟨e0, e1, e2, e3, e4, e5, e6, e7, e8⟩ := at_cells q2
  obtain ⟨f0, f1, f2, f3, f4, f5, f6, f7, f8⟩ := at_cells q3
  clear p2 p3 hB3 hb6 hb7
  go_wp2_with fail
  refine (hSS.out _).mono ?_
  rintro e w5 ⟨rfl, hb10⟩
  have hb11 := bl_trans hb8 hb10
  have hX := Lib.hid ((HX.out.below hb11).more hb11.size)
  have hB5 := Lib.hid ((hB4.out.below hb10).more hb10.size)
  go_wp2_with fail
  refine (bytesEq_same _ _ _ _ _ _ xs _ _ _ hB5.out hX.out (by omega) (by omega)).mono ?_
  rintro e w6 ⟨rfl, m, rfl⟩
  go_wp2
  go_ret
  exact ⟨rfl, bl_drewN hb11 m⟩
set_option maxRecDepth 100000 in
set_option maxHeartbeats 1600000 in
theorem agreads_no (wd k : Int) (A : Option Addr) (n c : Nat) (w : World) (ht : Tens w) (h : n ≤ 300) (hq : agHnd wd k = false ∨ ∃ s : Nat, agSize wd k = (s : Int) ∧ s ≤ 4 ∧ n ≠ s + 4) :
    Calls Tryd.prog 8 #[.int .i64 wd, .int .i64 k, .slice A n c] w fun e w' => e = .returned (.bool true) ∧ Below w.heap.size w w' := by
  have d : decide ((300 : Int) < (n : Int)) = false := by simp; omega
  have hR := Lib.hid (fun (W : World) => agread_no wd k A n c W hq)
  have hRR := Lib.hid (fun (W : World) => ragread_no wd k A n c W hq)
  have hval : agVal wd (at2 0 0 0) = false := by unfold agVal agHnd agHas at2; simp
  have hBB := Lib.hid (fun W => agbytes_no wd (at2 0 0 0) W (by decide) (by decide) hval)
  have hSS := Lib.hid (fun W => rsame08_same (at2 0 0 0) W (ag2_bare _ _ _))
  unfold at2 atc at hBB hSS
  unfold agV at hR hRR
  dsimp only at hBB hSS
  clear hq hval
  go_enter Tryd.func8, Tryd.ntmps8
  go_wp2_with fail
  refine (hR.out _).mono ?_
  rintro e w1 ⟨rfl, hb1⟩
  have hb2 := bl_alloc hb1 (.cells #[.int .i64 0, .bool false, .int .u32 0, .int .u32 0, .slice none 0 0, .slice none 0 0, .slice none 0 0, .int .i64 0, .slice none 0 0] 29)
  have o1 := Own.new w1 29 #[.int .i64 0, .bool false, .int .u32 0, .int .u32 0, .slice none 0 0, .slice none 0 0, .slice none 0 0, .int .i64 0, .slice none 0 0]
  go_wp2_with fail
  refine (hRR.out _).mono ?_
  rintro e w2 ⟨rfl, hb3⟩
  have hb4 := bl_alloc (bl_trans hb2 hb3) (.cells #[.int .i64 0, .bool false, .int .u32 0, .int .u32 0, .slice none 0 0, .slice none 0 0, .slice none 0 0, .int .i64 0, .slice none 0 0] 29)
  have o2 := (o1.step hb3).alloc (.cells #[.int .i64 0, .bool false, .int .u32 0, .int .u32 0, .slice none 0 0, .slice none 0 0, .slice none 0 0, .int .i64 0, .slice none 0 0] 29)
  have o3 := Own.new w2 29 #[.int .i64 0, .bool false, .int .u32 0, .int .u32 0, .slice none 0 0, .slice none 0 0, .slice none 0 0, .int .i64 0, .slice none 0 0]
  obtain ⟨e0, e1, e2, e3, e4, e5, e6, e7, e8⟩ := at_cells o2
  have hl := o2.lt
  clear hb1 hb2 hb3 o1
  go_wp2_with fail
  refine (hBB.out _).mono ?_
  rintro e w3 ⟨rfl, hb5⟩
  have hb6 := bl_trans hb4 hb5
  have p2 := o2.step hb5
  have p3 := o3.step hb5
  clear e0 e1 e2 e3 e4 e5 e6 e7 e8 hl o2 o3 hb4 hb5
  go_wp2_with fail
  refine (alive08_any _ (ht.below hb6)).mono ?_
  rintro e w4 ⟨rfl, hb7⟩
  have q2 := p2.step hb7
  have q3 := p3.step hb7
  have hb8 := bl_trans hb6 hb7
  obtain ⟨e0, e1, e2, e3, e4, e5, e6, e7, e8⟩ := at_cells q2
  obtain ⟨f0, f1, f2, f3, f4, f5, f6, f7, f8⟩ := at_cells q3
  clear p2 p3 hb6 hb7
  go_wp2_with fail
  refine (hSS.out _).mono ?_
  rintro e w5 ⟨rfl, hb10⟩
  go_wp2
  go_ret
  exact ⟨rfl, bl_trans hb8 hb10⟩
set_option maxRecDepth 100000 in
theorem agreads_all (wd : Int) (_w0 : (Lit.int .i64 wd).wf = true) (k : Int) (_w1 : (Lit.int .i64 k).wf = true) (A : Option Addr) (n c : Nat) (xs : List Int) (w : World) (ht : Tens w) (hx : Bytes w w.heap.size A n xs) (hnc : n ≤ c) (hm : c ≤ maxLen) :
    Calls Tryd.prog 8 #[.int .i64 wd, .int .i64 k, .slice A n c] w fun e w' => e = .returned (.bool true) ∧ Below w.heap.size w w' := by
  by_cases h : 300 < n
  · exact agreads_early wd k A n c w ht (Nat.le_trans hnc hm) h
  · rcases agOk_cases wd k n with ⟨_, h1, s, h2, h3, h4⟩ | ⟨_, h1⟩
    · exact agreads_yes wd k A n c xs w ht hx hnc (by omega) h1 s h2 h3 h4
    · exact agreads_no wd k A n c w ht (by omega) h1
end Go.Proofs.YtkcejeogacobiaaDoor

/- Number, Take, Part of both sides at every argument, in one form each -/
import Derived.Test.YtmcnpkfeipelgaaGreatDoorTot
import Derived.Test.YtmcnpkfeipelgaaGreatDoorPartR
namespace Go.Proofs.YtmcnpkfeipelgaaGreatDoor
open Go.RowKit

def numOk (n : Nat) (k : Int) : Bool := decide (1 ≤ k ∧ k ≤ 4 ∧ k ≤ (n : Int))
def numN (n : Nat) (k : Int) : Nat := if numOk n k = true then k.toNat else 0
def numV (ys : List Int) (k : Int) : Int := if numOk ys.length k = true then big (ys.take k.toNat) else 0
def takOk (n : Nat) (k : Int) : Bool := decide (0 ≤ k ∧ k ≤ (n : Int))
def takN (n : Nat) (k : Int) : Nat := if takOk n k = true then k.toNat else 0
theorem numN_le (n : Nat) (k : Int) : numN n k ≤ n := by
  unfold numN
  split
  · rename_i h
    simp only [numOk, decide_eq_true_eq] at h
    omega
  · omega
theorem takN_le (n : Nat) (k : Int) : takN n k ≤ n := by
  unfold takN
  split
  · rename_i h
    simp only [takOk, decide_eq_true_eq] at h
    omega
  · omega
theorem Behind.zero (A : Option Addr) (n : Nat) : Behind A n 0 A := fun W B xs h => by simpa using h

set_option maxRecDepth 100000 in
theorem num_any (g : Nat) (ys : List Int) (p : Nat) (k : Int) (w : World) (h : Rdr w g ys p) (hl : ys.length ≤ 1000000000) (hp : p ≤ 1000000000) :
    Calls Tryz.prog 88 #[.pointer (some ⟨g, 0, none⟩), .int .i64 k] w fun e w' => e = .returned (.tuple #[.int .u32 (numV ys k), .bool (numOk ys.length k)]) ∧
      Rdr w' g (ys.drop (numN ys.length k)) (p + numN ys.length k) ∧ w.grownBy w' (some g) := by
  by_cases hk : numOk ys.length k = true
  · have h1 := hk
    simp only [numOk, decide_eq_true_eq] at h1
    refine (number_yes g ys p k w h hl hp h1.1 h1.2.1 h1.2.2).mono ?_
    rintro e w' ⟨rfl, h2, h3⟩
    unfold numV numN
    rw [if_pos hk, if_pos hk, hk]
    exact ⟨rfl, h2, h3⟩
  · have h1 := hk
    simp only [numOk, decide_eq_true_eq] at h1
    have e1 : numOk ys.length k = false := by simpa using hk
    have c : Calls Tryz.prog 88 #[.pointer (some ⟨g, 0, none⟩), .int .i64 k] w fun e w' => e = .returned (.tuple #[.int .u32 0, .bool false]) ∧ w = w' := by
      by_cases hb : k < 1 ∨ 4 < k
      · exact number_bad g k w hb
      · exact number_no g ys p k w h hl (by omega) (by omega) (by omega)
    refine c.mono ?_
    rintro e w' ⟨rfl, rfl⟩
    unfold numV numN
    rw [if_neg hk, if_neg hk, e1]
    exact ⟨rfl, by simpa using h, World.grownBy.refl _ _⟩
set_option maxRecDepth 100000 in
theorem rnum_any (A : Option Addr) (n c : Nat) (ys : List Int) (p : Nat) (k : Int) (w : World) (hx : Bytes w w.heap.size A n ys) (hc : n ≤ c) (hn : n ≤ 1000000000) (hp : p ≤ 1000000000) :
    Calls Tryz.prog 139 #[.agg #[.slice A n c, .int .i64 p], .int .i64 k] w fun e w' => ∃ A1 c1, e = .returned (.tuple #[.agg #[.slice A1 (n - numN n k) c1, .int .i64 ((p + numN n k : Nat) : Int)], .int .u32 (numV ys k), .bool (numOk n k)]) ∧
      n - numN n k ≤ c1 ∧ Behind A n (numN n k) A1 ∧ Below w.heap.size w w' := by
  have hlen := hx.1
  by_cases hk : numOk n k = true
  · have h1 := hk
    simp only [numOk, decide_eq_true_eq] at h1
    refine (rnum_yes A n c ys p k w hx hc hn (by omega) (by omega) h1.1 h1.2.1 h1.2.2).mono ?_
    rintro e w' ⟨A1, c1, rfl, h2, h3, h4⟩
    unfold numV numN
    rw [← hlen, if_pos hk, if_pos hk, hk]
    refine ⟨A1, c1, ?_, h2, h3, h4⟩
    rw [show ((p + k.toNat : Nat) : Int) = (p : Int) + k by omega]
  · have h1 := hk
    simp only [numOk, decide_eq_true_eq] at h1
    have e1 : numOk n k = false := by simpa using hk
    have c : Calls Tryz.prog 139 #[.agg #[.slice A n c, .int .i64 p], .int .i64 k] w fun e w' => e = .returned (.tuple #[.agg #[.slice A n c, .int .i64 p], .int .u32 0, .bool false]) ∧ Below w.heap.size w w' := by
      by_cases hb : k < 1 ∨ 4 < k
      · exact rnum_bad A n c p k w hb
      · exact rnum_no A n c p k w hn (by omega) (by omega) (by omega)
    refine c.mono ?_
    rintro e w' ⟨rfl, hb⟩
    unfold numV numN
    rw [← hlen, if_neg hk, if_neg hk, e1]
    exact ⟨A, _, rfl, by simpa using hc, Behind.zero A n, hb⟩

set_option maxRecDepth 100000 in
theorem tak_any (g : Nat) (ys : List Int) (p : Nat) (k : Int) (w : World) (h : Rdr w g ys p) (hl : ys.length ≤ 1000000000) (hp : p ≤ 1000000000) :
    Calls Tryz.prog 37 #[.pointer (some ⟨g, 0, none⟩), .int .i64 k] w fun e w' => ∃ A c, e = .returned (.tuple #[.slice A (takN ys.length k) c, .bool (takOk ys.length k)]) ∧ Bytes w' w'.heap.size A (takN ys.length k) (ys.take (takN ys.length k)) ∧
      Rdr w' g (ys.drop (takN ys.length k)) (p + takN ys.length k) ∧ w.grownBy w' (some g) := by
  by_cases hk : takOk ys.length k = true
  · have h1 := hk
    simp only [takOk, decide_eq_true_eq] at h1
    refine (take_yes g ys p k w h hl hp h1.1 h1.2).mono ?_
    rintro e w' ⟨j, rfl, _, h2, h3, h4⟩
    unfold takN
    rw [if_pos hk, hk]
    refine ⟨_, _, rfl, ?_, h3, h4⟩
    have := Bytes.of_owned h2 (fun x hx => h.range x (List.mem_of_mem_take hx)) h2.lt
    rwa [show (ys.take k.toNat).length = k.toNat by rw [List.length_take]; omega] at this
  · have h1 := hk
    simp only [takOk, decide_eq_true_eq] at h1
    have e1 : takOk ys.length k = false := by simpa using hk
    refine (take_no g ys p k w h hl (by omega)).mono ?_
    rintro e w' ⟨rfl, rfl⟩
    unfold takN
    rw [if_neg hk, e1]
    exact ⟨none, 0, rfl, by simpa using Bytes.nil _ _ _, by simpa using h, World.grownBy.refl _ _⟩
set_option maxRecDepth 100000 in
theorem rtak_any (A : Option Addr) (n c : Nat) (p : Nat) (k : Int) (w : World) (hc : n ≤ c) (hn : n ≤ 1000000000) (hp : p ≤ 1000000000) :
    Calls Tryz.prog 159 #[.agg #[.slice A n c, .int .i64 p], .int .i64 k] w fun e w' => ∃ A1 c1 A2 c2, e = .returned (.tuple #[.agg #[.slice A1 (n - takN n k) c1, .int .i64 ((p + takN n k : Nat) : Int)], .slice A2 (takN n k) c2, .bool (takOk n k)]) ∧
      n - takN n k ≤ c1 ∧ Behind A n (takN n k) A1 ∧ (∀ W B ys, Bytes W B A n ys → Bytes W B A2 (takN n k) (ys.take (takN n k))) ∧ Below w.heap.size w w' := by
  by_cases hk : takOk n k = true
  · have h1 := hk
    simp only [takOk, decide_eq_true_eq] at h1
    refine (rtake_yes A n c p k w hc hn (by omega) (by omega) h1.1 h1.2).mono ?_
    rintro e w' ⟨A1, c1, rfl, h2, h3, h4⟩
    unfold takN
    rw [if_pos hk, hk]
    refine ⟨A1, c1, A, c, ?_, h2, h3, fun W B ys hy => hy.front (by omega), h4⟩
    rw [show ((p + k.toNat : Nat) : Int) = (p : Int) + k by omega]
  · have h1 := hk
    simp only [takOk, decide_eq_true_eq] at h1
    have e1 : takOk n k = false := by simpa using hk
    refine (rtake_no A n c p k w (by omega) hn).mono ?_
    rintro e w' ⟨rfl, hb⟩
    unfold takN
    rw [if_neg hk, e1]
    exact ⟨A, c, none, 0, rfl, by simpa using hc, Behind.zero A n, fun W B ys _ => by simpa using Bytes.nil _ _ _, hb⟩
set_option maxRecDepth 100000 in
theorem left_n {g n : Nat} {xs : List Int} {p : Nat} {w : World} (h : Rdr w g xs p) (hn : xs.length = n) :
    Calls Tryz.prog 33 #[.pointer (some ⟨g, 0, none⟩)] w fun e w' => e = .returned (.int .i64 n) ∧ w = w' := by
  subst hn
  exact left_any g xs p w h
end Go.Proofs.YtmcnpkfeipelgaaGreatDoor

/- Number, Take, Part of both sides at every argument, in one form each -/
import Derived.Test.YtkcejeogacobiaaDoorTot
import Derived.Test.YtkcejeogacobiaaDoorPartR
namespace Go.Proofs.YtkcejeogacobiaaDoor
open Go.RowKit

def numOk (n : Nat) (k : Int) : Bool := decide (1 ≤ k ∧ k ≤ 4 ∧ k ≤ (n : Int))
def numN (n : Nat) (k : Int) : Nat := if numOk n k = true then k.toNat else 0
def numV (ys : List Int) (k : Int) : Int := if numOk ys.length k = true then big (ys.take k.toNat) else 0
def takOk (n : Nat) (k : Int) : Bool := decide (0 ≤ k ∧ k ≤ (n : Int))
def takN (n : Nat) (k : Int) : Nat := if takOk n k = true then k.toNat else 0
theorem numN_le (n : Nat) (k : Int) : numN n k ≤ n := by
  unfold numN
  split
  · rename_i h
    simp only [numOk, decide_eq_true_eq] at h
    omega
  · omega
theorem takN_le (n : Nat) (k : Int) : takN n k ≤ n := by
  unfold takN
  split
  · rename_i h
    simp only [takOk, decide_eq_true_eq] at h
    omega
  · omega
theorem Behind.zero (A : Option Addr) (n : Nat) : Behind A n 0 A := fun W B xs h => by simpa using h

set_option maxRecDepth 100000 in
theorem num_any (g : Nat) (ys : List Int) (p : Nat) (k : Int) (w : World) (h : Rdr w g ys p) (hl : ys.length ≤ 1000000000) (hp : p ≤ 1000000000) :
    Calls Tryd.prog 64 #[.pointer (some ⟨g, 0, none⟩), .int .i64 k] w fun e w' => e = .returned (.tuple #[.int .u32 (numV ys k), .bool (numOk ys.length k)]) ∧
      Rdr w' g (ys.drop (numN ys.length k)) (p + numN ys.length k) ∧ w.grownBy w' (some g) := by
  by_cases hk : numOk ys.length k = true
  · have h1 := hk
    simp only [numOk, decide_eq_true_eq] at h1
    refine (number_yes g ys p k w h hl hp h1.1 h1.2.1 h1.2.2).mono ?_
    rintro e w' ⟨rfl, h2, h3⟩
    unfold numV numN
    rw [if_pos hk, if_pos hk, hk]
    exact ⟨rfl, h2, h3⟩
  · have h1 := hk
    simp only [numOk, decide_eq_true_eq] at h1
    have e1 : numOk ys.length k = false := by simpa using hk
    have c : Calls Tryd.prog 64 #[.pointer (some ⟨g, 0, none⟩), .int .i64 k] w fun e w' => e = .returned (.tuple #[.int .u32 0, .bool false]) ∧ w = w' := by
      by_cases hb : k < 1 ∨ 4 < k
      · exact number_bad g k w hb
      · exact number_no g ys p k w h hl (by omega) (by omega) (by omega)
    refine c.mono ?_
    rintro e w' ⟨rfl, rfl⟩
    unfold numV numN
    rw [if_neg hk, if_neg hk, e1]
    exact ⟨rfl, by simpa using h, World.grownBy.refl _ _⟩
end Go.Proofs.YtkcejeogacobiaaDoor

/- the closure of nlri.Read -/
import Derived.Test.YtiehbmhekncbhaaDoorNs
namespace Go.Proofs.YtiehbmhekncbhaaDoor
open Go.RowKit

def pOk (f : Int) (xs : List Int) : Bool := match xs with
  | [] => false
  | x :: ys => lenOk f x && decide ((sizeOfBits x).toNat ≤ ys.length)
def pN (xs : List Int) : Nat := 1 + (sizeOfBits (xs.headD 0)).toNat
def pF (f : Int) (xs : List Int) : Int := if pOk f xs then f else 0
def pL (f : Int) (xs : List Int) : Int := if pOk f xs then xs.headD 0 else 0
def pA (f : Int) (xs : List Int) : List Int := if pOk f xs then maskL (xs.headD 0) (padTo ((xs.drop 1).take (sizeOfBits (xs.headD 0)).toNat)) else zero16
theorem pA_addr {f : Int} {xs : List Int} (h : ∀ x ∈ xs, 0 ≤ x ∧ x ≤ 255) : IsAddr (pA f xs) := by
  unfold pA
  by_cases hk : pOk f xs = true
  · rw [if_pos hk]
    match xs, hk, h with
    | x :: ys, hk, h =>
      simp only [pOk, Bool.and_eq_true, decide_eq_true_eq] at hk
      have hr := lenOk_range hk.1
      have h5 : sizeOfBits x ≤ 16 := by unfold sizeOfBits; omega
      exact maskL_addr x (padTo_addr (by simp only [List.drop_one, List.tail_cons, List.headD_cons, List.length_take]; omega) (fun y hy => h y (List.mem_cons_of_mem _ (List.mem_of_mem_take hy))))
  · rw [if_neg hk]; exact zero16_addr

set_option maxRecDepth 100000 in
theorem pread_any (B : Nat) (f : Int) (xs : List Int) (g p : Nat) (w : World) (h : RdrB B w g xs p) (hl : xs.length ≤ 1000000000) (hp : p ≤ 999999999) :
    Calls Tryd.prog 17 #[.int .i64 f, .pointer (some ⟨g, 0, none⟩)] w fun e w' => e = .returned (.tuple #[.agg (pfx (pF f xs) (pL f xs) (pA f xs)), .bool (pOk f xs)]) ∧ (pOk f xs = true → RdrB B w' g (xs.drop (pN xs)) (p + pN xs)) ∧ w.grownBy w' (some g) := by
  match xs, h, hl with
  | [], h, hl =>
    refine (pread_nil f g p w h.rdr).mono ?_
    rintro e w' ⟨rfl, hb⟩
    exact ⟨rfl, (by intro hh; simp [pOk] at hh), only_of_below hb _⟩
  | x :: ys, h, hl =>
    by_cases h1 : lenOk f x = true
    · by_cases h2 : (sizeOfBits x).toNat ≤ ys.length
      · have hk : pOk f (x :: ys) = true := by simp [pOk, h1, h2]
        refine (pread_yes B f x ys g p w h hl hp h1 h2).mono ?_
        rintro e w' ⟨rfl, hr, hg⟩
        refine ⟨by simp [pF, pL, pA, hk], fun _ => ?_, hg⟩
        have e1 : (x :: ys).drop (pN (x :: ys)) = ys.drop (sizeOfBits x).toNat := by unfold pN; rw [Nat.add_comm, List.headD_cons, List.drop_succ_cons]
        have e2 : p + pN (x :: ys) = p + 1 + (sizeOfBits x).toNat := by unfold pN; rw [List.headD_cons]; omega
        rw [e1, e2]; exact hr
      · have hk : pOk f (x :: ys) = false := by simp [pOk, h2]
        refine (pread_short B f x ys g p w h hl hp h1 (by omega)).mono ?_
        rintro e w' ⟨rfl, hr, hg⟩
        exact ⟨by simp [pF, pL, pA, hk], (by rw [hk]; intro hh; cases hh), hg⟩
    · have h1' : lenOk f x = false := by simpa using h1
      have hk : pOk f (x :: ys) = false := by simp [pOk, h1']
      refine (pread_bad B f x ys g p w h hl (by omega) h1').mono ?_
      rintro e w' ⟨rfl, hr, hg⟩
      exact ⟨by simp [pF, pL, pA, hk], (by rw [hk]; intro hh; cases hh), hg⟩

/-- One route before the bytes xs. -/
def oneOk (f : Int) (add : Bool) (xs : List Int) : Bool := if add then decide (4 ≤ xs.length) && pOk f (xs.drop 4) else pOk f xs
def oneN (add : Bool) (xs : List Int) : Nat := if add then 4 + pN (xs.drop 4) else pN xs
def oneR (f : Int) (add : Bool) (xs : List Int) : Rt := if add then (if 4 ≤ xs.length then ⟨big (xs.take 4), pF f (xs.drop 4), pL f (xs.drop 4), pA f (xs.drop 4)⟩ else rt0) else ⟨0, pF f xs, pL f xs, pA f xs⟩

set_option maxRecDepth 100000 in
theorem built_rt (p f l : Int) {m : List Int} (h : m.length = 16) : Tryd.prog.built 168 [(0, .int .u32 p), (1, .agg (pfx f l m))] = some (rt ⟨p, f, l, m⟩) := by
  obtain ⟨x0, x1, x2, x3, x4, x5, x6, x7, x8, x9, x10, x11, x12, x13, x14, x15, rfl⟩ := list16 h
  kernel_rfl

end Go.Proofs.YtiehbmhekncbhaaDoor

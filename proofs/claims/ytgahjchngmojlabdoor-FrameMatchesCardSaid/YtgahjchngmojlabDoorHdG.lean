/- alive of layer 4; the bytes of a header on both sides -/
import Derived.Test.YtgahjchngmojlabDoorHdF
import Derived.Test.YtgahjchngmojlabDoorEq
import Derived.Deep.RegionHeld3
namespace Go.Proofs.YtgahjchngmojlabDoor
open Go.RowKit

set_option maxRecDepth 100000 in
theorem wrap_alive (w : World) (ht : HRows w) :
    Calls Tryd.prog 25 #[.agg #[.bool false, .bool false, .bool false, .bool false, .bool false, .bool false], .int .i64 4, .slice none 0 0] w fun e w' => ∃ g, e = .returned (.tuple #[.slice (some ⟨g, 0, none⟩) 19 19, .bool true]) ∧ Own w' g 5 #[.int .u8 255, .int .u8 255, .int .u8 255, .int .u8 255, .int .u8 255, .int .u8 255, .int .u8 255, .int .u8 255, .int .u8 255, .int .u8 255, .int .u8 255, .int .u8 255, .int .u8 255, .int .u8 255, .int .u8 255, .int .u8 255, .int .u8 0, .int .u8 19, .int .u8 4] ∧ Below w.heap.size w w' := by
  refine (wrap_yes false false false false false false 4 none 0 0 [] w ht (Bytes.nil _ _ _) (by decide)).mono ?_
  rintro e w' ⟨g, rfl, _, ho, hb⟩
  exact ⟨g, rfl, ho, hb⟩
/-- The bytes that a header's form has, or none. -/
def hZ (n k : Int) : List Int := if hbOk n k then hForm n k else []
theorem hZ_len (n k : Int) : (hZ n k).length ≤ 19 := by
  unfold hZ
  split
  · rw [hForm_len]; omega
  · simp
theorem hbOk_k {n k : Int} (h : hbOk n k = true) : 0 ≤ k ∧ k ≤ 255 := by
  simp only [hbOk, Bool.and_eq_true, decide_eq_true_eq] at h
  exact h.2
set_option maxRecDepth 100000 in
theorem hbytes_any (n k : Int) (w : World) :
    Calls Tryd.prog 39 #[.agg #[.int .i64 n, .int .i64 k]] w fun e w' => ∃ A m c, e = .returned (.tuple #[.slice A m c, .bool (hbOk n k)]) ∧ Bytes w' w'.heap.size A m (hZ n k) ∧ Below w.heap.size w w' := by
  cases hk : hbOk n k
  · refine (hbytes_no n k w hk).mono ?_
    rintro e w' ⟨rfl, hb⟩
    exact ⟨_, _, _, rfl, by unfold hZ; rw [hk]; exact Bytes.nil _ _ _, hb⟩
  · refine (hbytes_yes n k w hk).mono ?_
    rintro e w' ⟨g, rfl, hg, ho, hb⟩
    have hB := Bytes.of_owned (xs := hForm n k) ho (hForm_range (hbOk_k hk)) ho.lt
    rw [hForm_len] at hB
    exact ⟨_, _, _, rfl, by unfold hZ; rw [hk]; exact hB, hb⟩
set_option maxRecDepth 100000 in
theorem bytesEq_same (A A' : Option Addr) (n n' c c' : Nat) (xs : List Int) (w : World) (B B' : Nat) (hx : Bytes w B A n xs) (hy : Bytes w B' A' n' xs) (hn : n ≤ 1000000000) (hn' : n' ≤ 1000000000) :
    Calls Tryd.prog 22 #[.slice A n c, .slice A' n' c'] w fun e w' => e = .returned (.bool true) ∧ ∃ m, w.drewN m = w' := by
  refine (bytesEq_any A A' n n' c c' xs xs w B B' hx hy hn hn').mono ?_
  rintro e w' ⟨rfl, h⟩
  exact ⟨by simp, h⟩
theorem own_six4 {W : World} {g : Nat} {T : TypeId} {a0 a1 a2 a3 a4 a5 : Bool} (o : Own W g T #[.bool a0, .bool a1, .bool a2, .bool a3, .bool a4, .bool a5]) :
    W.cell? ⟨g, 0, none⟩ = some (.bool a0) ∧ W.cell? ⟨g, 1, none⟩ = some (.bool a1) ∧ W.cell? ⟨g, 2, none⟩ = some (.bool a2) ∧ W.cell? ⟨g, 3, none⟩ = some (.bool a3) ∧ W.cell? ⟨g, 4, none⟩ = some (.bool a4) ∧ W.cell? ⟨g, 5, none⟩ = some (.bool a5) :=
  ⟨o.cell rfl, o.cell rfl, o.cell rfl, o.cell rfl, o.cell rfl, o.cell rfl⟩
end Go.Proofs.YtgahjchngmojlabDoor

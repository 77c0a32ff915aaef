/- Reads whose outcome does not matter; readers that are nil; slices.Clone of bytes; pairs of ints -/
import Derived.Test.YtmcnpkfeipelgaaGreatDoorRef1
import Derived.WalkSpells
namespace Go.Proofs.YtmcnpkfeipelgaaGreatDoor
open Go.RowKit

theorem Rdr.drewN {w : World} {g p : Nat} {xs : List Int} (h : Rdr w g xs p) (m : Nat) : Rdr (w.drewN m) g xs p := h
theorem Bytes.drewN {w : World} {B n : Nat} {A : Option Addr} {xs : List Int} (h : Bytes w B A n xs) (m : Nat) : Bytes (w.drewN m) B A n xs := h

/-- A call that only draws: 'Draws P f args w v' says so at every number of draws behind w. -/
def Draws (P : Program) (f : FuncId) (args : Array Value) (w : World) (v : Value) : Prop := ∀ m, Calls P f args (w.drewN m) fun e w' => e = .returned v ∧ ∃ k, w' = w.drewN (m + k)
theorem Draws.plain {P : Program} {f : FuncId} {args : Array Value} {w : World} {v : Value} (h : Draws P f args w v) (n : Nat) : Calls P f args (w.drewN n) fun e w'' => e = .returned v ∧ ∃ m, w'' = w.drewN m :=
  (h n).mono fun _ _ ⟨he, _, hk⟩ => ⟨he, _, hk⟩
theorem Draws.add {P : Program} {f : FuncId} {args : Array Value} {w : World} {v : Value} (h : Draws P f args w v) (a n : Nat) : Calls P f args (w.drewN (a + n)) fun e w'' => e = .returned v ∧ ∃ m, w'' = w.drewN (a + m) :=
  (h (a + n)).mono fun _ _ ⟨he, k, hk⟩ => ⟨he, n + k, by rw [hk, Nat.add_assoc]⟩

theorem Draws.of_same {P : Program} {f : FuncId} {args : Array Value} {w : World} {v : Value} (h : ∀ W : World, Calls P f args W fun e w' => e = .returned v ∧ W = w') : Draws P f args w v :=
  fun _ => (h _).mono fun _ _ ⟨he, hw⟩ => ⟨he, 0, hw.symm⟩

set_option maxRecDepth 100000 in
/-- Whatever is read, the reader is a reader; what is left and the offset add up to what they were. -/
theorem take_total (g : Nat) (xs : List Int) (p : Nat) (k : Int) (w : World) (h : Rdr w g xs p) (hl : xs.length ≤ 1000000000) (hp : p ≤ 1000000000) :
    Calls Tryz.prog 37 #[.pointer (some ⟨g, 0, none⟩), .int .i64 k] w fun e w' => ∃ v ys q, e = .returned v ∧ Rdr w' g ys q ∧ ys.length + q = xs.length + p ∧ w.grownBy w' (some g) := by
  by_cases hk : k < 0 ∨ (xs.length : Int) < k
  · exact (take_no g xs p k w h hl hk).mono fun _ _ ⟨he, hw⟩ => by subst hw; exact ⟨_, xs, p, he, h, rfl, World.grownBy.refl _ _⟩
  · exact (take_yes g xs p k w h hl hp (by omega) (by omega)).mono fun _ _ ⟨j, he, _, _, hr, hg⟩ => ⟨_, _, _, he, hr, by simp; omega, hg⟩
set_option maxRecDepth 100000 in
theorem number_total (g : Nat) (xs : List Int) (p : Nat) (k : Int) (w : World) (h : Rdr w g xs p) (hl : xs.length ≤ 1000000000) (hp : p ≤ 1000000000) :
    Calls Tryz.prog 88 #[.pointer (some ⟨g, 0, none⟩), .int .i64 k] w fun e w' => ∃ v ys q, e = .returned v ∧ Rdr w' g ys q ∧ ys.length + q = xs.length + p ∧ w.grownBy w' (some g) := by
  by_cases hk : k < 1 ∨ 4 < k
  · exact (number_bad g k w hk).mono fun _ _ ⟨he, hw⟩ => by subst hw; exact ⟨_, xs, p, he, h, rfl, World.grownBy.refl _ _⟩
  · by_cases hk2 : (xs.length : Int) < k
    · exact (number_no g xs p k w h hl (by omega) (by omega) hk2).mono fun _ _ ⟨he, hw⟩ => by subst hw; exact ⟨_, xs, p, he, h, rfl, World.grownBy.refl _ _⟩
    · exact (number_yes g xs p k w h hl hp (by omega) (by omega) (by omega)).mono fun _ _ ⟨he, hr, hg⟩ => ⟨_, _, _, he, hr, by simp; omega, hg⟩

/-- n pairs of ints at A. -/
def Pairs (w : World) (B : Nat) (A : Option Addr) (n : Nat) (l : List (Int × Int)) : Prop :=
  n = l.length ∧ (l = [] ∨ ∃ b o, A = some ⟨b, o, none⟩ ∧ b < B ∧ ∀ i x y, l[i]? = some (x, y) → w.cell? ⟨b, o + i * 2, none⟩ = some (.int .i64 x) ∧ w.cell? ⟨b, o + i * 2 + 1, none⟩ = some (.int .i64 y))
def pairX (l : List (Int × Int)) (k : Nat) : Int := (l.getD k (0, 0)).1
def pairY (l : List (Int × Int)) (k : Nat) : Int := (l.getD k (0, 0)).2
theorem Pairs.at_ {w : World} {B : Nat} {A : Option Addr} {n : Nat} {l : List (Int × Int)} (h : Pairs w B A n l) {k : Nat} (hk : k < n) :
    ∃ b o, A = some ⟨b, o, none⟩ ∧ b < B ∧ w.cell? ⟨b, o + k * 2, none⟩ = some (.int .i64 (pairX l k)) ∧ w.cell? ⟨b, o + k * 2 + 1, none⟩ = some (.int .i64 (pairY l k)) := by
  obtain ⟨hn, rfl | ⟨b, o, hA, hb, hc⟩⟩ := h
  · simp at hn; omega
  · have hk' : k < l.length := by omega
    have := hc k (pairX l k) (pairY l k) (by simp [pairX, pairY, hk'])
    exact ⟨b, o, hA, hb, this.1, this.2⟩
theorem Pairs.below {w w' : World} {B : Nat} {A : Option Addr} {n : Nat} {l : List (Int × Int)} (h : Pairs w B A n l) (hb : Below B w w') : Pairs w' B A n l := by
  obtain ⟨hn, rfl | ⟨b, o, hA, hlt, hc⟩⟩ := h
  · exact ⟨hn, .inl rfl⟩
  · exact ⟨hn, .inr ⟨b, o, hA, hlt, fun i x y hi => ⟨(hb.cell (p := ⟨b, o + i * 2, none⟩) hlt).trans (hc i x y hi).1, (hb.cell (p := ⟨b, o + i * 2 + 1, none⟩) hlt).trans (hc i x y hi).2⟩⟩⟩

set_option maxRecDepth 100000 in
theorem take_nil (w : World) : Calls Tryz.prog 37 #[.pointer none, .int .i64 0] w fun e w' => ∃ v, e = .returned (.tuple #[v, .bool true]) ∧ Below w.heap.size w w' := by
  go_enter Tryz.func37, Tryz.ntmps37
  go_wp2_with fail
  refine (some_no _).mono ?_
  rintro e w1 ⟨g, rfl, hg, hr, hb1⟩
  go_wp2_with fail
  refine (next_yes _ _ _ 0 _ hr (by simp) (by omega) (by omega) (by simp)).mono ?_
  rintro e w2 ⟨A, rfl, hB, hR, hg2⟩
  have hb2 := bl_only hb1 hg2 hg
  go_wp2_with fail
  have hpt := parts_one (c := (0 : Int).toNat) hB 25
  refine (cat_any _ _ _ _ _ hpt (by omega) (by rw [flat_one]; simp)).mono ?_
  rintro e w3 ⟨rfl, hown, hb3⟩
  go_wp2
  go_ret2
  exact ⟨_, rfl, bl_trans (bl_alloc hb2 _) hb3⟩
set_option maxRecDepth 100000 in
theorem number_nil (w : World) : Calls Tryz.prog 88 #[.pointer none, .int .i64 1] w fun e w' => e = .returned (.tuple #[.int .u32 0, .bool false]) ∧ Below w.heap.size w w' := by
  go_enter Tryz.func88, Tryz.ntmps88
  go_wp2_with fail
  refine (some_no _).mono ?_
  rintro e w1 ⟨g, rfl, hg, hr, hb1⟩
  go_wp2_with fail
  refine (next_no _ _ _ 1 _ hr (by simp) (.inr (by simp))).mono ?_
  rintro e w' ⟨rfl, rfl⟩
  go_wp2
  go_ret2
  exact ⟨rfl, hb1⟩
set_option maxRecDepth 100000 in
theorem at_nil (w : World) : Calls Tryz.prog 85 #[.pointer none] w fun e w' => e = .returned (.int .i64 0) ∧ Below w.heap.size w w' := by
  go_enter Tryz.func85, Tryz.ntmps85
  go_wp2_with fail
  refine (some_no _).mono ?_
  rintro e w1 ⟨g, rfl, hg, hr, hb1⟩
  go_wp2_with fail
  refine (place_any _ _ _ _ hr).mono ?_
  rintro e w' ⟨rfl, rfl⟩
  go_wp2
  go_ret
  exact ⟨rfl, hb1⟩
set_option maxRecDepth 100000 in
theorem left_nil (w : World) : Calls Tryz.prog 33 #[.pointer none] w fun e w' => e = .returned (.int .i64 0) ∧ Below w.heap.size w w' := by
  go_enter Tryz.func33, Tryz.ntmps33
  go_wp2_with fail
  refine (some_no _).mono ?_
  rintro e w1 ⟨g, rfl, hg, hr, hb1⟩
  go_wp2_with fail
  refine (size_any _ _ _ _ hr).mono ?_
  rintro e w' ⟨rfl, rfl⟩
  go_wp2
  go_ret
  exact ⟨rfl, hb1⟩
end Go.Proofs.YtmcnpkfeipelgaaGreatDoor

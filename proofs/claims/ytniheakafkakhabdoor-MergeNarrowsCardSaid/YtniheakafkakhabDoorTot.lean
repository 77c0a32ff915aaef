/- Reads whose outcome does not matter; readers that are nil; slices.Clone of bytes; pairs of ints -/
import Derived.Test.YtniheakafkakhabDoorRef1
import Derived.WalkSpells
namespace Go.Proofs.YtniheakafkakhabDoor
open Go.RowKit

theorem Bytes.drewN {w : World} {B n : Nat} {A : Option Addr} {xs : List Int} (h : Bytes w B A n xs) (m : Nat) : Bytes (w.drewN m) B A n xs := h

/-- A call that only draws: 'Draws P f args w v' says so at every number of draws behind w. -/
def Draws (P : Program) (f : FuncId) (args : Array Value) (w : World) (v : Value) : Prop := ∀ m, Calls P f args (w.drewN m) fun e w' => e = .returned v ∧ ∃ k, w' = w.drewN (m + k)
theorem Draws.plain {P : Program} {f : FuncId} {args : Array Value} {w : World} {v : Value} (h : Draws P f args w v) (n : Nat) : Calls P f args (w.drewN n) fun e w'' => e = .returned v ∧ ∃ m, w'' = w.drewN m :=
  (h n).mono fun _ _ ⟨he, _, hk⟩ => ⟨he, _, hk⟩
theorem Draws.add {P : Program} {f : FuncId} {args : Array Value} {w : World} {v : Value} (h : Draws P f args w v) (a n : Nat) : Calls P f args (w.drewN (a + n)) fun e w'' => e = .returned v ∧ ∃ m, w'' = w.drewN (a + m) :=
  (h (a + n)).mono fun _ _ ⟨he, k, hk⟩ => ⟨he, n + k, by rw [hk, Nat.add_assoc]⟩

theorem Draws.of_same {P : Program} {f : FuncId} {args : Array Value} {w : World} {v : Value} (h : ∀ W : World, Calls P f args W fun e w' => e = .returned v ∧ W = w') : Draws P f args w v :=
  fun _ => (h _).mono fun _ _ ⟨he, hw⟩ => ⟨he, 0, hw.symm⟩

/-- n pairs of ints at A. -/
def Pairs (w : World) (B : Nat) (A : Option Addr) (n : Nat) (l : List (Int × Int)) : Prop :=
  n = l.length ∧ (l = [] ∨ ∃ b o, A = some ⟨b, o, none⟩ ∧ b < B ∧ ∀ i x y, l[i]? = some (x, y) → w.cell? ⟨b, o + i * 2, none⟩ = some (.int .i64 x) ∧ w.cell? ⟨b, o + i * 2 + 1, none⟩ = some (.int .i64 y))
def pairX (l : List (Int × Int)) (k : Nat) : Int := (l.getD k (0, 0)).1
def pairY (l : List (Int × Int)) (k : Nat) : Int := (l.getD k (0, 0)).2
theorem Pairs.at_ {w : World} {B : Nat} {A : Option Addr} {n : Nat} {l : List (Int × Int)} (h : Pairs w B A n l) {k : Nat} (hk : k < n) :
    ∃ b o, A = some ⟨b, o, none⟩ ∧ b < B ∧ w.cell? ⟨b, o + k * 2, none⟩ = some (.int .i64 (pairX l k)) ∧ w.cell? ⟨b, o + k * 2 + 1, none⟩ = some (.int .i64 (pairY l k)) := by
  obtain ⟨hn, rfl | ⟨b, o, hA, hb, hc⟩⟩ := h
  · simp at hn; omega
  · have hk' : k < l.length := by omega
    have := hc k (pairX l k) (pairY l k) (by simp [pairX, pairY, hk'])
    exact ⟨b, o, hA, hb, this.1, this.2⟩
theorem Pairs.below {w w' : World} {B : Nat} {A : Option Addr} {n : Nat} {l : List (Int × Int)} (h : Pairs w B A n l) (hb : Below B w w') : Pairs w' B A n l := by
  obtain ⟨hn, rfl | ⟨b, o, hA, hlt, hc⟩⟩ := h
  · exact ⟨hn, .inl rfl⟩
  · exact ⟨hn, .inr ⟨b, o, hA, hlt, fun i x y hi => ⟨(hb.cell (p := ⟨b, o + i * 2, none⟩) hlt).trans (hc i x y hi).1, (hb.cell (p := ⟨b, o + i * 2 + 1, none⟩) hlt).trans (hc i x y hi).2⟩⟩⟩

end Go.Proofs.YtniheakafkakhabDoor

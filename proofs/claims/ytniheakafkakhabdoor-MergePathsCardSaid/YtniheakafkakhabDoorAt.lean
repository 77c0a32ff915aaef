/- Attributes; basic.Plain, peerageref07.Bare -/
import Derived.Test.YtniheakafkakhabDoorTen
import Derived.Deep.RegionHeld3
import Derived.Deep.RegionLaw
import Derived.Laws.BytesArg
import Derived.Test.YtniheakafkakhabDoorPfxM
import Derived.Laws.CopyOwn
namespace Go.Proofs.YtniheakafkakhabDoor
open Go.RowKit

theorem at_one (k N : Int) : (#[Value.int .i64 k, .bool false, .int .u32 N, .int .u32 0, .slice none 0 0, .slice none 0 0, .slice none 0 0, .int .i64 0, .slice none 0 0] : Array Value).all (·.oneCell') = true := by simp [Value.oneCell']
/-- An attribute, as far as layer 7 looks into it. -/
structure At where
  k : Int
  p : Bool
  N : Int
  M : Int
  A1 : Option Addr
  n1 : Nat
  c1 : Nat
  A2 : Option Addr
  n2 : Nat
  c2 : Nat
  A3 : Option Addr
  n3 : Nat
  c3 : Nat
  f : Int
  A4 : Option Addr
  n4 : Nat
  c4 : Nat
def atc (a : At) : Array Value := #[.int .i64 a.k, .bool a.p, .int .u32 a.N, .int .u32 a.M, .slice a.A1 a.n1 a.c1, .slice a.A2 a.n2 a.c2, .slice a.A3 a.n3 a.c3, .int .i64 a.f, .slice a.A4 a.n4 a.c4]
def bareB (a : At) : Bool := decide (a.n1 = 0 ∧ a.n2 = 0 ∧ a.n3 = 0 ∧ a.f = 0 ∧ a.n4 = 0)
def at0 (k N : Int) : At := ⟨k, false, N, 0, none, 0, 0, none, 0, 0, none, 0, 0, 0, none, 0, 0⟩
theorem ret_boolA {a b : Bool} (h : a = b) : Ending.returned (.bool a) = .returned (.bool b) := by rw [h]
/-- Whether an attribute has no other fields than some numbers. -/
def plB (a : At) (ls : List Int) : Bool := decide (ls.length ≤ 2 ∧ a.N = nth ls 0 ∧ a.M = nth ls 1) && bareB a
/-- n numbers of four bytes at A. -/
def U32s (w : World) (B : Nat) (A : Option Addr) (n : Nat) (ls : List Int) : Prop := n = ls.length ∧ Shows w B A (ls.map (Value.int .u32))
theorem U32s.below {w w' : World} {B n : Nat} {A : Option Addr} {ls : List Int} (h : U32s w B A n ls) (hb : Below B w w') : U32s w' B A n ls := ⟨h.1, h.2.below hb⟩
theorem U32s.more {w : World} {B B' n : Nat} {A : Option Addr} {ls : List Int} (h : U32s w B A n ls) (hB : B ≤ B') : U32s w B' A n ls := ⟨h.1, h.2.more hB⟩
theorem at_cells {W : World} {g : Nat} {T : TypeId} {a b c d e f h i j : Value} (o : Own W g T #[a, b, c, d, e, f, h, i, j]) : W.cell? ⟨g, 0, none⟩ = some a ∧ W.cell? ⟨g, 1, none⟩ = some b ∧ W.cell? ⟨g, 2, none⟩ = some c ∧ W.cell? ⟨g, 3, none⟩ = some d ∧ W.cell? ⟨g, 4, none⟩ = some e ∧ W.cell? ⟨g, 5, none⟩ = some f ∧ W.cell? ⟨g, 6, none⟩ = some h ∧ W.cell? ⟨g, 7, none⟩ = some i ∧ W.cell? ⟨g, 8, none⟩ = some j := ⟨o.cell rfl, o.cell rfl, o.cell rfl, o.cell rfl, o.cell rfl, o.cell rfl, o.cell rfl, o.cell rfl, o.cell rfl⟩
theorem own_sp {w : World} {g : Nat} {T : TypeId} {cs ds : List Value} (h : Hid (w.heap[g]? = some (.cells cs.toArray T (0, 0)))) (e : cs = ds) : Own w g T ds.toArray := by
  rw [← e]
  exact h.out
set_option maxRecDepth 100000 in
theorem pair_info : (Tryd.prog.info? 40).map (·.size) = some 1 := by kernel_rfl
end Go.Proofs.YtniheakafkakhabDoor

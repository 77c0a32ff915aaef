/- flag.Canonical, peerageref10.Canonical -/
import Derived.Test.YtmcnpkfeipelgaaGreatDoorFlB
import Derived.Test.YtmcnpkfeipelgaaGreatDoorPfxM
namespace Go.Proofs.YtmcnpkfeipelgaaGreatDoor
open Go.RowKit

def canC (k : Int) : Int := if flagKnown k then flagCls k else 192
def canOk (k : Int) (p : Bool) (n : Int) : Bool := decide (0 ≤ k ∧ k ≤ 255) && decide (0 ≤ n) && decide (n ≤ 65535) && !(p && (canC k != 192))
def canF (k : Int) (p : Bool) (n : Int) : Int := canC k + (if p then 32 else 0) + (if 255 < n then 16 else 0)
theorem canC_cases (k : Int) : canC k = 64 ∨ canC k = 128 ∨ canC k = 192 := by
  unfold canC
  rcases flagCls_cases k with h | h | h | h
  · rw [h]; split <;> simp
  · rw [h]; split <;> simp
  · rw [h]; split <;> simp
  · rw [show flagKnown k = false by unfold flagKnown; rw [h]; rfl]; simp
/-- The head that Canonical returns: its flags, type, length. -/
def canH (k : Int) (p : Bool) (n : Int) : Array Value := if canOk k p n then #[.int .i64 (canF k p n), .int .i64 k, .int .i64 n] else #[.int .i64 0, .int .i64 0, .int .i64 0]
theorem canF_val (k : Int) (p : Bool) (n : Int) : ∃ c, canC k = c ∧ canF k p n = c + (if p then 32 else 0) + (if 255 < n then 16 else 0) := ⟨_, rfl, rfl⟩
theorem or_flags : bits BinOp.or IntKind.i64 64 16 = 80 ∧ bits BinOp.or IntKind.i64 128 16 = 144 ∧ bits BinOp.or IntKind.i64 192 16 = 208 ∧ bits BinOp.or IntKind.i64 192 32 = 224 ∧ bits BinOp.or IntKind.i64 224 16 = 240 := by decide




theorem canH_ok {k : Int} {p : Bool} {n c F : Int} (hc : canC k = c) (h1 : 0 ≤ k ∧ k ≤ 255) (h2 : 0 ≤ n) (h3 : n ≤ 65535) (h4 : p = true → c = 192) (hF : F = c + (if p = true then 32 else 0) + (if 255 < n then 16 else 0)) :
    canH k p n = #[.int .i64 F, .int .i64 k, .int .i64 n] ∧ canOk k p n = true := by
  have e : canOk k p n = true := by
    unfold canOk
    rw [hc, decide_eq_true h1, decide_eq_true h2, decide_eq_true h3]
    cases p
    · rfl
    · rw [h4 rfl]; rfl
  refine ⟨?_, e⟩
  unfold canH
  rw [e, if_pos rfl]
  unfold canF
  rw [hc, hF]
theorem canH_no {k : Int} {p : Bool} {n c : Int} (hc : canC k = c) (h : ¬(0 ≤ k ∧ k ≤ 255) ∨ n < 0 ∨ 65535 < n ∨ (p = true ∧ c ≠ 192)) :
    canH k p n = #[.int .i64 0, .int .i64 0, .int .i64 0] ∧ canOk k p n = false := by
  have e : canOk k p n = false := by
    unfold canOk
    rw [hc]
    rcases h with h | h | h | ⟨h, h'⟩
    · rw [decide_eq_false h]; rfl
    · rw [decide_eq_false (show ¬ 0 ≤ n by omega)]; simp
    · rw [decide_eq_false (show ¬ n ≤ 65535 by omega)]; simp
    · rw [h]; simp [h']
  refine ⟨?_, e⟩
  unfold canH
  rw [e]; rfl

theorem own_three {w : World} {g : Nat} {t : TypeId} {a b c : Value} (h : Own w g t #[a, b, c]) (x y z : Value) :
    Own (((w.setCell ⟨g, 0, none⟩ x).setCell ⟨g, 1, none⟩ y).setCell ⟨g, 2, none⟩ z) g t #[x, y, z] := by
  have h2 := ((h.set_ 0 x).set_ 1 y).set_ 2 z
  simpa using h2
set_option maxRecDepth 100000 in
theorem fhead_desc : Tryz.prog.underlying 42 = some (.struct (Tryz.prog.fieldsOf 42)) := by kernel_rfl
set_option maxRecDepth 100000 in
theorem fhead_info (a b c : Value) : (Tryz.prog.info? 42).map (·.size) = some (#[a, b, c] : Array Value).size := by kernel_rfl
set_option maxRecDepth 100000 in
theorem rhead_desc : Tryz.prog.underlying 27 = some (.struct (Tryz.prog.fieldsOf 27)) := by kernel_rfl
set_option maxRecDepth 100000 in
theorem rhead_info (a b c : Value) : (Tryz.prog.info? 27).map (·.size) = some (#[a, b, c] : Array Value).size := by kernel_rfl

end Go.Proofs.YtmcnpkfeipelgaaGreatDoor

/- Reads whose outcome does not matter; readers that are nil; slices.Clone of bytes; pairs of ints -/
import Derived.Test.YtgahjchngmojlabDoorRef1
import Derived.WalkSpells
namespace Go.Proofs.YtgahjchngmojlabDoor
open Go.RowKit

theorem Bytes.drewN {w : World} {B n : Nat} {A : Option Addr} {xs : List Int} (h : Bytes w B A n xs) (m : Nat) : Bytes (w.drewN m) B A n xs := h

/-- A call that only draws: 'Draws P f args w v' says so at every number of draws behind w. -/
def Draws (P : Program) (f : FuncId) (args : Array Value) (w : World) (v : Value) : Prop := ∀ m, Calls P f args (w.drewN m) fun e w' => e = .returned v ∧ ∃ k, w' = w.drewN (m + k)
theorem Draws.plain {P : Program} {f : FuncId} {args : Array Value} {w : World} {v : Value} (h : Draws P f args w v) (n : Nat) : Calls P f args (w.drewN n) fun e w'' => e = .returned v ∧ ∃ m, w'' = w.drewN m :=
  (h n).mono fun _ _ ⟨he, _, hk⟩ => ⟨he, _, hk⟩
theorem Draws.add {P : Program} {f : FuncId} {args : Array Value} {w : World} {v : Value} (h : Draws P f args w v) (a n : Nat) : Calls P f args (w.drewN (a + n)) fun e w'' => e = .returned v ∧ ∃ m, w'' = w.drewN (a + m) :=
  (h (a + n)).mono fun _ _ ⟨he, k, hk⟩ => ⟨he, n + k, by rw [hk, Nat.add_assoc]⟩

theorem Draws.of_same {P : Program} {f : FuncId} {args : Array Value} {w : World} {v : Value} (h : ∀ W : World, Calls P f args W fun e w' => e = .returned v ∧ W = w') : Draws P f args w v :=
  fun _ => (h _).mono fun _ _ ⟨he, hw⟩ => ⟨he, 0, hw.symm⟩

/-- n pairs of ints at A. -/
def Pairs (w : World) (B : Nat) (A : Option Addr) (n : Nat) (l : List (Int × Int)) : Prop :=
  n = l.length ∧ (l = [] ∨ ∃ b o, A = some ⟨b, o, none⟩ ∧ b < B ∧ ∀ i x y, l[i]? = some (x, y) → w.cell? ⟨b, o + i * 2, none⟩ = some (.int .i64 x) ∧ w.cell? ⟨b, o + i * 2 + 1, none⟩ = some (.int .i64 y))
def pairX (l : List (Int × Int)) (k : Nat) : Int := (l.getD k (0, 0)).1
def pairY (l : List (Int × Int)) (k : Nat) : Int := (l.getD k (0, 0)).2
theorem Pairs.at_ {w : World} {B : Nat} {A : Option Addr} {n : Nat} {l : List (Int × Int)} (h : Pairs w B A n l) {k : Nat} (hk : k < n) :
    ∃ b o, A = some ⟨b, o, none⟩ ∧ b < B ∧ w.cell? ⟨b, o + k * 2, none⟩ = some (.int .i64 (pairX l k)) ∧ w.cell? ⟨b, o + k * 2 + 1, none⟩ = some (.int .i64 (pairY l k)) := by
  obtain ⟨hn, rfl | ⟨b, o, hA, hb, hc⟩⟩ := h
  · simp at hn; omega
  · have hk' : k < l.length := by omega
    have := hc k (pairX l k) (pairY l k) (by simp [pairX, pairY, hk'])
    exact ⟨b, o, hA, hb, this.1, this.2⟩
theorem Pairs.below {w w' : World} {B : Nat} {A : Option Addr} {n : Nat} {l : List (Int × Int)} (h : Pairs w B A n l) (hb : Below B w w') : Pairs w' B A n l := by
  obtain ⟨hn, rfl | ⟨b, o, hA, hlt, hc⟩⟩ := h
  · exact ⟨hn, .inl rfl⟩
  · exact ⟨hn, .inr ⟨b, o, hA, hlt, fun i x y hi => ⟨(hb.cell (p := ⟨b, o + i * 2, none⟩) hlt).trans (hc i x y hi).1, (hb.cell (p := ⟨b, o + i * 2 + 1, none⟩) hlt).trans (hc i x y hi).2⟩⟩⟩

set_option maxRecDepth 100000 in
set_option maxHeartbeats 400000 in
theorem clone_any (A : Option Addr) (n c : Nat) (xs : List Int) (w : World) (hx : Bytes w w.heap.size A n xs) (hn : n ≤ 1000000000) :
    Calls Tryd.prog 24 #[.slice A n c] w fun e w' => ∃ v, e = .returned v ∧ w'.ownsRow w.heap.size 5 1 v n (xs.map (Value.int .u8)) ∧ Below w.heap.size w w' := by
  have hnil : ∀ W, (binOp .eql 26 (.slice A n c) (.slice none 0 0)).run Tryd.prog W = .ok (.bool A.isNone) W := fun W => Lib.run_eql_slice_nil W 26 5 A n c 0 0 Tryd.underlying26
  have HN := Lib.hid hx.1
  rcases A with _ | a
  · have hxs : xs = [] := by have := hx.2.2.none_; simpa using this
    subst hxs
    have h0 : n = 0 := HN.out
    subst h0
    go_enter Tryd.func24, Tryd.ntmps24
    go_wp2
    go_ret
    exact ⟨_, rfl, World.ownsRow_nil _ _ _ _, bl_refl w⟩
  · have hb0 : Below w.heap.size w (w.alloc (.cells #[] 5)) := bl_alloc (bl_refl w) _
    have hown0 : (w.alloc (.cells #[] 5)).ownsRow w.heap.size 5 1 (.slice (some ⟨w.heap.size, 0, none⟩) 0 0) 0 [] := World.ownsRow_made w #[] 0 (Nat.le_refl _) (by unfold maxLen; omega) rfl
    have hx1 := (hx.below hb0).2.2
    go_enter Tryd.func24, Tryd.ntmps24
    go_wp2_with (at_builtin; refine wpList_append_grow _ rfl _ _ rfl sl_bytes w.heap.size _ 0 _ rfl hown0 w.heap.size _ _ _ _ rfl (by have := HN.out; simp; omega) hx1 ints1 (by unfold maxLen; omega) (by omega) hb0.size ?_; intro v1 w1 hown1 hgrow1)
    have hb1 : Below w.heap.size w w1 := hb0.grown hgrow1 hb0.size (own_base hown0)
    go_ret
    exact ⟨_, rfl, by simpa using hown1, hb1⟩

end Go.Proofs.YtgahjchngmojlabDoor

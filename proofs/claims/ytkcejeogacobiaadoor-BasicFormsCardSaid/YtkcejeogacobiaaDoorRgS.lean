/- Calls in a region that draws its order: pure ones, bytes compared -/
import Derived.Test.YtkcejeogacobiaaDoorTen
import Derived.Test.YtkcejeogacobiaaDoorEq
namespace Go.Proofs.YtkcejeogacobiaaDoor
open Go.RowKit Go.Sort

set_option maxRecDepth 100000 in
theorem rg_pureS {w : World} {v : Value} {f : FuncId} {args : Array Value} (h : ∀ W, Calls Tryd.prog f args W fun e w' => e = .returned v ∧ W = w') (d : Nat) (os : Array Obj) :
    Calls Tryd.prog f args (grow (redrawn w d) os) fun e w'' => e = .returned v ∧ ∃ p : Regrown, w'' = grow (redrawn w p.d) p.os :=
  rg_of (w := w) (fun W _ => (h W).mono (fun e w' q => ⟨q.1, by rw [← q.2]; exact bl_refl W⟩)) d os
set_option maxRecDepth 100000 in
theorem bytesEq_rgS {w : World} (A A' : Option Addr) (n n' c c' : Nat) (xs ys : List Int) (q : Bool) (hx : Bytes w w.heap.size A n xs) (hy : Bytes w w.heap.size A' n' ys) (hn : n ≤ 1000000000) (hn' : n' ≤ 1000000000) (hq : decide (xs = ys) = q) (d : Nat) (os : Array Obj) :
    Calls Tryd.prog 20 #[.slice A n c, .slice A' n' c'] (grow (redrawn w d) os) fun e w'' => e = .returned (.bool q) ∧ ∃ p : Regrown, w'' = grow (redrawn w p.d) p.os :=
  rg_of (w := w) (fun W hW => (bytesEq_any A A' n n' c c' xs ys W w.heap.size w.heap.size (hx.below hW) (hy.below hW) hn hn').mono (fun e w' h => ⟨by rw [h.1, hq], by obtain ⟨m, rfl⟩ := h.2; exact bl_drewN (bl_refl W) m⟩)) d os
end Go.Proofs.YtkcejeogacobiaaDoor

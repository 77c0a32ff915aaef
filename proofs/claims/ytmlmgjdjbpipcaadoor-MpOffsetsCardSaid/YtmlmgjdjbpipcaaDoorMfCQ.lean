/- MpFamilies -/
import Derived.Test.YtmlmgjdjbpipcaaDoorMfBQ
namespace Go.Proofs.YtmlmgjdjbpipcaaDoor
open Go.RowKit Go.Sort

set_option maxRecDepth 100000 in
/-- Equal bytes compared in a region that draws its order. -/
theorem bytesEq_rgM {w : World} (A A' : Option Addr) (n n' c c' : Nat) (xs : List Int) (hx : Bytes w w.heap.size A n xs) (hy : Bytes w w.heap.size A' n' xs) (hn : n ≤ 1000000000) (hn' : n' ≤ 1000000000) (d : Nat) (os : Array Obj) :
    Calls Tryd.prog 13 #[.slice A n c, .slice A' n' c'] (grow (redrawn w d) os) fun e w'' => e = .returned (.bool true) ∧ ∃ p : Regrown, w'' = grow (redrawn w p.d) p.os :=
  rg_of (w := w) (fun W hW => (bytesEq_any A A' n n' c c' xs xs W w.heap.size w.heap.size (hx.below hW) (hy.below hW) hn hn').mono (fun e w' h => ⟨by rw [h.1]; simp, by obtain ⟨m, rfl⟩ := h.2; exact bl_drewN (bl_refl W) m⟩)) d os
set_option maxRecDepth 100000 in
theorem rcodes_yes (f : Int) (w : World) (hf : f = 1 ∨ f = 2) :
    Calls Tryd.prog 30 #[.int .i64 f] w fun e w' => ∃ g, e = .returned (.tuple #[.slice (some ⟨g, 0, none⟩) 3 3, .bool true]) ∧ Own w' g 5 #[.int .u8 0, .int .u8 f, .int .u8 1] ∧ Below w.heap.size w w' := by
  rcases hf with rfl | rfl
  · have o := Own.new w 5 #[.int .u8 0, .int .u8 1, .int .u8 1]
    go_enter Tryd.func30, Tryd.ntmps30
    go_wp2
    go_ret2
    exact ⟨_, rfl, o, bl_alloc (bl_refl w) _⟩
  · have o := Own.new w 5 #[.int .u8 0, .int .u8 2, .int .u8 1]
    go_enter Tryd.func30, Tryd.ntmps30
    go_wp2
    go_ret2
    exact ⟨_, rfl, o, bl_alloc (bl_refl w) _⟩
set_option maxRecDepth 100000 in
theorem rcodes_no (f : Int) (w : World) (h1 : f ≠ 1) (h2 : f ≠ 2) :
    Calls Tryd.prog 30 #[.int .i64 f] w fun e w' => e = .returned (.tuple #[.slice none 0 0, .bool false]) ∧ w = w' := by
  have q1 : (f != 1) = true := by simpa using h1
  have q2 : (f != 2) = true := by simpa using h2
  go_enter Tryd.func30, Tryd.ntmps30
  go_wp2
  go_ret2
  exact ⟨rfl, rfl⟩
set_option maxRecDepth 100000 in
theorem fam_rg {w : World} (a c : Int) (hf : Fams w) (d : Nat) (os : Array Obj) : Calls Tryd.prog 45 #[.int .u32 a, .int .u32 c] (grow (redrawn w d) os) fun e w'' => e = .returned (.int .i64 (famOf a c)) ∧ ∃ p : Regrown, w'' = grow (redrawn w p.d) p.os :=
  rg_of (w := w) (fun W hW => (mfamily_any a c W (hf.below hW)).mono (fun e w' h => ⟨h.1, by rw [← h.2]; exact bl_refl W⟩)) d os
end Go.Proofs.YtmlmgjdjbpipcaaDoor

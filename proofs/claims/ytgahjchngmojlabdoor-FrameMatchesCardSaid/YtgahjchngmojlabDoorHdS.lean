/- peerageref01.Same, peerageref04.Same at what is equal -/
import Derived.Test.YtgahjchngmojlabDoorHdG
import Derived.Test.YtgahjchngmojlabDoorBstr
import Derived.Laws.BytesArg
import Derived.Test.YtgahjchngmojlabDoorHdH
namespace Go.Proofs.YtgahjchngmojlabDoor
open Go.RowKit

set_option maxRecDepth 100000 in
theorem rsame1_same (A A2 : Option Addr) (n n2 c c2 : Nat) (xs : List Int) (w : World) (B B2 : Nat) (hx : Bytes w B A n xs) (hy : Bytes w B2 A2 n2 xs) :
    Calls Tryd.prog 27 #[.slice A n c, .slice A2 n2 c2] w fun e w' => e = .returned (.bool true) ∧ w = w' := by
  have h1 := bytes_str (c := c) hx
  have h2 := bytes_str (c := c2) hy
  generalize strOfNums xs = s at h1 h2
  go_enter Tryd.func27, Tryd.ntmps27
  go_wp2
  go_ret
  exact ⟨by simp, rfl⟩
set_option maxRecDepth 100000 in
set_option maxHeartbeats 800000 in
theorem vsame_same (a b c d : Int) (A A2 : Option Addr) (n n2 c1 c2 : Nat) (xs : List Int) (w : World) (hx : Bytes w w.heap.size A n xs) (hy : Bytes w w.heap.size A2 n2 xs) :
    Calls Tryd.prog 28 #[.agg #[.int .i64 a, .int .i64 b, .int .i64 c, .slice A n c1, .int .i64 d], .agg #[.int .i64 a, .int .i64 b, .int .i64 c, .slice A2 n2 c2, .int .i64 d]] w fun e w' => e = .returned (.bool true) ∧ Below w.heap.size w w' := by
  have hb := bl_alloc (bl_alloc (bl_refl w) (.cells #[.int .i64 a, .int .i64 b, .int .i64 c, .slice A n c1, .int .i64 d] 49)) (.cells #[.int .i64 a, .int .i64 b, .int .i64 c, .slice A2 n2 c2, .int .i64 d] 49)
  have hx1 := hx.below hb
  have hy1 := hy.below hb
  have qa : (a == a) = true := by simp
  have qb : (b == b) = true := by simp
  have qc : (c == c) = true := by simp
  have qd : (d == d) = true := by simp
  go_enter Tryd.func28, Tryd.ntmps28
  go_wp2_with fail
  refine (rsame1_same _ _ _ _ _ _ _ _ _ _ hx1 hy1).mono ?_
  rintro e w1 ⟨rfl, rfl⟩
  go_wp2
  go_ret
  exact ⟨rfl, hb⟩
end Go.Proofs.YtgahjchngmojlabDoor

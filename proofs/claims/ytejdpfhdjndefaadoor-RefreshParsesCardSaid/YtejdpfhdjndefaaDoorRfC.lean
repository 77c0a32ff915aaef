/- peerageref19.Valid, Make -/
import Derived.Test.YtejdpfhdjndefaaDoorRfB
namespace Go.Proofs.YtejdpfhdjndefaaDoor
open Go.RowKit Extern.Stop

set_option maxRecDepth 100000 in
set_option maxHeartbeats 800000 in
theorem rrfvalid_any (a b c : Int) (w : World) :
    Calls Tryd.prog 43 #[.agg #[.int .i64 a, .int .i64 b, .int .i64 c]] w fun e w' => e = .returned (.bool (rfOk a b c)) ∧ Below w.heap.size w w' := by
  have hb0 := bl_alloc (bl_refl w) (.cells #[.int .i64 a, .int .i64 b, .int .i64 c] 55)
  have HO := Lib.hid (show rfOk a b c = ((((((decide (0 ≤ a) && decide (a ≤ 65535)) && decide (0 ≤ b)) && decide (b ≤ 255)) && decide (0 ≤ c)) && decide (c ≤ 255))) by
    unfold rfOk
    simp only [Bool.decide_and, Bool.and_assoc])
  go_enter Tryd.func43, Tryd.ntmps43
  go_wp2
  all_goals go_ret
  all_goals refine ⟨?_, hb0⟩
  all_goals rw [HO.out]
  all_goals first | rfl | (simp_all; done) | (simp_all; omega)
def mkOk (f s : Int) : Bool := (decide (f = 1) || decide (f = 2)) && (decide (0 ≤ s) && decide (s ≤ 255))
def mkR (f s : Int) : Value := if mkOk f s then .agg #[.int .i64 f, .int .i64 s, .int .i64 1] else .agg #[.int .i64 0, .int .i64 0, .int .i64 0]
set_option maxRecDepth 100000 in
theorem rrfmake_yes (f s : Int) (w : World) (hf : f = 1 ∨ f = 2) (h0 : 0 ≤ s) (h1 : s ≤ 255) :
    Calls Tryd.prog 29 #[.int .i64 f, .int .i64 s] w fun e w' => e = .returned (.tuple #[.agg #[.int .i64 f, .int .i64 s, .int .i64 1], .bool true]) ∧ Below w.heap.size w w' := by
  have d0 : decide (s < 0) = false := by simp; omega
  have d1 : decide (255 < s) = false := by simp; omega
  have o0 := Own.new w 55 #[.int .i64 f, .int .i64 s, .int .i64 1]
  have hb0 := bl_alloc (bl_refl w) (.cells #[.int .i64 f, .int .i64 s, .int .i64 1] 55)
  have c0 := o0.cell (i := 0) (v := .int .i64 f) rfl
  have c1 := o0.cell (i := 1) (v := .int .i64 s) rfl
  have c2 := o0.cell (i := 2) (v := .int .i64 1) rfl
  rcases hf with rfl | rfl
  · go_enter Tryd.func29, Tryd.ntmps29
    go_wp2
    exact bodyPost_ret (v := .tuple #[.agg #[.int .i64 1, .int .i64 s, .int .i64 1], .bool true]) (by simp [results, Tryd.results29, go_sem, c0, c1, c2]) rfl ⟨rfl, hb0⟩
  · go_enter Tryd.func29, Tryd.ntmps29
    go_wp2
    exact bodyPost_ret (v := .tuple #[.agg #[.int .i64 2, .int .i64 s, .int .i64 1], .bool true]) (by simp [results, Tryd.results29, go_sem, c0, c1, c2]) rfl ⟨rfl, hb0⟩
set_option maxRecDepth 100000 in
set_option maxHeartbeats 800000 in
theorem rrfmake_no (f s : Int) (w : World) (hk : ¬ ((f = 1 ∨ f = 2) ∧ 0 ≤ s ∧ s ≤ 255)) :
    Calls Tryd.prog 29 #[.int .i64 f, .int .i64 s] w fun e w' => e = .returned (.tuple #[.agg #[.int .i64 0, .int .i64 0, .int .i64 0], .bool false]) ∧ Below w.heap.size w w' := by
  have o0 := Own.new w 55 #[.int .i64 0, .int .i64 0, .int .i64 0]
  have hb0 := bl_alloc (bl_refl w) (.cells #[.int .i64 0, .int .i64 0, .int .i64 0] 55)
  have c0 := o0.cell (i := 0) (v := .int .i64 0) rfl
  have c1 := o0.cell (i := 1) (v := .int .i64 0) rfl
  have c2 := o0.cell (i := 2) (v := .int .i64 0) rfl
  have HK := Lib.hid hk
  clear hk
  go_enter Tryd.func29, Tryd.ntmps29
  go_wp2
  all_goals first
    | (exfalso; have hk := HK.out; omega)
    | exact bodyPost_ret (v := .tuple #[.agg #[.int .i64 0, .int .i64 0, .int .i64 0], .bool false]) (by simp [results, Tryd.results29, go_sem, c0, c1, c2]) rfl ⟨rfl, hb0⟩
end Go.Proofs.YtejdpfhdjndefaaDoor

/- peeragelaw03.alive -/
import Derived.Test.YtmicpiaflgfojaaForm
import Derived.Test.YtmicpiaflgfojaaRteq
import Derived.Test.YtmicpiaflgfojaaEq
namespace Go.Proofs.Ytmicpiaflgfojaa
open Go.RowKit

def r5 : Rt := ⟨5, 1, 8, [10, 0, 0, 0, 0, 0, 0, 0, 0, 0, 0, 0, 0, 0, 0, 0]⟩
theorem rt_five : rt r5 = #[.int .u32 5, .int .i64 1, .int .i64 8, .int .u8 10, .int .u8 0, .int .u8 0, .int .u8 0, .int .u8 0, .int .u8 0, .int .u8 0, .int .u8 0, .int .u8 0, .int .u8 0, .int .u8 0, .int .u8 0, .int .u8 0, .int .u8 0, .int .u8 0, .int .u8 0] := rfl
theorem r5_ok : r5.Ok := by
  refine ⟨⟨rfl, ?_⟩, by show (0 : Int) ≤ 5; omega, by show (5 : Int) ≤ 4294967295; omega⟩
  intro x hx
  simp [r5] at hx
  omega
theorem r5_valid : [r5].all (rtOk 1 true) = true := by decide +kernel
theorem r5_form : formAll true [r5] = [0, 0, 0, 5, 8, 10] := by decide +kernel
theorem routes_one {w : World} {g : Nat} {t : TypeId} {r : Rt} (h : Own w g t (rt r)) (ho : r.Ok) : Routes w w.heap.size (some ⟨g, 0, none⟩) 1 [r] := by
  refine ⟨rfl, by intro q hq; rw [List.mem_singleton] at hq; subst hq; exact ho, .inr ⟨g, 0, rfl, h.lt, ?_⟩⟩
  intro i q hi j v hv
  match i, hi with
  | 0, hi =>
    have e : r = q := by simpa using hi
    subst e
    have := h.cell (i := j) (v := v) (by simpa using hv)
    simpa using this
  | i + 1, hi => simp at hi

set_option maxHeartbeats 800000 in
set_option maxRecDepth 100000 in
theorem alive3_any (w : World) : Calls Try.prog 5 #[] w fun e w' => e = .returned (.bool true) ∧ Below w.heap.size w w' := by
  have h5 := rt_five.symm
  have ho := Own.new w 31 (rt r5)
  have hb0 := bl_alloc (bl_refl w) (.cells (rt r5) 31)
  have hR := routes_one ho r5_ok
  go_enter Try.func5, Try.ntmps5
  go_wp2_with fail
  refine (nbytes_true 1 _ _ _ [r5] _ hR (by omega) r5_valid).mono ?_
  rw [r5_form]
  rintro e w1 ⟨g, rfl, hg, hown, hb1⟩
  have hb2 := bl_trans hb0 hb1
  have hby := Bytes.of_owned hown (by intro x hx; simp at hx; omega) hown.lt
  go_wp2_with fail
  have o2 := Own.new w1 5 #[.int .u8 0, .int .u8 0, .int .u8 0, .int .u8 5, .int .u8 8, .int .u8 10]
  have hb3 := bl_alloc (bl_refl w1) (.cells #[.int .u8 0, .int .u8 0, .int .u8 0, .int .u8 5, .int .u8 8, .int .u8 10] 5)
  refine (bytesEq_any _ _ _ _ _ _ [0, 0, 0, 5, 8, 10] [0, 0, 0, 5, 8, 10] _ _ _ (hby.below hb3) (Bytes.of_owned (xs := [0, 0, 0, 5, 8, 10]) o2 (by intro x hx; simp at hx; omega) o2.lt) (by decide) (by decide)).mono ?_
  rintro e w3 ⟨rfl, m, rfl⟩
  go_wp2
  go_ret
  exact ⟨rfl, bl_drewN (bl_trans hb2 hb3) _⟩
end Go.Proofs.Ytmicpiaflgfojaa

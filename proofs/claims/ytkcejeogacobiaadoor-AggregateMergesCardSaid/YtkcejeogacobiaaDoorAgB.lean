/- aggregate.Valid, Bytes -/
import Derived.Test.YtkcejeogacobiaaDoorAgA
import Derived.Deep.RegionHeld3
namespace Go.Proofs.YtkcejeogacobiaaDoor
open Go.RowKit

/-- A valid aggregator. -/
def agVal (wd : Int) (a : At) : Bool := agHnd wd a.k && bareB a && decide (a.N < 256 ^ (agSize wd a.k).toNat)
theorem plB_two (a : At) : plB a [a.N, a.M] = bareB a := by unfold plB; simp [nth]
theorem two32 (X : World) (N M : Int) {g : Nat} (hg : g = X.heap.size) {T : TypeId} : U32s (X.alloc (.cells #[.int .u32 N, .int .u32 M] T)) (X.alloc (.cells #[.int .u32 N, .int .u32 M] T)).heap.size (some ⟨g, 0, none⟩) 2 [N, M] := by
  subst hg
  exact ⟨rfl, Shows.of_owned (xs := [.int .u32 N, .int .u32 M]) (Own.new X T #[.int .u32 N, .int .u32 M]) (by simp)⟩
set_option maxRecDepth 100000 in
set_option maxHeartbeats 1600000 in
theorem agvalid_q (wd : Int) (a : At) (w : World) (h : agHnd wd a.k = false ∨ bareB a = false) :
    Calls Tryd.prog 41 #[.int .i64 wd, .agg (atc a)] w fun e w' => e = .returned (.bool false) ∧ Below w.heap.size w w' := by
  have hH := Lib.hid (aghnd_any wd a.k)
  have hP := Lib.hid (fun A c W hl => plain_any a A 2 c [a.N, a.M] W hl (by unfold maxLen; omega))
  rw [plB_two] at hP
  generalize hQ : agHnd wd a.k = q at *
  generalize hB : bareB a = b at *
  clear hQ hB
  obtain ⟨k, p, N, M, A1, n1, c1, A2, n2, c2, A3, n3, c3, f, A4, n4, c4⟩ := a
  unfold atc at *
  dsimp only at *
  have hb0 := bl_alloc (bl_refl w) (.cells #[.int .i64 k, .bool p, .int .u32 N, .int .u32 M, .slice A1 n1 c1, .slice A2 n2 c2, .slice A3 n3 c3, .int .i64 f, .slice A4 n4 c4] 29)
  have o0 := Own.new w 29 #[.int .i64 k, .bool p, .int .u32 N, .int .u32 M, .slice A1 n1 c1, .slice A2 n2 c2, .slice A3 n3 c3, .int .i64 f, .slice A4 n4 c4]
  cases q
  · go_enter Tryd.func41, Tryd.ntmps41
    go_wp2_with fail
    refine (hH.out _).mono ?_
    rintro e w' ⟨rfl, rfl⟩
    go_wp2
    go_ret
    exact ⟨rfl, hb0⟩
  · obtain rfl : b = false := by simpa using h
    obtain ⟨e0, e1, e2, e3, e4, e5, e6, e7, e8⟩ := at_cells o0
    go_enter Tryd.func41, Tryd.ntmps41
    go_wp2_with fail
    refine (hH.out _).mono ?_
    rintro e w' ⟨rfl, rfl⟩
    go_wp2_with fail
    refine (hP.out _ _ _ (two32 _ N M (by simp))).mono ?_
    rintro e w1 ⟨rfl, hb1⟩
    go_wp2
    go_ret
    exact ⟨rfl, bl_trans (bl_alloc hb0 _) hb1⟩
set_option maxRecDepth 100000 in
set_option maxHeartbeats 1600000 in
theorem agvalid_f (wd : Int) (a : At) (w : World) (hq : agHnd wd a.k = true) (hb : bareB a = true) (hN : 0 ≤ a.N) (hN2 : a.N < 4294967296) (fit : Bool) (hf : decide (a.N < 256 ^ (agSize wd a.k).toNat) = fit) :
    Calls Tryd.prog 41 #[.int .i64 wd, .agg (atc a)] w fun e w' => e = .returned (.bool fit) ∧ Below w.heap.size w w' := by
  have hH := Lib.hid (aghnd_any wd a.k)
  have hS := Lib.hid (agsize_any wd a.k)
  have hP := Lib.hid (fun A c W hl => plain_any a A 2 c [a.N, a.M] W hl (by unfold maxLen; omega))
  rw [plB_two, hb] at hP
  rw [hq] at hH
  obtain ⟨s, h1, h2⟩ := agHnd_size hq
  rw [h1] at hS hf
  have hPut : Hid (∀ W, ∃ v : Value, Calls Tryd.prog 69 #[.int .i64 s, .int .u32 a.N] W fun e w' => e = .returned (.tuple #[v, .bool fit]) ∧ Below W.heap.size W w') := Lib.hid (fun W => by
    cases fit with
    | true => exact ⟨_, (put_yes s a.N W (by omega) (by omega) hN (of_decide_eq_true hf)).mono fun e w' h => ⟨h.1, h.2.2⟩⟩
    | false => exact ⟨_, (put_big s a.N W (by omega) (by omega) hN hN2 (by have := of_decide_eq_false hf; omega)).mono fun e w' h => ⟨h.1, by have h2 := h.2; first | exact h2 | (rw [← h2]; exact bl_refl W)⟩⟩)
  clear hf hq hb hN hN2 h1 h2
  obtain ⟨k, p, N, M, A1, n1, c1, A2, n2, c2, A3, n3, c3, f, A4, n4, c4⟩ := a
  unfold atc at *
  dsimp only at *
  have hb0 := bl_alloc (bl_refl w) (.cells #[.int .i64 k, .bool p, .int .u32 N, .int .u32 M, .slice A1 n1 c1, .slice A2 n2 c2, .slice A3 n3 c3, .int .i64 f, .slice A4 n4 c4] 29)
  have o0 := Own.new w 29 #[.int .i64 k, .bool p, .int .u32 N, .int .u32 M, .slice A1 n1 c1, .slice A2 n2 c2, .slice A3 n3 c3, .int .i64 f, .slice A4 n4 c4]
  obtain ⟨e0, e1, e2, e3, e4, e5, e6, e7, e8⟩ := at_cells o0
  go_enter Tryd.func41, Tryd.ntmps41
  go_wp2_with fail
  refine (hH.out _).mono ?_
  rintro e w' ⟨rfl, rfl⟩
  go_wp2_with fail
  refine (hP.out _ _ _ (two32 _ N M (by simp))).mono ?_
  rintro e w1 ⟨rfl, hb1⟩
  have o1 := (o0.alloc (.cells #[.int .u32 N, .int .u32 M] 24)).step hb1
  have hb2 := bl_trans (bl_alloc hb0 (.cells #[.int .u32 N, .int .u32 M] 24)) hb1
  clear e0 e1 e2 e3 e4 e5 e6 e7 e8 hb0 hb1 o0
  go_wp2_with fail
  obtain ⟨v, hpv⟩ := hPut.out w1.drew
  have HPV := Lib.hid hpv
  clear hpv
  have HS0 : w1.drew.cell? ⟨w.heap.size, 0, none⟩ = some (.int .i64 k) ∧ w1.drew.cell? ⟨w.heap.size, 2, none⟩ = some (.int .u32 N) := ⟨o1.drew.cell (i := 0) rfl, o1.drew.cell (i := 2) rfl⟩
  go_region_held3 (fun W => W.cell? ⟨w.heap.size, 0, none⟩ = some (.int .i64 k) ∧ W.cell? ⟨w.heap.size, 2, none⟩ = some (.int .u32 N)) (with_reducible first | exact HS0 | exact HS2) ((first
    | (go_at_call 76; (with_reducible refine (hS.out _).mono ?_); rintro e w' ⟨rfl, rfl⟩)
    | (go_at_call 69; (with_reducible refine HPV.out.mono ?_); rintro e w2 ⟨rfl, hb3⟩; have o2 := o1.drew.step hb3; have HS2 : w2.cell? ⟨w.heap.size, 0, none⟩ = some (.int .i64 k) ∧ w2.cell? ⟨w.heap.size, 2, none⟩ = some (.int .u32 N) := ⟨o2.cell (i := 0) rfl, o2.cell (i := 2) rfl⟩)))
  go_wp2
  go_ret
  exact ⟨rfl, bl_trans hb2.drew hb3⟩
set_option maxRecDepth 100000 in
theorem agvalid_any (wd : Int) (a : At) (w : World) (hN : 0 ≤ a.N) (hN2 : a.N < 4294967296) :
    Calls Tryd.prog 41 #[.int .i64 wd, .agg (atc a)] w fun e w' => e = .returned (.bool (agVal wd a)) ∧ Below w.heap.size w w' := by
  unfold agVal
  cases hq : agHnd wd a.k with
  | false => exact agvalid_q wd a w (.inl hq)
  | true =>
    cases hb : bareB a with
    | false => exact agvalid_q wd a w (.inr hb)
    | true => exact agvalid_f wd a w hq hb hN hN2 _ rfl
end Go.Proofs.YtkcejeogacobiaaDoor

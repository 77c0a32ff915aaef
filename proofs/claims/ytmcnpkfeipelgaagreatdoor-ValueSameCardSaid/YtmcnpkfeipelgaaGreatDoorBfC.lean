/- basic.Valid, basic.Has; peerageref07.Bytes -/
import Derived.Test.YtmcnpkfeipelgaaGreatDoorBsG
import Derived.Test.YtmcnpkfeipelgaaGreatDoorStepG
namespace Go.Proofs.YtmcnpkfeipelgaaGreatDoor
open Go.RowKit Go.Maps

set_option maxRecDepth 100000 in
theorem bhas_gen (k : Int) (hwf : (Lit.int .i64 k).wf = true) (s : Int) (F G : Value) (q : Bool) (hrow : Hid (bRow k = #[.int .i64 s, F, G])) (hkn : Hid (bKnown k = q)) (hone : (#[Value.int .i64 s, F, G]).all (·.oneCell') = true) (w : World) :
    Calls Tryz.prog 77 #[.int .i64 k] w fun e w' => e = .returned (.bool q) ∧ Below w.heap.size w w' := by
  go_enter Tryz.func77, Tryz.ntmps77
  go_wp2_with fail
  refine (rows_any _).mono ?_
  rintro e w1 ⟨b, rfl, hown, hb1⟩
  have oN := Own.new w1 151 bNil
  have hbN := bl_alloc hb1 (.cells bNil 151)
  go_wp2_with (first | (at_lookup; refine wpList_lookup_own_ok _ rfl _ _ 153 rfl 3 151 bint_key Tryz.underlying153 heldE (brow_zero _) (.held (.agg bNil)) [] rfl b 6 rMap rfl hown _ _ rfl (keyOf_int_mk Tryz.underlying3 hwf) ?_; intro v ps hv; obtain rfl := brow_at hv; rw [(rMap_at k).2, hrow.out, hkn.out]; clear hv hown) | (refine wpList_store_row rfl 151 _ _ rfl w1.heap.size #[.int .i64 s, F, G] rfl rfl 151 bNil oN (brow_info _ _ _) rfl hone ?_))
  go_ret
  exact ⟨rfl, bl_setRow (g := w1.heap.size) (cs := #[.int .i64 s, F, G]) hbN hb1.size⟩
set_option maxRecDepth 100000 in
theorem bhas_any (k : Int) (hwf : (Lit.int .i64 k).wf = true) (w : World) :
    Calls Tryz.prog 77 #[.int .i64 k] w fun e w' => e = .returned (.bool (bKnown k)) ∧ Below w.heap.size w w' := by
  cases hk : bKnown k with
  | true => exact bhas_gen k hwf (bSize k) (.func (.func (bFits k)) #[] #[]) (.func (.func (bText k)) #[] #[]) true (Lib.hid (by unfold bRow; rw [hk]; rfl)) (Lib.hid hk) (brow_one _ _ _) w
  | false => exact bhas_gen k hwf 0 .nilFunc .nilFunc false (Lib.hid (by unfold bRow; rw [hk]; rfl)) (Lib.hid hk) bnil_one w
set_option maxRecDepth 100000 in
set_option maxHeartbeats 1600000 in
theorem bvalid_gen (a : At) (s : Int) (F G : Value) (q : Bool) (hone : (#[Value.int .i64 s, F, G]).all (·.oneCell') = true) (w : World)
    (hF : Hid (∀ W, Calls Tryz.prog 231 #[.agg (atc a)] W fun e w' => e = .returned (.tuple #[.agg #[.int .i64 s, F, G], .bool q]) ∧ Below W.heap.size W w')) :
    Calls Tryz.prog 230 #[.agg (atc a)] w fun e w' => e = .returned (.bool q) ∧ Below w.heap.size w w' := by
  obtain ⟨k, p, N, M, A1, n1, c1, A2, n2, c2, A3, n3, c3, f, A4, n4, c4⟩ := a
  unfold atc at *
  dsimp only at *
  have hb0 := bl_alloc (bl_refl w) (.cells #[.int .i64 k, .bool p, .int .u32 N, .int .u32 M, .slice A1 n1 c1, .slice A2 n2 c2, .slice A3 n3 c3, .int .i64 f, .slice A4 n4 c4] 37)
  go_enter Tryz.func230, Tryz.ntmps230
  go_wp2_with fail
  refine (hF.out _).mono ?_
  rintro e w1 ⟨rfl, hb1⟩
  have hb2 := bl_trans hb0 hb1
  have oN := Own.new w1 151 #[.int .i64 0, .nilFunc, .nilFunc]
  have hbN := bl_alloc hb2 (.cells #[.int .i64 0, .nilFunc, .nilFunc] 151)
  go_wp2_with (refine wpList_store_row rfl 151 _ _ rfl w1.heap.size #[.int .i64 s, F, G] rfl rfl 151 #[.int .i64 0, .nilFunc, .nilFunc] oN (brow_info _ _ _) rfl hone ?_)
  go_ret
  exact ⟨rfl, bl_setRow (g := w1.heap.size) (cs := #[.int .i64 s, F, G]) hbN hb2.size⟩
set_option maxRecDepth 100000 in
theorem bvalid_any (a : At) (hwf : (Lit.int .i64 a.k).wf = true) (w : World) :
    Calls Tryz.prog 230 #[.agg (atc a)] w fun e w' => e = .returned (.bool (vOk a)) ∧ Below w.heap.size w w' := by
  have hF := Lib.hid (fun W => bfind_any a hwf W)
  cases hv : vOk a with
  | true => rw [frow_yes hv, hv] at hF; exact bvalid_gen a _ _ _ true (brow_one _ _ _) w hF
  | false => rw [frow_no hv, hv] at hF; exact bvalid_gen a _ _ _ false bnil_one w hF
set_option maxRecDepth 100000 in
theorem of_zero (x : Int) (w : World) : Calls Tryz.prog 121 #[.int .i64 0, .int .u32 x] w fun e w' => e = .returned (.slice none 0 0) ∧ w = w' := by
  go_enter Tryz.func121, Tryz.ntmps121
  go_wp2
  go_loopw [5, 6] (fun v i wr => v = .slice none 0 0 ∧ i = .int .i64 (-1) ∧ wr = w) (fun _ _ _ => 0)
  case atStart => exact ⟨rfl, rfl, rfl⟩
  case round =>
    obtain ⟨rfl, rfl, rfl⟩ := hrel
    go_wp2
    go_ret
    exact ⟨rfl, rfl⟩
set_option maxRecDepth 100000 in
/-- Numbers of as many bytes as a type asks for. -/
theorem bof_any (s N : Int) (w : World) (hN : 0 ≤ N) (hN2 : N < 4294967296) (h0 : 0 ≤ s) (h4 : s ≤ 4) :
    Calls Tryz.prog 121 #[.int .i64 s, .int .u32 N] w fun e w' => ∃ A c, e = .returned (.slice A s.toNat c) ∧ Bytes w' w'.heap.size A s.toNat (digitsOf s.toNat N) ∧ Below w.heap.size w w' := by
  by_cases hs : s = 0
  · subst hs
    refine (of_zero N w).mono ?_
    rintro e w' ⟨rfl, rfl⟩
    exact ⟨none, 0, rfl, Bytes.nil _ _ _, bl_refl w⟩
  · refine (of_any s N w (by omega) h4 hN hN2).mono ?_
    rintro e w' ⟨v, rfl, ho, hb⟩
    obtain ⟨A, c, rfl, _, hsh⟩ := own_val ho
    exact ⟨A, c, rfl, ⟨(digitsOf_len _ _).symm, digitsOf_range _ _, hsh⟩, hb⟩
set_option maxRecDepth 100000 in
set_option maxHeartbeats 1600000 in
theorem rbbytes_yes (a : At) (hN : 0 ≤ a.N) (hN2 : a.N < 4294967296) (hv : vOk a = true) (w : World) :
    Calls Tryz.prog 98 #[.agg (atc a)] w fun e w' => ∃ A c, e = .returned (.tuple #[.slice A (bSize a.k).toNat c, .bool true]) ∧ Bytes w' w'.heap.size A (bSize a.k).toNat (bForm a.k a.N) ∧ Below w.heap.size w w' := by
  have hV := Lib.hid (fun W => rbvalid_any a W)
  rw [hv] at hV
  have hs : 0 ≤ bSize a.k ∧ bSize a.k ≤ 4 := by rcases vOk_size hv hN hN2 with ⟨h, _⟩ | ⟨h, h2, _⟩ <;> omega
  have hO := Lib.hid (fun W => bof_any (bSize a.k) a.N W hN hN2 hs.1 hs.2)
  have hW := Lib.hid (rwidth_any a.k)
  clear hv hN hN2 hs
  unfold bForm
  generalize bSize a.k = s at *
  generalize digitsOf s.toNat a.N = xs at *
  obtain ⟨k, p, N, M, A1, n1, c1, A2, n2, c2, A3, n3, c3, f, A4, n4, c4⟩ := a
  unfold atc at *
  dsimp only at *
  have hb0 := bl_alloc (bl_refl w) (.cells #[.int .i64 k, .bool p, .int .u32 N, .int .u32 M, .slice A1 n1 c1, .slice A2 n2 c2, .slice A3 n3 c3, .int .i64 f, .slice A4 n4 c4] 37)
  have o0 := Own.new w 37 #[.int .i64 k, .bool p, .int .u32 N, .int .u32 M, .slice A1 n1 c1, .slice A2 n2 c2, .slice A3 n3 c3, .int .i64 f, .slice A4 n4 c4]
  go_enter Tryz.func98, Tryz.ntmps98
  go_wp2_with fail
  refine (hV.out _).mono ?_
  rintro e w1 ⟨rfl, hb1⟩
  have o1 := o0.step hb1
  have hb2 := bl_trans hb0 hb1
  clear hb0 hb1 o0
  go_wp2_with fail
  have HS0 : w1.drew.cell? ⟨w.heap.size, 0, none⟩ = some (.int .i64 k) ∧ w1.drew.cell? ⟨w.heap.size, 2, none⟩ = some (.int .u32 N) := ⟨o1.drew.cell (i := 0) rfl, o1.drew.cell (i := 2) rfl⟩
  go_region_held3 (fun W => W.cell? ⟨w.heap.size, 0, none⟩ = some (.int .i64 k) ∧ W.cell? ⟨w.heap.size, 2, none⟩ = some (.int .u32 N)) (with_reducible first | exact HS0 | exact HS2) ((first
    | (go_at_call 126; (with_reducible refine (hW.out _).mono ?_); rintro e w' ⟨rfl, rfl⟩)
    | (go_at_call 121; (with_reducible refine (hO.out _).mono ?_); rintro e w2 ⟨A, c, rfl, hx, hb3⟩; have o2 := o1.drew.step hb3; have hb4 := bl_trans hb2.drew hb3; have HS2 : w2.cell? ⟨w.heap.size, 0, none⟩ = some (.int .i64 k) ∧ w2.cell? ⟨w.heap.size, 2, none⟩ = some (.int .u32 N) := ⟨o2.cell (i := 0) rfl, o2.cell (i := 2) rfl⟩)))
  go_wp2
  go_ret2
  exact ⟨A, c, rfl, hx, hb4⟩
set_option maxRecDepth 100000 in
theorem rbbytes_no (a : At) (hv : vOk a = false) (w : World) :
    Calls Tryz.prog 98 #[.agg (atc a)] w fun e w' => e = .returned (.tuple #[.slice none 0 0, .bool false]) ∧ Below w.heap.size w w' := by
  have hV := Lib.hid (fun W => rbvalid_any a W)
  rw [hv] at hV
  clear hv
  obtain ⟨k, p, N, M, A1, n1, c1, A2, n2, c2, A3, n3, c3, f, A4, n4, c4⟩ := a
  unfold atc at *
  dsimp only at *
  have hb0 := bl_alloc (bl_refl w) (.cells #[.int .i64 k, .bool p, .int .u32 N, .int .u32 M, .slice A1 n1 c1, .slice A2 n2 c2, .slice A3 n3 c3, .int .i64 f, .slice A4 n4 c4] 37)
  go_enter Tryz.func98, Tryz.ntmps98
  go_wp2_with fail
  refine (hV.out _).mono ?_
  rintro e w1 ⟨rfl, hb1⟩
  go_wp2
  go_ret2
  exact ⟨rfl, bl_trans hb0 hb1⟩
end Go.Proofs.YtmcnpkfeipelgaaGreatDoor

/- aggregate.Text at the example, alive of layer 8, peerageref08.Same -/
import Derived.Test.YtkcejeogacobiaaDoorAgB
import Derived.Test.YtkcejeogacobiaaDoorAdr
namespace Go.Proofs.YtkcejeogacobiaaDoor
open Go.RowKit Go.Sort

def at2 (k N M : Int) : At := ⟨k, false, N, M, none, 0, 0, none, 0, 0, none, 0, 0, 0, none, 0, 0⟩
theorem dec8_70000 : Lib.decDigits 70000 = [55, 48, 48, 48, 48] := by
  rw [Lib.decDigits, dif_neg (by omega), show 70000 / 10 = 7000 from rfl, Lib.decDigits, dif_neg (by omega), show 7000 / 10 = 700 from rfl, Lib.decDigits, dif_neg (by omega), show 700 / 10 = 70 from rfl, Lib.decDigits_two (by omega) (by omega)]; rfl
theorem dec8_0 : Lib.decDigits 0 = [48] := by rw [Lib.decDigits_one (by omega)]; rfl
theorem dec8_1 : Lib.decDigits 1 = [49] := by rw [Lib.decDigits_one (by omega)]; rfl
theorem adr_1 : adrB 1 = ⟨#[48, 46, 48, 46, 48, 46, 49]⟩ := by
  have h0 : decB 0 = ⟨#[48]⟩ := congrArg (fun l : List UInt8 => ByteArray.mk l.toArray) dec8_0
  have h1 : decB 1 = ⟨#[49]⟩ := congrArg (fun l : List UInt8 => ByteArray.mk l.toArray) dec8_1
  have h5 : wAdr (digitsOf 4 1) 4 = [⟨#[48]⟩, ⟨#[48]⟩, ⟨#[48]⟩, ⟨#[49]⟩] := by
    show [decB 0, decB 0, decB 0, decB 1] = _
    rw [h0, h1]
  unfold adrB
  rw [h5]
  decide +kernel
set_option maxRecDepth 100000 in
set_option maxHeartbeats 1600000 in
theorem agtext_ex (w : World) (ht : Tens w) :
    Calls Tryd.prog 42 #[.agg (atc (at2 7 70000 1))] w fun e w' => e = .returned (.string ⟨#[97, 103, 103, 114, 101, 103, 97, 116, 111, 114, 32, 55, 48, 48, 48, 48, 32, 48, 46, 48, 46, 48, 46, 49]⟩) ∧ Below w.heap.size w w' := by
  have hV := Lib.hid (fun W => agvalid_any 4 (at2 7 70000 1) W (by decide) (by decide))
  rw [show agVal 4 (at2 7 70000 1) = true by decide] at hV
  unfold at2 atc at *
  dsimp only at *
  have hb0 := bl_alloc (bl_refl w) (.cells #[.int .i64 7, .bool false, .int .u32 70000, .int .u32 1, .slice none 0 0, .slice none 0 0, .slice none 0 0, .int .i64 0, .slice none 0 0] 29)
  have o0 := Own.new w 29 #[.int .i64 7, .bool false, .int .u32 70000, .int .u32 1, .slice none 0 0, .slice none 0 0, .slice none 0 0, .int .i64 0, .slice none 0 0]
  go_enter Tryd.func42, Tryd.ntmps42
  go_wp2_with fail
  refine (hV.out _).mono ?_
  rintro e w1 ⟨rfl, hb1⟩
  have o1 := o0.step hb1
  have hb2 := bl_trans hb0 hb1
  have e0 := o1.cell (i := 0) (v := .int .i64 7) rfl
  clear hb0 hb1 o0
  go_wp2_with fail
  have ht1 := ht.below hb2
  have hc := Lib.hid (rg_of (w := w1) (v := .string ⟨#[55, 48, 48, 48, 48]⟩) (f := 80) (args := #[.int .u64 70000, .int .i64 10]) (fun W hW => by
    have := fmtu_any 70000 (by decide) W (ht1.below hW)
    rwa [show decB ((70000 : Nat) : Int) = ⟨#[55, 48, 48, 48, 48]⟩ from congrArg (fun l : List UInt8 => ByteArray.mk l.toArray) dec8_70000] at this))
  have hs := Lib.hid (rg_of (w := w1) (v := .string ⟨#[48, 46, 48, 46, 48, 46, 49]⟩) (fun W hW => by
    have := badr_any 1 (by decide) (by decide) W (ht1.below hW)
    rwa [adr_1] at this))
  have q1 := cell_regrown (o1.cell (i := 2) (v := .int .u32 70000) rfl)
  have q2 := cell_regrown (o1.cell (i := 3) (v := .int .u32 1) rfl)
  refine wp_region_quiet_below (by kernel_rfl) (by kernel_rfl) ?_
  repeat (go_big_quiet_step (first | exact hc.out _ _ | exact hs.out _ _))
  refine wpQuiet_nil ?_
  rintro _ ⟨⟨dq, osq⟩, rfl⟩
  have hg := below_regrown w1 dq osq
  have hb3 := bl_trans hb2 hg
  generalize grow (redrawn w1 dq) osq = w3 at *
  go_wp2
  go_ret
  exact ⟨rfl, hb3⟩
set_option maxRecDepth 100000 in
set_option maxHeartbeats 1600000 in
theorem alive08_any (w : World) (ht : Tens w) : Calls Tryd.prog 33 #[] w fun e w' => e = .returned (.bool true) ∧ Below w.heap.size w w' := by
  have hT := Lib.hid (fun W h => agtext_ex W h)
  unfold at2 atc at *
  dsimp only at *
  go_enter Tryd.func33, Tryd.ntmps33
  go_wp2_with fail
  refine (hT.out _ ht).mono ?_
  rintro e w1 ⟨rfl, hb1⟩
  go_wp2
  go_ret
  exact ⟨rfl, hb1⟩
set_option maxRecDepth 100000 in
set_option maxHeartbeats 1600000 in
theorem rsame08_same (a : At) (w : World) (hb : bareB a = true) :
    Calls Tryd.prog 37 #[.agg (atc a), .agg (atc a)] w fun e w' => e = .returned (.bool true) ∧ Below w.heap.size w w' := by
  have hB := Lib.hid (fun W => rbare_any a W)
  rw [hb] at hB
  clear hb
  obtain ⟨k, p, N, M, A1, n1, c1, A2, n2, c2, A3, n3, c3, f, A4, n4, c4⟩ := a
  unfold atc at *
  dsimp only at *
  have hb0 := bl_alloc (bl_alloc (bl_refl w) (.cells #[.int .i64 k, .bool p, .int .u32 N, .int .u32 M, .slice A1 n1 c1, .slice A2 n2 c2, .slice A3 n3 c3, .int .i64 f, .slice A4 n4 c4] 29)) (.cells #[.int .i64 k, .bool p, .int .u32 N, .int .u32 M, .slice A1 n1 c1, .slice A2 n2 c2, .slice A3 n3 c3, .int .i64 f, .slice A4 n4 c4] 29)
  have o1 := (Own.new w 29 #[.int .i64 k, .bool p, .int .u32 N, .int .u32 M, .slice A1 n1 c1, .slice A2 n2 c2, .slice A3 n3 c3, .int .i64 f, .slice A4 n4 c4]).alloc (.cells #[.int .i64 k, .bool p, .int .u32 N, .int .u32 M, .slice A1 n1 c1, .slice A2 n2 c2, .slice A3 n3 c3, .int .i64 f, .slice A4 n4 c4] 29)
  have o2 := Own.new (w.alloc (.cells #[.int .i64 k, .bool p, .int .u32 N, .int .u32 M, .slice A1 n1 c1, .slice A2 n2 c2, .slice A3 n3 c3, .int .i64 f, .slice A4 n4 c4] 29)) 29 #[.int .i64 k, .bool p, .int .u32 N, .int .u32 M, .slice A1 n1 c1, .slice A2 n2 c2, .slice A3 n3 c3, .int .i64 f, .slice A4 n4 c4]
  rw [show (w.alloc (.cells #[.int .i64 k, .bool p, .int .u32 N, .int .u32 M, .slice A1 n1 c1, .slice A2 n2 c2, .slice A3 n3 c3, .int .i64 f, .slice A4 n4 c4] 29)).heap.size = w.heap.size + 1 by simp] at o2
  obtain ⟨e0, e1, e2, e3, e4, e5, e6, e7, e8⟩ := at_cells o1
  obtain ⟨f0, f1, f2, f3, f4, f5, f6, f7, f8⟩ := at_cells o2
  have h1 : (k == k) = true := by simp
  have h2 : (N == N) = true := by simp
  have h3 : (M == M) = true := by simp
  have h4 : (p == p) = true := by simp
  go_enter Tryd.func37, Tryd.ntmps37
  go_wp2_with fail
  refine (hB.out _).mono ?_
  rintro e w1 ⟨rfl, hb1⟩
  have hb2 := bl_trans hb0 hb1
  obtain ⟨g0, g1, g2, g3, g4, g5, g6, g7, g8⟩ := at_cells (o2.step hb1)
  clear e0 e1 e2 e3 e4 e5 e6 e7 e8 f0 f1 f2 f3 f4 f5 f6 f7 f8
  go_wp2_with fail
  refine (hB.out _).mono ?_
  rintro e w2 ⟨rfl, hb3⟩
  go_wp2
  go_ret
  exact ⟨rfl, bl_trans hb2 hb3⟩
end Go.Proofs.YtkcejeogacobiaaDoor

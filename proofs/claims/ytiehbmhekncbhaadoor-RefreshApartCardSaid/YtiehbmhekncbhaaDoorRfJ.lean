/- refresh.Parse, peerageref19.Parse -/
import Derived.Test.YtiehbmhekncbhaaDoorRfG
namespace Go.Proofs.YtiehbmhekncbhaaDoor
open Go.RowKit Extern.Stop

/-- Four bytes that came in. -/
theorem Bytes.four {w : World} {B : Nat} {A : Option Addr} {xs : List Int} (h : Bytes w B A 4 xs) :
    ∃ (b o : Nat) (x0 x1 x2 x3 : Int), A = some ⟨b, o, none⟩ ∧ b < B ∧ xs = [x0, x1, x2, x3] ∧ w.cell? ⟨b, o, none⟩ = some (.int .u8 x0) ∧ w.cell? ⟨b, o + 1, none⟩ = some (.int .u8 x1) ∧ w.cell? ⟨b, o + 2, none⟩ = some (.int .u8 x2) ∧ w.cell? ⟨b, o + 3, none⟩ = some (.int .u8 x3) ∧
      0 ≤ x0 ∧ x0 ≤ 255 ∧ 0 ≤ x1 ∧ x1 ≤ 255 ∧ 0 ≤ x2 ∧ x2 ≤ 255 ∧ 0 ≤ x3 ∧ x3 ≤ 255 := by
  obtain ⟨b, o, rfl, hb, c0, l0, u0⟩ := h.at_ (k := 0) (by omega)
  obtain ⟨b1, o1, e1, _, c1, l1, u1⟩ := h.at_ (k := 1) (by omega)
  obtain ⟨b2, o2, e2, _, c2, l2, u2⟩ := h.at_ (k := 2) (by omega)
  obtain ⟨b3, o3, e3, _, c3, l3, u3⟩ := h.at_ (k := 3) (by omega)
  obtain ⟨rfl, rfl⟩ : b = b1 ∧ o = o1 := by simpa using e1
  obtain ⟨rfl, rfl⟩ : b = b2 ∧ o = o2 := by simpa using e2
  obtain ⟨rfl, rfl⟩ : b = b3 ∧ o = o3 := by simpa using e3
  have hl := h.1
  match xs, hl, c0, c1, c2, c3, l0, u0, l1, u1, l2, u2, l3, u3 with
  | [x0, x1, x2, x3], _, c0, c1, c2, c3, l0, u0, l1, u1, l2, u2, l3, u3 => exact ⟨b, o, x0, x1, x2, x3, rfl, hb, rfl, c0, c1, c2, c3, l0, u0, l1, u1, l2, u2, l3, u3⟩
theorem cell_far {w : World} {b o g i : Nat} (u : Value) (hne : b ≠ g) : (w.setCell ⟨g, i, none⟩ u).cell? ⟨b, o, none⟩ = w.cell? ⟨b, o, none⟩ := World.cell?_of_block (a := ⟨b, o, none⟩) (Below.heap_setCell w ⟨g, i, none⟩ u b hne)
theorem far_four {V : World} {b o g : Nat} {x0 x1 x2 x3 : Value} (hne : b ≠ g) (c0 : V.cell? ⟨b, o, none⟩ = some x0) (c1 : V.cell? ⟨b, o + 1, none⟩ = some x1) (c2 : V.cell? ⟨b, o + 2, none⟩ = some x2) (c3 : V.cell? ⟨b, o + 3, none⟩ = some x3) (x y z : Value) :
    (((V.setCell ⟨g, 0, none⟩ x).setCell ⟨g, 1, none⟩ y).setCell ⟨g, 2, none⟩ z).drew.cell? ⟨b, o, none⟩ = some x0 ∧ (((V.setCell ⟨g, 0, none⟩ x).setCell ⟨g, 1, none⟩ y).setCell ⟨g, 2, none⟩ z).drew.cell? ⟨b, o + 1, none⟩ = some x1 ∧ (((V.setCell ⟨g, 0, none⟩ x).setCell ⟨g, 1, none⟩ y).setCell ⟨g, 2, none⟩ z).drew.cell? ⟨b, o + 2, none⟩ = some x2 ∧ (((V.setCell ⟨g, 0, none⟩ x).setCell ⟨g, 1, none⟩ y).setCell ⟨g, 2, none⟩ z).drew.cell? ⟨b, o + 3, none⟩ = some x3 := by
  have key : ∀ k, (((V.setCell ⟨g, 0, none⟩ x).setCell ⟨g, 1, none⟩ y).setCell ⟨g, 2, none⟩ z).cell? ⟨b, k, none⟩ = V.cell? ⟨b, k, none⟩ := fun k => by rw [cell_far _ hne, cell_far _ hne, cell_far _ hne]
  exact ⟨(key _).trans c0, (key _).trans c1, (key _).trans c2, (key _).trans c3⟩
theorem or_byte_i64 (a x : Int) (h0 : 0 ≤ a) (h1 : a ≤ 255) (hx0 : 0 ≤ x) (hx1 : x ≤ 255) : bits BinOp.or IntKind.i64 (a * 256) x = a * 256 + x := by
  have e1 : (BitVec.ofInt 64 (a * 256)).toNat = a.toNat * 2 ^ 8 := by rw [BitVec.toNat_ofInt]; omega
  have e2 : (BitVec.ofInt 64 x).toNat = x.toNat := by rw [BitVec.toNat_ofInt]; omega
  show IntKind.i64.wrap ((BitVec.ofInt 64 (a * 256) ||| BitVec.ofInt 64 x).toNat : Int) = _
  rw [BitVec.toNat_or, e1, e2, ← Nat.shiftLeft_eq, Nat.shiftLeft_add_eq_or_of_lt (by omega) a.toNat |>.symm, Nat.shiftLeft_eq, IntKind.wrap_i64]
  omega
/-- What four bytes stand for. -/
def rfOf (xs : List Int) : Int × Int × Int := if xs.length = 4 then (nth xs 0 * 256 + nth xs 1, nth xs 2, nth xs 3) else (0, 0, 0)
set_option maxRecDepth 100000 in
theorem rfparse_no (A : Option Addr) (n c : Nat) (w : World) (hn : n ≠ 4) :
    Calls Tryd.prog 61 #[.slice A n c] w fun e w' => e = .returned (.tuple #[.agg #[.int .i64 0, .int .i64 0, .int .i64 0], .bool false]) ∧ Below w.heap.size w w' := by
  have o0 := Own.new w 70 #[.int .i64 0, .int .i64 0, .int .i64 0]
  have hb0 := bl_alloc (bl_refl w) (.cells #[.int .i64 0, .int .i64 0, .int .i64 0] 70)
  have e4 : ((n : Int) != 4) = true := by simp; omega
  go_enter Tryd.func61, Tryd.ntmps61
  go_wp2
  refine bodyPost_ret (results_cell_tmp (p := 2) (t := 3) (fn := Tryd.f61) rfl _ _ w.heap.size 70 #[.int .i64 0, .int .i64 0, .int .i64 0] _ rfl o0 rfh_desc rfl (rfh_info _ _ _)) rfl ⟨rfl, hb0⟩
set_option maxRecDepth 100000 in
theorem rrfh_desc : Tryd.prog.underlying 68 = some (.struct (Tryd.prog.fieldsOf 68)) := by kernel_rfl
set_option maxRecDepth 100000 in
theorem rrfh_info (a b c : Value) : (Tryd.prog.info? 68).map (·.size) = some (#[a, b, c] : Array Value).size := by kernel_rfl
set_option maxRecDepth 100000 in
set_option maxHeartbeats 1600000 in
theorem rfparse_yes (A : Option Addr) (c : Nat) (xs : List Int) (w : World) (hx : Bytes w w.heap.size A 4 xs) :
    Calls Tryd.prog 61 #[.slice A 4 c] w fun e w' => e = .returned (.tuple #[.agg #[.int .i64 (nth xs 0 * 256 + nth xs 1), .int .i64 (nth xs 2), .int .i64 (nth xs 3)], .bool true]) ∧ Below w.heap.size w w' := by
  have hb0 := bl_alloc (bl_refl w) (.cells #[.int .i64 0, .int .i64 0, .int .i64 0] 70)
  obtain ⟨b, o, x0, x1, x2, x3, rfl, hb, rfl, c0, c1, c2, c3, l0, u0, l1, u1, l2, u2, l3, u3⟩ := (hx.below hb0).four
  have o0 := Own.new w 70 #[.int .i64 0, .int .i64 0, .int .i64 0]
  have k0 := o0.cell (i := 0) (v := .int .i64 0) rfl
  have k1 := o0.cell (i := 1) (v := .int .i64 0) rfl
  have k2 := o0.cell (i := 2) (v := .int .i64 0) rfl
  have f0 := o0.frozen 0
  have f1 := o0.frozen 1
  have f2 := o0.frozen 2
  have hlt := o0.lt
  have hbne : b ≠ w.heap.size := by omega
  have hor := or_byte_i64 x0 x1 l0 u0 l1 u1
  have v0 : IntKind.i64.wrap x0 = x0 := by rw [IntKind.wrap_i64]; omega
  have v1 : IntKind.i64.wrap x1 = x1 := by rw [IntKind.wrap_i64]; omega
  have v2 : IntKind.i64.wrap x2 = x2 := by rw [IntKind.wrap_i64]; omega
  have v3 : IntKind.i64.wrap x3 = x3 := by rw [IntKind.wrap_i64]; omega
  have v4 : IntKind.i64.wrap (x0 * 256) = x0 * 256 := by rw [IntKind.wrap_i64]; omega
  go_enter Tryd.func61, Tryd.ntmps61
  go_wp2_with fail
  generalize w.alloc (.cells #[.int .i64 0, .int .i64 0, .int .i64 0] 70) = V at c0 c1 c2 c3 o0 k0 k1 k2 f0 f1 f2 hlt hb0 ⊢
  have HS0 : V.drew.cell? ⟨b, o, none⟩ = some (.int .u8 x0) ∧ V.drew.cell? ⟨b, o + 1, none⟩ = some (.int .u8 x1) ∧ V.drew.cell? ⟨b, o + 2, none⟩ = some (.int .u8 x2) ∧ V.drew.cell? ⟨b, o + 3, none⟩ = some (.int .u8 x3) := ⟨c0, c1, c2, c3⟩
  go_region_held3 (fun W => W.cell? ⟨b, o, none⟩ = some (.int .u8 x0) ∧ W.cell? ⟨b, o + 1, none⟩ = some (.int .u8 x1) ∧ W.cell? ⟨b, o + 2, none⟩ = some (.int .u8 x2) ∧ W.cell? ⟨b, o + 3, none⟩ = some (.int .u8 x3)) (with_reducible first | exact HS0 | exact far_four hbne c0 c1 c2 c3 _ _ _) (fail)
  go_wp2
  refine bodyPost_ret (results_cell_tmp (p := 2) (t := 3) (fn := Tryd.f61) rfl _ _ w.heap.size 70 #[.int .i64 (x0 * 256 + x1), .int .i64 x2, .int .i64 x3] _ rfl (own_three o0 _ _ _) rfh_desc rfl (rfh_info _ _ _)) rfl ⟨rfl, (((hb0.setCell (p := ⟨w.heap.size, 0, none⟩) (Nat.le_refl _) _).setCell (p := ⟨w.heap.size, 1, none⟩) (Nat.le_refl _) _).setCell (p := ⟨w.heap.size, 2, none⟩) (Nat.le_refl _) _).drew⟩
end Go.Proofs.YtiehbmhekncbhaaDoor

/- flag.Bytes -/
import Derived.Test.YtmcnpkfeipelgaaGreatDoorFlB
import Derived.Test.YtmcnpkfeipelgaaGreatDoorPfxB
import Derived.Deep.RegionHeld3
namespace Go.Proofs.YtmcnpkfeipelgaaGreatDoor
open Go.RowKit

def fbOk (f t n : Int) : Bool := decide (0 ≤ f ∧ f ≤ 255) && decide (0 ≤ t ∧ t ≤ 255) && decide (0 ≤ n ∧ n < 256 ^ (fk f).toNat)
def fForm (f t n : Int) : List Int := [f, t] ++ digitsOf (fk f).toNat n
theorem fk_cases (f : Int) : fk f = 1 ∨ fk f = 2 := by unfold fk; split <;> simp
theorem fk_pow (f : Int) : ((256 : Int) ^ (fk f).toNat = 256 ∨ (256 : Int) ^ (fk f).toNat = 65536) := by
  rcases fk_cases f with h | h <;> rw [h]
  · left; rfl
  · right; rfl
theorem bcell {W w1 : World} (hb : Below W.heap.size W w1) : (∀ b o, b < W.heap.size → w1.cell? ⟨b, o, none⟩ = W.cell? ⟨b, o, none⟩) ∧ (∀ b o, b < W.heap.size → w1.frozen? ⟨b, o, none⟩ = W.frozen? ⟨b, o, none⟩) :=
  ⟨fun b o h => hb.cell (p := ⟨b, o, none⟩) h, fun b o h => hb.frozen (p := ⟨b, o, none⟩) h⟩

set_option maxRecDepth 100000 in
set_option maxHeartbeats 800000 in
theorem fbytes_yes (f t n : Int) (w : World) (hk : fbOk f t n = true) :
    Calls Tryz.prog 54 #[.agg #[.int .i64 f, .int .i64 t, .int .i64 n]] w fun e w' => ∃ g, e = .returned (.tuple #[.slice (some ⟨g, 0, none⟩) (fForm f t n).length (fForm f t n).length, .bool true]) ∧ w.heap.size ≤ g ∧ Own w' g 5 ((fForm f t n).map (Value.int .u8)).toArray ∧ Below w.heap.size w w' := by
  simp only [fbOk, Bool.and_eq_true, decide_eq_true_eq] at hk
  obtain ⟨⟨h1, h2⟩, h3, h4⟩ := hk
  have hp := fk_pow f
  have hn : n ≤ 65535 := by omega
  have hc := fk_cases f
  have d1 : decide (0 ≤ f ∧ f ≤ 255) = true := by simpa using h1
  have d2 : decide (0 ≤ t ∧ t ≤ 255) = true := by simpa using h2
  have d3 : decide (n < 0) = false := by simp; omega
  have d4 : decide (65535 < n) = false := by simp; omega
  have hf0 := h1.1
  have hf1 := h1.2
  have ht0 := h2.1
  have ht1 := h2.2
  have H4 := Lib.hid h4
  have w1f : IntKind.u8.wrap f = f := by rw [IntKind.wrap_u8']; omega
  have w1t : IntKind.u8.wrap t = t := by rw [IntKind.wrap_u8']; omega
  have w1n : IntKind.u32.wrap n = n := by rw [IntKind.wrap_u32']; omega
  have ho := Own.new w 42 #[.int .i64 f, .int .i64 t, .int .i64 n]
  have hb0 := bl_alloc (bl_refl w) (.cells #[.int .i64 f, .int .i64 t, .int .i64 n] 42)
  have hk1 : 1 ≤ fk f := by omega
  have hk4 : fk f ≤ 4 := by omega
  clear h1 h2 h4 hp hc
  go_enter Tryz.func54, Tryz.ntmps54
  go_wp2_with (go_at_call 103; refine (isByte_any _ _).mono ?_; rintro e w' ⟨rfl, rfl⟩)
  have c0 := ho.cell (i := 0) (v := .int .i64 f) rfl
  have c1 := ho.cell (i := 1) (v := .int .i64 t) rfl
  have c2 := ho.cell (i := 2) (v := .int .i64 n) rfl
  have hlt := ho.lt
  go_region_held3 (fun W => W.cell? ⟨w.heap.size, 0, none⟩ = some (.int .i64 f) ∧ W.cell? ⟨w.heap.size, 1, none⟩ = some (.int .i64 t) ∧ W.cell? ⟨w.heap.size, 2, none⟩ = some (.int .i64 n)) (first | go_keep | (exact ⟨g1.cell (i := 0) rfl, g1.cell (i := 1) rfl, g1.cell (i := 2) rfl⟩)) ((first | (go_at_call 105; refine (lengthSize_any _ _).mono ?_; rintro e w' ⟨rfl, rfl⟩) | (go_at_call 104; (with_reducible refine (put_yes (fk f) n _ hk1 hk4 h3 H4.out).mono ?_); rintro e w1 ⟨rfl, ho1, hb1⟩; have g1 := ho.drew.step hb1)))
  have k0 := g1.cell (i := 0) (v := .int .i64 f) rfl
  have k1 := g1.cell (i := 1) (v := .int .i64 t) rfl
  have hsz : (w.alloc (.cells #[.int .i64 f, .int .i64 t, .int .i64 n] 42)).drew.heap.size = w.heap.size + 1 := by simp [World.drew]
  rw [hsz] at ho1
  have hbw := bl_trans hb0 (show Below (w.alloc (.cells #[.int .i64 f, .int .i64 t, .int .i64 n] 42)).heap.size _ w1 from (Below.refl _ (w.alloc (.cells #[.int .i64 f, .int .i64 t, .int .i64 n] 42))).drew.trans hb1)
  have hba := bl_alloc (bl_alloc (bl_refl w1) (.cells #[.int .u8 f, .int .u8 t] 5)) (.cells #[.slice (some ⟨w1.heap.size, 0, none⟩) 2 2, .slice (some ⟨w.heap.size + 1, 0, none⟩) (fk f).toNat (fk f).toNat] 25)
  have om := ((Own.new w1 5 #[.int .u8 f, .int .u8 t]).alloc (.cells #[.slice (some ⟨w1.heap.size, 0, none⟩) 2 2, .slice (some ⟨w.heap.size + 1, 0, none⟩) (fk f).toNat (fk f).toNat] 25))
  have b1 := Bytes.of_owned (xs := [f, t]) om (by intro x hx; simp at hx; omega) om.lt
  have o2 := ho1.step hba
  have b2 := Bytes.of_owned (xs := digitsOf (fk f).toNat n) o2 (digitsOf_range _ _) o2.lt
  rw [digitsOf_len] at b2
  have hpt := parts_two (c1 := 2) (c2 := (fk f).toNat) (Own.new (w1.alloc (.cells #[.int .u8 f, .int .u8 t] 5)) 25 #[.slice (some ⟨w1.heap.size, 0, none⟩) 2 2, .slice (some ⟨w.heap.size + 1, 0, none⟩) (fk f).toNat (fk f).toNat]) b1 b2
  have hs2 : (w1.alloc (.cells #[.int .u8 f, .int .u8 t] 5)).heap.size = w1.heap.size + 1 := by simp
  rw [hs2] at hpt
  have HF := Lib.hid (show flat [⟨some ⟨w1.heap.size, 0, none⟩, 2, 2, [f, t]⟩, ⟨some ⟨w.heap.size + 1, 0, none⟩, (fk f).toNat, (fk f).toNat, digitsOf (fk f).toNat n⟩] = fForm f t n by simp [flat, fForm])
  have hlen : (fForm f t n).length ≤ 10 := by unfold fForm; rw [List.length_append, digitsOf_len]; simp; omega
  clear hsz hs2 ho1 b1 b2 om o2
  go_wp2_with fail
  refine (cat_own hpt (by omega) (by rw [HF.out]; omega)).mono ?_
  rw [HF.out]
  rintro e w2 ⟨rfl, ho2, hb2⟩
  rw [show ((w1.alloc (.cells #[.int .u8 f, .int .u8 t] 5)).alloc (.cells #[.slice (some ⟨w1.heap.size, 0, none⟩) 2 2, .slice (some ⟨w.heap.size + 1, 0, none⟩) (fk f).toNat (fk f).toNat] 25)).heap.size = w1.heap.size + 1 + 1 by simp] at ho2
  go_wp2
  go_ret2
  exact ⟨_, rfl, by have := hbw.size; omega, ho2, bl_trans (bl_trans hbw hba) hb2⟩

set_option maxRecDepth 100000 in
set_option maxHeartbeats 400000 in
theorem fbytes_no (f t n : Int) (w : World) (hk : fbOk f t n = false) (hn0 : -9223372036854775808 ≤ n) (hn1 : n ≤ 9223372036854775807) :
    Calls Tryz.prog 54 #[.agg #[.int .i64 f, .int .i64 t, .int .i64 n]] w fun e w' => e = .returned (.tuple #[.slice none 0 0, .bool false]) ∧ Below w.heap.size w w' := by
  have ho := Own.new w 42 #[.int .i64 f, .int .i64 t, .int .i64 n]
  have hb0 := bl_alloc (bl_refl w) (.cells #[.int .i64 f, .int .i64 t, .int .i64 n] 42)
  by_cases h1 : 0 ≤ f ∧ f ≤ 255
  · have d1 : decide (0 ≤ f ∧ f ≤ 255) = true := by simpa using h1
    by_cases h2 : 0 ≤ t ∧ t ≤ 255
    · have d2 : decide (0 ≤ t ∧ t ≤ 255) = true := by simpa using h2
      by_cases h3 : n < 0
      · have d3 : decide (n < 0) = true := by simpa using h3
        clear hk
        go_enter Tryz.func54, Tryz.ntmps54
        go_wp2_with (go_at_call 103; refine (isByte_any _ _).mono ?_; rintro e w' ⟨rfl, rfl⟩)
        go_ret2
        exact ⟨rfl, hb0⟩
      · have d3 : decide (n < 0) = false := by simpa using h3
        by_cases h4 : 65535 < n
        · have d4 : decide (65535 < n) = true := by simpa using h4
          clear hk
          go_enter Tryz.func54, Tryz.ntmps54
          go_wp2_with (go_at_call 103; refine (isByte_any _ _).mono ?_; rintro e w' ⟨rfl, rfl⟩)
          go_ret2
          exact ⟨rfl, hb0⟩
        · have d4 : decide (65535 < n) = false := by simpa using h4
          have hbig : 256 ^ (fk f).toNat ≤ n := by
            unfold fbOk at hk
            rw [decide_eq_true h1, decide_eq_true h2] at hk
            simp at hk
            have := hk (by omega)
            exact this
          have H4 := Lib.hid hbig
          have hc := fk_cases f
          have hk1 : 1 ≤ fk f := by omega
          have hk4 : fk f ≤ 4 := by omega
          have w1n : IntKind.u32.wrap n = n := by rw [IntKind.wrap_u32']; omega
          have hn32 : n < 4294967296 := by omega
          have h3' : 0 ≤ n := by omega
          have c0 := ho.cell (i := 0) (v := .int .i64 f) rfl
          have c1 := ho.cell (i := 1) (v := .int .i64 t) rfl
          have c2 := ho.cell (i := 2) (v := .int .i64 n) rfl
          clear hk hbig hc
          go_enter Tryz.func54, Tryz.ntmps54
          go_wp2_with (go_at_call 103; refine (isByte_any _ _).mono ?_; rintro e w' ⟨rfl, rfl⟩)
          go_region_held3 (fun W => W.cell? ⟨w.heap.size, 0, none⟩ = some (.int .i64 f) ∧ W.cell? ⟨w.heap.size, 1, none⟩ = some (.int .i64 t) ∧ W.cell? ⟨w.heap.size, 2, none⟩ = some (.int .i64 n)) (go_keep) ((first | (go_at_call 105; refine (lengthSize_any _ _).mono ?_; rintro e w' ⟨rfl, rfl⟩) | (go_at_call 104; (with_reducible refine (put_big (fk f) n _ hk1 hk4 h3' hn32 H4.out).mono ?_); rintro e w' ⟨rfl, rfl⟩)))
          go_wp2
          go_ret2
          exact ⟨rfl, hb0.drew⟩
    · have d2 : decide (0 ≤ t ∧ t ≤ 255) = false := by simpa using h2
      clear hk
      go_enter Tryz.func54, Tryz.ntmps54
      go_wp2_with (go_at_call 103; refine (isByte_any _ _).mono ?_; rintro e w' ⟨rfl, rfl⟩)
      go_ret2
      exact ⟨rfl, hb0⟩
  · have d1 : decide (0 ≤ f ∧ f ≤ 255) = false := by simpa using h1
    clear hk
    go_enter Tryz.func54, Tryz.ntmps54
    go_wp2_with (go_at_call 103; refine (isByte_any _ _).mono ?_; rintro e w' ⟨rfl, rfl⟩)
    go_ret2
    exact ⟨rfl, hb0⟩
end Go.Proofs.YtmcnpkfeipelgaaGreatDoor

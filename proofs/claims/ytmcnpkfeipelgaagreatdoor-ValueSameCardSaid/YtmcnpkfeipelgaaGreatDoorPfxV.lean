/- prefix.Valid, peerageref02.Valid -/
import Derived.Test.YtmcnpkfeipelgaaGreatDoorPfx
import Derived.Deep.MidRow
import Derived.Deep.QuietTactic
import Derived.BigQuiet
namespace Go.Proofs.YtmcnpkfeipelgaaGreatDoor
open Go.RowKit

/-- The cells of a prefix. -/
def pfx (f l : Int) (a : List Int) : Array Value := #[.int .i64 f, .int .i64 l] ++ arr a
theorem pfx_size {f l : Int} {a : List Int} (h : a.length = 16) : (pfx f l a).size = 18 := by simp [pfx, arr_size, h]
theorem pfx_0 (f l : Int) (a : List Int) : (pfx f l a)[0]? = some (.int .i64 f) := by unfold pfx; rw [Array.getElem?_append_left (by simp)]; rfl
theorem pfx_1 (f l : Int) (a : List Int) : (pfx f l a)[1]? = some (.int .i64 l) := by unfold pfx; rw [Array.getElem?_append_left (by simp)]; rfl
theorem pfx_at (f l : Int) (a : List Int) (j : Nat) : (pfx f l a)[2 + j]? = (arr a)[j]? := by
  unfold pfx
  rw [Array.getElem?_append_right (by simp)]
  simp
theorem pfx_range {w : World} {g : Nat} {t : TypeId} {f l : Int} {a : List Int} (h : Own w g t (pfx f l a)) : w.rangeAt g 2 (a.map (Value.int .u8)) := by
  intro j v hv
  refine h.cell ?_
  rw [pfx_at]
  simpa [arr] using hv

theorem byte_top : ∀ x, x < 256 → ∀ c, c ≤ 8 → (x / 2 ^ (8 - c) * 2 ^ (8 - c) = x ↔ ∀ t, t < 8 → c ≤ t → x / 2 ^ (7 - t) % 2 = 0) := by decide +kernel
theorem top_iff (x : Int) (c : Nat) (h0 : 0 ≤ x) (h1 : x ≤ 255) (hc : c ≤ 8) : top x c = x ↔ ∀ t, t < 8 → c ≤ t → x / 2 ^ (7 - t) % 2 = 0 := by
  obtain ⟨n, rfl⟩ := Int.eq_ofNat_of_zero_le h0
  have h := byte_top n (by omega) c hc
  have e1 : top (n : Int) c = ((n / 2 ^ (8 - c) * 2 ^ (8 - c) : Nat) : Int) := by
    unfold top; rw [Int.natCast_mul, Int.natCast_ediv, Int.natCast_pow]; rfl
  have e2 : ∀ t, (n : Int) / 2 ^ (7 - t) % 2 = ((n / 2 ^ (7 - t) % 2 : Nat) : Int) := fun t => by
    rw [Int.natCast_emod, Int.natCast_ediv, Int.natCast_pow]; rfl
  constructor
  · intro ht t ht8 hct
    rw [e2, h.1 (by rw [e1] at ht; exact_mod_cast ht) t ht8 hct]; rfl
  · intro hall
    rw [e1, h.2 (fun t ht8 hct => by have := hall t ht8 hct; rw [e2] at this; exact_mod_cast this)]
theorem mask_iff (a : List Int) (l : Int) (ha : IsAddr a) : maskL l a = a ↔ ∀ j : Nat, l ≤ j → j < 128 → bitAt a j = 0 := by
  have key : maskL l a = a ↔ ∀ i, i < 16 → top (nth a i) (keep l i).toNat = nth a i := by
    constructor
    · intro h i hi
      have h2 : nth (maskL l a) i = nth a i := by rw [h]
      have hil : i < a.length := by rw [ha.1]; exact hi
      have e : nth (maskL l a) i = top (nth a i) (keep l i).toNat := by simp [nth, maskL, hil]
      rw [← e]; exact h2
    · intro h
      apply List.ext_getElem (maskL_len l a)
      intro i h1 h2
      have := h i (by rw [ha.1] at h2; exact h2)
      simpa [nth, maskL, h2] using this
  rw [key]
  constructor
  · intro h j hj hj8
    have hr := ha.at_ (i := j / 8) (by omega)
    have hk := keep_range l (j / 8)
    have h1 := (top_iff _ _ hr.2.1 hr.2.2 (by omega)).1 (h (j / 8) (by omega)) (j % 8) (by omega) (by unfold keep; omega)
    exact h1
  · intro h i hi
    have hr := ha.at_ hi
    have hk := keep_range l i
    rw [top_iff _ _ hr.2.1 hr.2.2 (by omega)]
    intro t ht hct
    have h1 := h (8 * i + t) (by unfold keep at hct; omega) (by omega)
    unfold bitAt at h1
    rw [show (8 * i + t) / 8 = i by omega, show (8 * i + t) % 8 = t by omega] at h1
    exact h1
/-- A valid prefix. -/
def pfxOk (f l : Int) (a : List Int) : Bool := lenOk f l && decide (maskL l a = a)

set_option maxRecDepth 100000 in
theorem most_draws (f : Int) (W : World) : Draws Tryz.prog 157 #[.int .i64 f] W (.int .i64 (mostOf f)) := Draws.of_same fun _ => most_any f _
set_option maxRecDepth 100000 in
theorem size_16 : (Tryz.prog.info? 52).map (·.size) = some 16 := by kernel_rfl

set_option maxHeartbeats 800000 in
set_option maxRecDepth 100000 in
theorem rpvalid_any (f l : Int) (a : List Int) (w : World) (ha : IsAddr a) :
    Calls Tryz.prog 138 #[.agg (pfx f l a)] w fun e w' => e = .returned (.bool (pfxOk f l a)) ∧ Below w.heap.size w w' := by
  have h0 := pfx_0 f l a
  have h1 := pfx_1 f l a
  have hm : mostOf f ≤ 128 := by unfold mostOf; split <;> (try split) <;> omega
  have HD := Lib.hid (fun W => most_draws f W)
  have HL := Lib.hid (lenOk_most f l)
  have ho := Own.new w 54 (pfx f l a)
  by_cases hl : 0 ≤ l
  · by_cases hl2 : l ≤ mostOf f
    · have hk : lenOk f l = true := by rw [HL.out]; simp [hl, hl2]
      have HK := Lib.hid hk
      have HI := Lib.hid (mask_iff a l ha)
      clear hk
      go_enter Tryz.func138, Tryz.ntmps138
      go_wp2
      go_quiet ((go_at_call 157; exact (HD.out _).plain _))
      go_wp2
      go_loopw [2, 3] (fun _ i wr => ∃ j : Nat, j ≤ 128 ∧ i = .int .i64 j ∧ l ≤ j ∧ Hid (∀ t : Nat, l ≤ t → t < j → bitAt a t = 0) ∧ Own wr w.heap.size 54 (pfx f l a) ∧ Below w.heap.size w wr) (fun _ i _ => 128 - (intOf i).toNat)
      case atStart => exact ⟨l.toNat, by omega, by rw [Int.toNat_of_nonneg hl], by omega, Lib.hid (fun t h1 h2 => by omega), ho.drewN _, bl_drewN (bl_alloc (bl_refl w) _) _⟩
      case round =>
        obtain ⟨j, hj, rfl, hlj, hall, hor, hb⟩ := hrel
        by_cases hlt : j < 128
        · have hrg := pfx_range hor
          by_cases hbit : bitAt a j = 0
          · have hb1 : (bitAt a j != 0) = false := by simp [hbit]
            have HB := Lib.hid hbit
            clear hbit
            go_wp2_with (refine wpList_load_mid rfl 52 _ rfl w.heap.size 2 rfl (a.map (Value.int .u8)) (.array 16 5) hrg Tryz.underlying52 rfl (by rw [List.length_map, ha.1]; exact size_16) ?_)
            refine (bit_any a (j : Int) _ ha (by omega) (by omega)).mono ?_
            rintro e w2 ⟨rfl, hb2⟩
            rw [Int.toNat_natCast]
            go_wp2
            go_roundw
            case rel =>
              refine ⟨j + 1, by omega, by go_num, by omega, Lib.hid (fun t h1 h2 => ?_), hor.below hb2 hor.lt, bl_trans hb hb2⟩
              by_cases ht : t < j
              · exact hall.out t h1 ht
              · rw [show t = j by omega]; exact HB.out
            case measure => simp [intOf]; omega
          · have hb1 : (bitAt a j != 0) = true := by simp [hbit]
            have HB := Lib.hid hbit
            clear hbit
            go_wp2_with (refine wpList_load_mid rfl 52 _ rfl w.heap.size 2 rfl (a.map (Value.int .u8)) (.array 16 5) hrg Tryz.underlying52 rfl (by rw [List.length_map, ha.1]; exact size_16) ?_)
            refine (bit_any a (j : Int) _ ha (by omega) (by omega)).mono ?_
            rintro e w2 ⟨rfl, hb2⟩
            rw [Int.toNat_natCast]
            go_wp2
            go_ret
            refine ⟨?_, bl_trans hb hb2⟩
            have hno : ¬ maskL l a = a := fun h => HB.out (HI.out.1 h j hlj hlt)
            rw [show pfxOk f l a = false by simp [pfxOk, hno]]; rfl
        · have hyes : maskL l a = a := HI.out.2 (fun t h1 h2 => hall.out t h1 (by omega))
          have HY := Lib.hid hyes
          clear hyes
          go_wp2
          go_ret
          exact ⟨by rw [show pfxOk f l a = true by simp [pfxOk, HY.out, HK.out]]; rfl, hb⟩
    · have hk : lenOk f l = false := by rw [HL.out]; simp; omega
      have HK := Lib.hid hk
      clear hk
      go_enter Tryz.func138, Tryz.ntmps138
      go_wp2
      go_quiet ((go_at_call 157; exact (HD.out _).plain _))
      go_wp2
      go_ret
      exact ⟨by rw [show pfxOk f l a = false by simp [pfxOk, HK.out]]; rfl, bl_drewN (bl_alloc (bl_refl w) _) _⟩
  · have hk : lenOk f l = false := by rw [HL.out]; simp; omega
    have HK := Lib.hid hk
    have hd : decide (l < 0) = true := by simp; omega
    have hl' : l < 0 := by omega
    clear hk
    go_enter Tryz.func138, Tryz.ntmps138
    go_wp2
    go_quiet (fail)
    go_wp2
    go_ret
    exact ⟨by rw [show pfxOk f l a = false by simp [pfxOk, HK.out]]; rfl, bl_drewN (bl_alloc (bl_refl w) _) _⟩
end Go.Proofs.YtmcnpkfeipelgaaGreatDoor

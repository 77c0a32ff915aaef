/- peerageref02.Make -/
import Derived.Test.YtecbbjdcnlocdaaDoorPfxM
import Derived.Deep.DeepFit
namespace Go.Proofs.YtecbbjdcnlocdaaDoor
open Go.RowKit

theorem qmask_zero {a : List Int} (ha : IsAddr a) : maskL 0 a = zero16 := by
  apply List.ext_getElem (by rw [maskL_len, ha.1]; rfl)
  intro i h1 h2
  have hi : i < a.length := by rwa [maskL_len] at h1
  have hx := ha.2 _ (List.getElem_mem hi)
  simp only [maskL, List.getElem_mapIdx, zero16, List.getElem_replicate]
  have e : (keep 0 i).toNat = 0 := by unfold keep; omega
  rw [e]
  unfold top
  rw [show (2 : Int) ^ (8 - 0) = 256 from rfl, Int.ediv_eq_zero_of_lt hx.1 (by omega)]; rfl
theorem set_pfx2 (f l : Int) : ((pfx 0 0 zero16).setIfInBounds 0 (.int .i64 f)).setIfInBounds 1 (.int .i64 l) = pfx f l zero16 := by kernel_rfl
theorem byte_next : ∀ x, x < 256 → ∀ c, c < 8 → (x / 2 ^ (7 - c) % 2 = 1 → (x / 2 ^ (8 - c) * 2 ^ (8 - c)) ||| (2 ^ (7 - c)) = x / 2 ^ (8 - (c + 1)) * 2 ^ (8 - (c + 1))) ∧ (x / 2 ^ (7 - c) % 2 = 0 → x / 2 ^ (8 - c) * 2 ^ (8 - c) = x / 2 ^ (8 - (c + 1)) * 2 ^ (8 - (c + 1))) := by decide +kernel

theorem pad_nth {xs : List Int} {q : Nat} (h : q < xs.length) : nth (padTo xs) q = nth xs q := by
  unfold nth padTo
  rw [List.getD_eq_getElem?_getD, List.getD_eq_getElem?_getD, List.getElem?_append_left h]
theorem mask_nth (l : Int) {a : List Int} {q : Nat} (h : q < a.length) : nth (maskL l a) q = top (nth a q) (keep l q).toNat := by simp [nth, maskL, h]
theorem mask_ext {l l' : Int} {a : List Int} (h : ∀ i, i < a.length → top (nth a i) (keep l i).toNat = top (nth a i) (keep l' i).toNat) : maskL l a = maskL l' a := by
  apply List.ext_getElem (by rw [maskL_len, maskL_len])
  intro i h1 h2
  have hi : i < a.length := by rwa [maskL_len] at h1
  have := h i hi
  simpa [nth, maskL, hi] using this
theorem keep_other {j i : Nat} (h : i ≠ j / 8) : keep ((j : Int) + 1) i = keep (j : Int) i := by unfold keep; omega
theorem keep_here (j : Nat) : (keep (j : Int) (j / 8)).toNat = j % 8 ∧ (keep ((j : Int) + 1) (j / 8)).toNat = j % 8 + 1 := by unfold keep; omega
theorem bit_nat (n k : Nat) (h : n < 256) : (bits BinOp.and IntKind.u8 ((n : Int) / 2 ^ k) 1 == 1) = decide (n / 2 ^ k % 2 = 1) := by
  have h1 : n / 2 ^ k < 256 := Nat.lt_of_le_of_lt (Nat.div_le_self _ _) h
  have e : ((n : Int) / 2 ^ k) = ((n / 2 ^ k : Nat) : Int) := by rw [Int.natCast_ediv, Int.natCast_pow]; rfl
  have h2 := u8_and_nat (n / 2 ^ k) 1 h1 (by omega)
  rw [e]
  have h3 : bits BinOp.and IntKind.u8 ((n / 2 ^ k : Nat) : Int) 1 = ((n / 2 ^ k % 2 : Nat) : Int) := by rw [← nat_mask1]; exact h2
  rw [h3]
  by_cases hb : n / 2 ^ k % 2 = 1
  · rw [hb]; rfl
  · have : n / 2 ^ k % 2 = 0 := by omega
    rw [this]; rfl
theorem top_cast (n c : Nat) : top (n : Int) c = ((n / 2 ^ (8 - c) * 2 ^ (8 - c) : Nat) : Int) := by
  unfold top
  rw [Int.natCast_mul, Int.natCast_ediv, Int.natCast_pow]; rfl
theorem byte_nxt (n c : Nat) (h : n < 256) (hc : c < 8) :
    (n / 2 ^ (7 - c) % 2 = 1 → bits BinOp.or IntKind.u8 (top (n : Int) c) ((2 ^ (7 - c) : Nat) : Int) = top (n : Int) (c + 1)) ∧ (n / 2 ^ (7 - c) % 2 = 0 → top (n : Int) c = top (n : Int) (c + 1)) := by
  have hb := byte_next n h c hc
  have hp : 2 ^ (7 - c) < 256 := by
    have : 2 ^ (7 - c) ≤ 2 ^ 7 := Nat.pow_le_pow_right (by omega) (by omega)
    omega
  have ht : n / 2 ^ (8 - c) * 2 ^ (8 - c) < 256 := Nat.lt_of_le_of_lt (Nat.div_mul_le_self _ _) h
  constructor
  · intro h1
    rw [top_cast, top_cast, u8_or_nat _ _ ht hp, hb.1 h1]
  · intro h0
    rw [top_cast, top_cast, hb.2 h0]
theorem mask_step {xs : List Int} {j : Nat} (ha : IsAddr (padTo xs)) (hq : j / 8 < xs.length) :
    ((bits BinOp.and IntKind.u8 (nth xs (j / 8) / 2 ^ (7 - j % 8)) 1 == 1) = true → (maskL j (padTo xs)).set (j / 8) (bits BinOp.or IntKind.u8 (nth (maskL j (padTo xs)) (j / 8)) ((2 : Int) ^ (7 - j % 8) % 256)) = maskL ((j : Int) + 1) (padTo xs)) ∧
    ((bits BinOp.and IntKind.u8 (nth xs (j / 8) / 2 ^ (7 - j % 8)) 1 == 1) = false → maskL j (padTo xs) = maskL ((j : Int) + 1) (padTo xs)) := by
  have hl : (padTo xs).length = 16 := ha.1
  have hq16 : j / 8 < (padTo xs).length := by unfold padTo; rw [List.length_append]; omega
  have hx := ha.2 _ (nth_mem hq16)
  rw [pad_nth hq] at hx
  obtain ⟨n, hn⟩ := Int.eq_ofNat_of_zero_le hx.1
  have hn' : n < 256 := by omega
  obtain ⟨k1, k2⟩ := keep_here j
  have hbt := byte_nxt n (j % 8) hn' (by omega)
  have e1 : nth (maskL j (padTo xs)) (j / 8) = top (n : Int) (j % 8) := by rw [mask_nth _ hq16, pad_nth hq, k1, hn]
  have e2 : (2 : Int) ^ (7 - j % 8) % 256 = ((2 ^ (7 - j % 8) : Nat) : Int) := by
    have : 2 ^ (7 - j % 8) ≤ 2 ^ 7 := Nat.pow_le_pow_right (by omega) (by omega)
    rw [show ((2 : Int) ^ (7 - j % 8)) = ((2 ^ (7 - j % 8) : Nat) : Int) by rw [Int.natCast_pow]; rfl]
    generalize 2 ^ (7 - j % 8) = p at this
    omega
  rw [hn, bit_nat n _ hn', e1, e2]
  constructor
  · intro hb
    rw [hbt.1 (by simpa using hb)]
    apply List.ext_getElem (by rw [List.length_set, maskL_len, maskL_len])
    intro i h1 h2
    have hi : i < (padTo xs).length := by rwa [maskL_len] at h2
    rw [List.getElem_set]
    by_cases he : j / 8 = i
    · subst he
      rw [if_pos rfl]
      have := mask_nth ((j : Int) + 1) hq16
      rw [k2, pad_nth hq, hn] at this
      rw [← this, nth, List.getD_eq_getElem?_getD, List.getElem?_eq_getElem (by rw [maskL_len]; exact hq16)]; rfl
    · rw [if_neg he]
      simp only [maskL, List.getElem_mapIdx]
      rw [keep_other (fun e => he e.symm)]
  · intro hb
    have hb0 : n / 2 ^ (7 - j % 8) % 2 = 0 := by
      have : ¬ n / 2 ^ (7 - j % 8) % 2 = 1 := by simpa using hb
      omega
    refine mask_ext fun i hi => ?_
    by_cases he : i = j / 8
    · subst he
      rw [k1, k2, pad_nth hq, hn]
      exact hbt.2 hb0
    · rw [keep_other he]
theorem mask_full {xs : List Int} {l : Int} {j : Nat} (hl : (j : Int) ≤ l) (hj : (j : Int) = 8 * (xs.length : Int)) : maskL j (padTo xs) = maskL l (padTo xs) := by
  refine mask_ext fun i hi => ?_
  by_cases hx : i < xs.length
  · have e1 : (keep (j : Int) i).toNat = 8 := by unfold keep; omega
    have e2 : (keep l i).toNat = 8 := by unfold keep; omega
    rw [e1, e2]
  · have e : nth (padTo xs) i = 0 := by
      unfold nth padTo
      rw [List.getD_eq_getElem?_getD, List.getElem?_append_right (by omega)]
      unfold padTo at hi
      rw [List.length_append, List.length_replicate] at hi
      rw [List.getElem?_replicate, if_pos (by omega)]; rfl
    rw [e]
    unfold top
    simp

theorem pfx_set (f l : Int) (a : List Int) (q : Nat) (v : Int) : (pfx f l a).setIfInBounds (2 + q) (.int .u8 v) = pfx f l (a.set q v) := by
  unfold pfx
  rw [← arr_set, Array.setIfInBounds_append_right (by simp)]
  simp
def rmakeOk (f l : Int) (n : Nat) : Bool := lenOk f l && decide (8 * (n : Int) ≤ mostOf f)
theorem rmakeOk_eq (f l : Int) (n : Nat) : rmakeOk f l n = makeOk f l n := by
  unfold rmakeOk makeOk
  by_cases h : lenOk f l = true
  · rw [h]
    congr 1
    simp only [lenOk, decide_eq_true_eq] at h
    unfold widthOf mostOf at *
    by_cases h1 : f = 1
    · simp [h1]; omega
    · by_cases h2 : f = 2
      · simp [h2]; omega
      · simp [h1, h2] at h
  · simp [h]

set_option maxRecDepth 100000 in
set_option maxHeartbeats 400000 in
theorem rmake_no (f l : Int) (A : Option Addr) (n c : Nat) (w : World) (hn : n ≤ 1000000000) (hk : makeOk f l n = false) :
    Calls Tryd.prog 72 #[.int .i64 f, .int .i64 l, .slice A n c] w fun e w' => e = .returned (.tuple #[.agg (pfx 0 0 zero16), .bool false]) ∧ Below w.heap.size w w' := by
  rw [← rmakeOk_eq] at hk
  have hm : mostOf f ≤ 128 ∧ -1 ≤ mostOf f := by unfold mostOf; split <;> (try split) <;> omega
  have hm0 := hm.1
  have hm1 := hm.2
  have hz18 : #[.int .i64 0, .int .i64 0, .int .u8 0, .int .u8 0, .int .u8 0, .int .u8 0, .int .u8 0, .int .u8 0, .int .u8 0, .int .u8 0, .int .u8 0, .int .u8 0, .int .u8 0, .int .u8 0, .int .u8 0, .int .u8 0, .int .u8 0, .int .u8 0] = pfx 0 0 zero16 := pfx_zero.symm
  have ho := Own.new w 41 (pfx 0 0 zero16)
  have HK := Lib.hid hk
  clear hk hm
  by_cases h0 : l < 0
  · have d0 : decide (l < 0) = true := by simpa using h0
    go_enter Tryd.func72, Tryd.ntmps72
    go_wp2_with (first | (go_at_call 59; refine (most_any _ _).mono ?_; rintro e w' ⟨rfl, rfl⟩) | (refine wpList_store_row rfl 41 _ _ rfl w.heap.size (pfx 0 0 zero16) rfl rfl 41 (pfx 0 0 zero16) ho (pfx_info rfl) rfl (pfx_one 0 0 zero16) ?_))
    have hfin := ho.setRow (cs' := pfx 0 0 zero16)
    exact bodyPost_ret (results_cell_tmp rfl _ _ w.heap.size 41 (pfx 0 0 zero16) _ rfl hfin pfx_desc rfl (pfx_info rfl)) rfl ⟨rfl, bl_setRow (bl_alloc (bl_refl w) _) (Nat.le_refl _)⟩
  · have d0 : decide (l < 0) = false := by simpa using h0
    by_cases h1 : mostOf f < l
    · have d1 : decide (mostOf f < l) = true := by simpa using h1
      go_enter Tryd.func72, Tryd.ntmps72
      go_wp2_with (first | (go_at_call 59; refine (most_any _ _).mono ?_; rintro e w' ⟨rfl, rfl⟩) | (refine wpList_store_row rfl 41 _ _ rfl w.heap.size (pfx 0 0 zero16) rfl rfl 41 (pfx 0 0 zero16) ho (pfx_info rfl) rfl (pfx_one 0 0 zero16) ?_))
      have hfin := ho.setRow (cs' := pfx 0 0 zero16)
      exact bodyPost_ret (results_cell_tmp rfl _ _ w.heap.size 41 (pfx 0 0 zero16) _ rfl hfin pfx_desc rfl (pfx_info rfl)) rfl ⟨rfl, bl_setRow (bl_alloc (bl_refl w) _) (Nat.le_refl _)⟩
    · have d1 : decide (mostOf f < l) = false := by simpa using h1
      have h2 : mostOf f < 8 * (n : Int) := by
        have := HK.out
        unfold rmakeOk at this
        rw [lenOk_most, decide_eq_true (by omega), Bool.true_and, decide_eq_false_iff_not] at this
        omega
      have d2 : decide (mostOf f < 8 * (n : Int)) = true := by simpa using h2
      go_enter Tryd.func72, Tryd.ntmps72
      go_wp2_with (first | (go_at_call 59; refine (most_any _ _).mono ?_; rintro e w' ⟨rfl, rfl⟩) | (refine wpList_store_row rfl 41 _ _ rfl w.heap.size (pfx 0 0 zero16) rfl rfl 41 (pfx 0 0 zero16) ho (pfx_info rfl) rfl (pfx_one 0 0 zero16) ?_))
      have hfin := ho.setRow (cs' := pfx 0 0 zero16)
      exact bodyPost_ret (results_cell_tmp rfl _ _ w.heap.size 41 (pfx 0 0 zero16) _ rfl hfin pfx_desc rfl (pfx_info rfl)) rfl ⟨rfl, bl_setRow (bl_alloc (bl_refl w) _) (Nat.le_refl _)⟩

set_option maxRecDepth 100000 in
set_option maxHeartbeats 800000 in
theorem rmake_yes (f l : Int) (A : Option Addr) (n c : Nat) (xs : List Int) (w : World) (hx : Bytes w w.heap.size A n xs) (hk : makeOk f l n = true) :
    Calls Tryd.prog 72 #[.int .i64 f, .int .i64 l, .slice A n c] w fun e w' => e = .returned (.tuple #[.agg (pfx f l (maskL l (padTo xs))), .bool true]) ∧ Below w.heap.size w w' := by
  rw [← rmakeOk_eq] at hk
  have hm : mostOf f ≤ 128 ∧ -1 ≤ mostOf f := by unfold mostOf; split <;> (try split) <;> omega
  unfold rmakeOk at hk
  rw [lenOk_most] at hk
  simp only [Bool.and_eq_true, decide_eq_true_eq] at hk
  have hm0 := hm.1
  have hm1 := hm.2
  have hl0 : 0 ≤ l := hk.1.1
  have hl1 : l ≤ mostOf f := hk.1.2
  have hn1 : 8 * (n : Int) ≤ mostOf f := hk.2
  have hn16 : n ≤ 16 := by omega
  have d0 : decide (l < 0) = false := by simp; omega
  have d1 : decide (mostOf f < l) = false := by simp; omega
  have d2 : decide (mostOf f < 8 * (n : Int)) = false := by simp; omega
  have hpa := padTo_addr (xs := xs) (by rw [← hx.1]; exact hn16) hx.2.1
  have hz18 : #[.int .i64 0, .int .i64 0, .int .u8 0, .int .u8 0, .int .u8 0, .int .u8 0, .int .u8 0, .int .u8 0, .int .u8 0, .int .u8 0, .int .u8 0, .int .u8 0, .int .u8 0, .int .u8 0, .int .u8 0, .int .u8 0, .int .u8 0, .int .u8 0] = pfx 0 0 zero16 := pfx_zero.symm
  have ho := Own.new w 41 (pfx 0 0 zero16)
  have hset := set_pfx2 f l
  have HX := Lib.hid hx.1
  have o2 := Own.new (w.alloc (.cells (pfx 0 0 zero16) 41)) 41 (pfx 0 0 zero16)
  have hsz : (w.alloc (.cells (pfx 0 0 zero16) 41)).heap.size = w.heap.size + 1 := by simp
  rw [hsz] at o2
  clear hk hm hsz
  go_enter Tryd.func72, Tryd.ntmps72
  go_wp2_with (first | (go_at_call 59; refine (most_any _ _).mono ?_; rintro e w' ⟨rfl, rfl⟩) | (refine wpList_store_row rfl 41 _ _ rfl (w.heap.size + 1) (pfx f l zero16) rfl rfl 41 (pfx 0 0 zero16) o2 (pfx_info zero16_addr.1) (by rw [pfx_size zero16_addr.1, pfx_size zero16_addr.1]) (pfx_one _ _ _) ?_))
  have o3 := o2.setRow (cs' := pfx f l zero16)
  have o1 := (ho.alloc (.cells (pfx 0 0 zero16) 41)).keep (setRow_other _ (w.heap.size + 1) w.heap.size (pfx f l zero16) (by omega))
  have hbw := bl_setRow (cs := pfx f l zero16) (bl_alloc (bl_alloc (bl_refl w) (.cells (pfx 0 0 zero16) 41)) (.cells (pfx 0 0 zero16) 41)) (Nat.le_succ w.heap.size)
  clear ho o2 hz18 hset
  go_loopw [9] (fun i wr => ∃ j : Nat, j ≤ 128 ∧ (j : Int) ≤ l ∧ (j : Int) ≤ 8 * n ∧ i = .int .i64 j ∧ Own wr (w.heap.size + 1) 41 (pfx f l (maskL j (padTo xs))) ∧ Own wr w.heap.size 41 (pfx 0 0 zero16) ∧ Below w.heap.size w wr) (fun i _ => 128 - (intOf i).toNat)
  case atStart => exact ⟨0, by omega, by omega, by omega, rfl, (by rw [show ((0 : Nat) : Int) = 0 from rfl, qmask_zero hpa]; exact o3), o1, hbw⟩
  case round =>
    obtain ⟨j, hj, hjl, hjn, rfl, hom, hoz, hbr⟩ := hrel
    clear o3 o1 hbw
    by_cases hc1 : (j : Int) < 8 * n
    · by_cases hc2 : (j : Int) < l
      · have hq : j / 8 < n := by omega
        have hq16 : j / 8 < 16 := by omega
        have hqx : j / 8 < xs.length := by have := HX.out; omega
        have hst := mask_step hpa hqx
        have hml : (maskL (j : Int) (padTo xs)).length = 16 := by rw [maskL_len]; exact hpa.1
        obtain ⟨b, o, rfl, hbB, hcell, hx0, hx1⟩ := (hx.below hbr).at_ hq
        by_cases hb : (bits BinOp.and IntKind.u8 (nth xs (j / 8) / 2 ^ (7 - j % 8)) 1 == 1) = true
        · have HS := Lib.hid (hst.1 hb)
          have hc2 := hom.cell ((pfx_at f l (maskL (j : Int) (padTo xs)) (j / 8)).trans (arr_get (by rw [hml]; exact hq16)))
          have hf2 := hom.frozen (2 + j / 8)
          have hlt2 := hom.lt
          clear hst hml
          have hom2 := hom.set_ (2 + j / 8) (.int .u8 (bits BinOp.or IntKind.u8 (nth (maskL (j : Int) (padTo xs)) (j / 8)) ((2 : Int) ^ (7 - j % 8) % 256)))
          rw [pfx_set] at hom2
          go_wp2
          go_roundw
          case rel => exact ⟨j + 1, by omega, by omega, by omega, by go_num, by rw [show ((j + 1 : Nat) : Int) = (j : Int) + 1 by omega, ← HS.out]; exact hom2, hoz.far (by simp) _, hbr.setCell (Nat.le_succ _) _⟩
          case measure => simp [intOf]; omega
        · have hb' : (bits BinOp.and IntKind.u8 (nth xs (j / 8) / 2 ^ (7 - j % 8)) 1 == 1) = false := by simpa using hb
          have HS := Lib.hid (hst.2 hb')
          clear hst hb hml
          go_wp2
          go_roundw
          case rel => exact ⟨j + 1, by omega, by omega, by omega, by go_num, by rw [show ((j + 1 : Nat) : Int) = (j : Int) + 1 by omega, ← HS.out]; exact hom, hoz, hbr⟩
          case measure => simp [intOf]; omega
      · have HE := Lib.hid (show (j : Int) = l by omega)
        have HI := Lib.hid (pfx_info (f := f) (l := l) (maskL_addr (j : Int) hpa).1)
        have HS := Lib.hid (show (pfx 0 0 zero16).size = (pfx f l (maskL (j : Int) (padTo xs))).size by rw [pfx_size zero16_addr.1, pfx_size (maskL_addr (j : Int) hpa).1])
        go_wp2_with (first | (refine wpList_load_row rfl 41 _ rfl (w.heap.size + 1) rfl 41 (pfx f l (maskL (j : Int) (padTo xs))) (0, 0) (.struct (Tryd.prog.fieldsOf 41)) hom pfx_desc rfl HI.out ?_) | (refine wpList_store_row rfl 41 _ _ rfl w.heap.size (pfx f l (maskL (j : Int) (padTo xs))) rfl rfl 41 (pfx 0 0 zero16) hoz HI.out HS.out (pfx_one _ _ _) ?_))
        have hfin := hoz.setRow (cs' := pfx f l (maskL (j : Int) (padTo xs)))
        refine bodyPost_ret (v := .tuple #[.agg (pfx f l (maskL (j : Int) (padTo xs))), .bool true]) (results_cell_tmp (p := 6) (t := 7) (fn := Tryd.f72) rfl _ _ w.heap.size 41 (pfx f l (maskL (j : Int) (padTo xs))) _ rfl hfin pfx_desc rfl HI.out) rfl ⟨?_, bl_setRow hbr (Nat.le_refl _)⟩
        rw [HE.out]
    · have HE := Lib.hid (mask_full (xs := xs) hjl (by have := HX.out; omega))
      have HI := Lib.hid (pfx_info (f := f) (l := l) (maskL_addr (j : Int) hpa).1)
      have HS := Lib.hid (show (pfx 0 0 zero16).size = (pfx f l (maskL (j : Int) (padTo xs))).size by rw [pfx_size zero16_addr.1, pfx_size (maskL_addr (j : Int) hpa).1])
      go_wp2_with (first | (refine wpList_load_row rfl 41 _ rfl (w.heap.size + 1) rfl 41 (pfx f l (maskL (j : Int) (padTo xs))) (0, 0) (.struct (Tryd.prog.fieldsOf 41)) hom pfx_desc rfl HI.out ?_) | (refine wpList_store_row rfl 41 _ _ rfl w.heap.size (pfx f l (maskL (j : Int) (padTo xs))) rfl rfl 41 (pfx 0 0 zero16) hoz HI.out HS.out (pfx_one _ _ _) ?_))
      have hfin := hoz.setRow (cs' := pfx f l (maskL (j : Int) (padTo xs)))
      refine bodyPost_ret (v := .tuple #[.agg (pfx f l (maskL (j : Int) (padTo xs))), .bool true]) (results_cell_tmp (p := 6) (t := 7) (fn := Tryd.f72) rfl _ _ w.heap.size 41 (pfx f l (maskL (j : Int) (padTo xs))) _ rfl hfin pfx_desc rfl HI.out) rfl ⟨?_, bl_setRow hbr (Nat.le_refl _)⟩
      rw [HE.out]
end Go.Proofs.YtecbbjdcnlocdaaDoor

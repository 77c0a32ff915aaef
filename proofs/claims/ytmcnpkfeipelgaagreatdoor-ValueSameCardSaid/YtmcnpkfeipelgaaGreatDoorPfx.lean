/- Prefixes: words; width, most, bit, masked -/
import Derived.Test.YtmcnpkfeipelgaaGreatDoorTot
namespace Go.Proofs.YtmcnpkfeipelgaaGreatDoor
open Go.RowKit

/-- An array of bytes as a value's cells. -/
def arr (a : List Int) : Array Value := (a.map (Value.int .u8)).toArray
theorem arr_size (a : List Int) : (arr a).size = a.length := by simp [arr]
theorem arr_get {a : List Int} {i : Nat} (h : i < a.length) : (arr a)[i]? = some (.int .u8 (nth a i)) := by
  unfold arr
  rw [List.getElem?_toArray, List.getElem?_map, nth_some h]; rfl
/-- An address: 16 bytes. -/
def IsAddr (a : List Int) : Prop := a.length = 16 ∧ ∀ x ∈ a, 0 ≤ x ∧ x ≤ 255
theorem IsAddr.at_ {a : List Int} (h : IsAddr a) {i : Nat} (hi : i < 16) : (arr a)[i]? = some (.int .u8 (nth a i)) ∧ 0 ≤ nth a i ∧ nth a i ≤ 255 :=
  ⟨arr_get (by rw [h.1]; exact hi), h.2 _ (nth_mem (by rw [h.1]; exact hi))⟩

/-- Bit i of an address. -/
def bitAt (a : List Int) (i : Nat) : Int := nth a (i / 8) / 2 ^ (7 - i % 8) % 2

theorem and_one (y : Int) (h0 : 0 ≤ y) (h1 : y ≤ 255) : bits BinOp.and IntKind.i64 y 1 = y % 2 := by
  obtain ⟨n, rfl⟩ := Int.eq_ofNat_of_zero_le h0
  show IntKind.i64.wrap ((BitVec.ofInt 64 (n : Int) &&& BitVec.ofInt 64 1).toNat : Int) = _
  have e1 : (BitVec.ofInt 64 (n : Int)).toNat = n := by
    rw [BitVec.ofInt_natCast, BitVec.toNat_ofNat]; exact Nat.mod_eq_of_lt (by omega)
  rw [BitVec.toNat_and, e1, show (BitVec.ofInt 64 1).toNat = 1 from rfl, nat_mask1, IntKind.wrap_i64]
  omega
theorem div_byte (x : Int) (k : Nat) (h0 : 0 ≤ x) (h1 : x ≤ 255) : 0 ≤ x / 2 ^ k ∧ x / 2 ^ k ≤ 255 :=
  ⟨Int.ediv_nonneg h0 (Int.pow_nonneg (by omega)), Int.le_trans (Int.ediv_le_self _ h0) h1⟩

set_option maxRecDepth 100000 in
theorem bit_any (a : List Int) (i : Int) (w : World) (ha : IsAddr a) (h0 : 0 ≤ i) (h1 : i < 128) :
    Calls Tryz.prog 158 #[.agg (arr a), .int .i64 i] w fun e w' => e = .returned (.int .i64 (bitAt a i.toNat)) ∧ Below w.heap.size w w' := by
  have hq : i / 8 < 16 := by omega
  have hq0 : 0 ≤ i / 8 := by omega
  obtain ⟨g1, g2, g3⟩ := ha.at_ (i := (i / 8).toNat) (by omega)
  have hb := div_byte (nth a (i / 8).toNat) (7 - i % 8).toNat g2 g3
  have H := Lib.hid (and_one _ hb.1 hb.2)
  go_enter Tryz.func158, Tryz.ntmps158
  go_wp2
  go_ret
  refine ⟨?_, bl_alloc (bl_refl w) _⟩
  show Ending.returned (.int .i64 (bits BinOp.and IntKind.i64 _ 1)) = _
  rw [H.out]
  unfold bitAt
  rw [show (i / 8).toNat = i.toNat / 8 by omega, show (7 - i % 8).toNat = 7 - i.toNat % 8 by omega]

def widthOf (f : Int) : Int := if f = 1 then 32 else if f = 2 then 128 else 0
def mostOf (f : Int) : Int := if f = 1 then 32 else if f = 2 then 128 else -1
set_option maxRecDepth 100000 in
theorem width_any (f : Int) (w : World) : Calls Tryz.prog 164 #[.int .i64 f] w fun e w' => e = .returned (.int .i64 (widthOf f)) ∧ w = w' := by
  by_cases h1 : f = 1
  · subst h1
    go_enter Tryz.func164, Tryz.ntmps164
    go_wp2
    go_ret
    exact ⟨rfl, rfl⟩
  · have e1 : (f == 1) = false := by simpa using h1
    by_cases h2 : f = 2
    · subst h2
      go_enter Tryz.func164, Tryz.ntmps164
      go_wp2
      go_ret
      exact ⟨rfl, rfl⟩
    · have e2 : (f == 2) = false := by simpa using h2
      have e3 : widthOf f = 0 := by unfold widthOf; rw [if_neg h1, if_neg h2]
      have H3 := Lib.hid e3
      clear e3
      go_enter Tryz.func164, Tryz.ntmps164
      go_wp2
      go_ret
      exact ⟨by rw [H3.out]; rfl, rfl⟩
set_option maxRecDepth 100000 in
theorem most_any (f : Int) (w : World) : Calls Tryz.prog 157 #[.int .i64 f] w fun e w' => e = .returned (.int .i64 (mostOf f)) ∧ w = w' := by
  by_cases h1 : f = 1
  · subst h1
    go_enter Tryz.func157, Tryz.ntmps157
    go_wp2
    go_ret
    exact ⟨rfl, rfl⟩
  · have e1 : (f == 1) = false := by simpa using h1
    by_cases h2 : f = 2
    · subst h2
      go_enter Tryz.func157, Tryz.ntmps157
      go_wp2
      go_ret
      exact ⟨rfl, rfl⟩
    · have e2 : (f == 2) = false := by simpa using h2
      have e3 : mostOf f = -1 := by unfold mostOf; rw [if_neg h1, if_neg h2]
      have H3 := Lib.hid e3
      clear e3
      go_enter Tryz.func157, Tryz.ntmps157
      go_wp2
      go_ret
      exact ⟨by rw [H3.out]; rfl, rfl⟩

/-- A family and a length that fit. -/
def lenOk (f l : Int) : Bool := decide (0 < widthOf f ∧ 0 ≤ l ∧ l ≤ widthOf f)
theorem lenOk_most (f l : Int) : lenOk f l = decide (0 ≤ l ∧ l ≤ mostOf f) := by
  unfold lenOk widthOf mostOf
  by_cases h1 : f = 1
  · simp [h1]
  · by_cases h2 : f = 2
    · simp [h2]
    · simp [h1, h2]; omega
set_option maxRecDepth 100000 in
theorem hasLength_any (f l : Int) (w : World) : Calls Tryz.prog 152 #[.int .i64 f, .int .i64 l] w fun e w' => e = .returned (.bool (lenOk f l)) ∧ w = w' := by
  have hw : widthOf f = 32 ∨ widthOf f = 128 ∨ widthOf f = 0 := by unfold widthOf; split <;> (try split) <;> simp
  have hd : lenOk f l = decide (0 < widthOf f ∧ 0 ≤ l ∧ l ≤ widthOf f) := rfl
  have HD := Lib.hid hd
  clear hd
  by_cases h0 : 0 < widthOf f
  · by_cases h1 : 0 ≤ l
    · by_cases h2 : l ≤ widthOf f
      · have e : lenOk f l = true := by rw [HD.out]; simp [h0, h1, h2]
        have HE := Lib.hid e
        clear e hw
        go_enter Tryz.func152, Tryz.ntmps152
        go_wp2_with fail
        refine (width_any _ _).mono ?_
        rintro e w' ⟨rfl, rfl⟩
        go_wp2_with fail
        refine (width_any _ _).mono ?_
        rintro e w' ⟨rfl, rfl⟩
        go_wp2
        go_ret
        exact ⟨by rw [HE.out]; rfl, rfl⟩
      · have e : lenOk f l = false := by rw [HD.out]; simp [h2]
        have HE := Lib.hid e
        clear e hw
        go_enter Tryz.func152, Tryz.ntmps152
        go_wp2_with fail
        refine (width_any _ _).mono ?_
        rintro e w' ⟨rfl, rfl⟩
        go_wp2_with fail
        refine (width_any _ _).mono ?_
        rintro e w' ⟨rfl, rfl⟩
        go_wp2
        go_ret
        exact ⟨by rw [HE.out]; simp <;> omega, rfl⟩
    · have e : lenOk f l = false := by rw [HD.out]; simp [h1]
      have HE := Lib.hid e
      clear e hw
      go_enter Tryz.func152, Tryz.ntmps152
      go_wp2_with fail
      refine (width_any _ _).mono ?_
      rintro e w' ⟨rfl, rfl⟩
      go_wp2
      go_ret
      exact ⟨by rw [HE.out]; simp <;> omega, rfl⟩
  · have e : lenOk f l = false := by rw [HD.out]; simp [h0]
    have HE := Lib.hid e
    clear e hw
    go_enter Tryz.func152, Tryz.ntmps152
    go_wp2_with fail
    refine (width_any _ _).mono ?_
    rintro e w' ⟨rfl, rfl⟩
    go_wp2
    go_ret
    exact ⟨by rw [HE.out]; simp <;> omega, rfl⟩

/-- The first c bits of a byte. -/
def top (x : Int) (c : Nat) : Int := x / 2 ^ (8 - c) * 2 ^ (8 - c)
theorem top_nat : ∀ x, x < 256 → ∀ c, c ≤ 8 → x &&& (65280 / 2 ^ c % 256) = x / 2 ^ (8 - c) * 2 ^ (8 - c) := by decide +kernel
theorem top_bits (x k : Int) (h0 : 0 ≤ x) (h1 : x ≤ 255) (hk0 : 0 ≤ k) (hk : k ≤ 8) : bits BinOp.and IntKind.u8 x (65280 / 2 ^ k.toNat % 256) = top x k.toNat := by
  obtain ⟨n, rfl⟩ := Int.eq_ofNat_of_zero_le h0
  obtain ⟨c, rfl⟩ := Int.eq_ofNat_of_zero_le hk0
  have h := top_nat n (by omega) c (by omega)
  have e : (65280 / 2 ^ (c : Int).toNat % 256 : Int) = ((65280 / 2 ^ c % 256 : Nat) : Int) := by
    rw [Int.toNat_natCast, Int.natCast_emod, Int.natCast_ediv, Int.natCast_pow]; rfl
  rw [e, u8_and_nat _ _ (by omega) (Nat.mod_lt _ (by omega)), h, Int.toNat_natCast]
  unfold top
  rw [Int.natCast_mul, Int.natCast_ediv, Int.natCast_pow]; rfl
/-- How many of the first n bits lie in byte i. -/
def keep (n : Int) (i : Nat) : Int := min (max (n - 8 * i) 0) 8
theorem keep_range (n : Int) (i : Nat) : 0 ≤ keep n i ∧ keep n i ≤ 8 := by unfold keep; omega
def maskTo (n : Int) (a : List Int) (k : Nat) : List Int := a.mapIdx fun i x => if i < k then top x (keep n i).toNat else x
def maskL (n : Int) (a : List Int) : List Int := a.mapIdx fun i x => top x (keep n i).toNat
theorem maskTo_len (n : Int) (a : List Int) (k : Nat) : (maskTo n a k).length = a.length := by simp [maskTo]
theorem maskL_len (n : Int) (a : List Int) : (maskL n a).length = a.length := by simp [maskL]
theorem maskTo_zero (n : Int) (a : List Int) : maskTo n a 0 = a := by
  apply List.ext_getElem (by simp [maskTo])
  intro i h1 h2
  simp [maskTo]
theorem maskTo_all (n : Int) (a : List Int) (h : a.length = 16) : maskTo n a 16 = maskL n a := by
  apply List.ext_getElem (by simp [maskTo, maskL])
  intro i h1 h2
  simp [maskL, h] at h2
  simp [maskTo, maskL, h2]
theorem maskTo_nth (n : Int) (a : List Int) (k : Nat) (h : k < a.length) : nth (maskTo n a k) k = nth a k := by
  simp [nth, maskTo, h]
theorem maskTo_succ (n : Int) (a : List Int) (k : Nat) (h : k < a.length) : (maskTo n a k).set k (top (nth a k) (keep n k).toNat) = maskTo n a (k + 1) := by
  apply List.ext_getElem (by simp [maskTo])
  intro i h1 h2
  simp only [List.length_set, maskTo_len] at h1
  simp only [maskTo, List.getElem_set, List.getElem_mapIdx]
  by_cases hk : k = i
  · subst hk
    simp [nth, h]
  · rw [if_neg hk]
    by_cases hi : i < k
    · rw [if_pos hi, if_pos (by omega)]
    · rw [if_neg hi, if_neg (by omega)]
theorem arr_set (a : List Int) (i : Nat) (v : Int) : (arr a).setIfInBounds i (.int .u8 v) = arr (a.set i v) := by
  unfold arr
  rw [List.map_set, List.setIfInBounds_toArray]

theorem arr_one (a : List Int) : (arr a).all (·.oneCell') = true := by
  rw [Array.all_eq_true_iff_forall_mem]
  intro v hv
  simp [arr] at hv
  obtain ⟨x, _, rfl⟩ := hv
  rfl
set_option maxRecDepth 100000 in
theorem size_addr : (Tryz.prog.info? 185).map (·.size) = some 16 := by kernel_rfl
theorem Own.setRow {w : World} {g : Nat} {t : TypeId} {cs cs' : Array Value} (h : Own w g t cs) : Own (w.setRow g cs') g t cs' := setRow_heap w g cs cs' t _ h
theorem bl_setRow {W w : World} {g : Nat} {cs : Array Value} (h : Below W.heap.size W w) (hg : W.heap.size ≤ g) : Below W.heap.size W (w.setRow g cs) :=
  h.trans ⟨rfl, rfl, rfl, by simp, fun k hk => setRow_other w g k _ (by omega)⟩

theorem masked_step {w wr : World} {a : List Int} {n v : Int} {k : Nat} {T : TypeId} (ha : a.length = 16) (hk : k < 16) (ho : Own wr w.heap.size T (arr (maskTo n a k))) (hz : Own wr (w.heap.size + 1) T (arr (List.replicate 16 0))) (hb : Below w.heap.size w wr) (hv : v = top (nth a k) (keep n k).toNat) :
    Own (wr.setCell ⟨w.heap.size, k, none⟩ (.int .u8 v)).drew w.heap.size T (arr (maskTo n a (k + 1))) ∧ Own (wr.setCell ⟨w.heap.size, k, none⟩ (.int .u8 v)).drew (w.heap.size + 1) T (arr (List.replicate 16 0)) ∧ Below w.heap.size w (wr.setCell ⟨w.heap.size, k, none⟩ (.int .u8 v)).drew := by
  subst hv
  refine ⟨?_, (hz.far (by simp) _).drew, (hb.setCell (Nat.le_refl _) _).drew⟩
  have h := ho.set_ k (.int .u8 (top (nth a k) (keep n k).toNat))
  rw [arr_set, maskTo_succ n a k (by omega)] at h
  exact h.drew

set_option maxRecDepth 100000 in
set_option maxHeartbeats 800000 in
theorem masked_any (a : List Int) (n : Int) (w : World) (ha : IsAddr a) (h0 : 0 ≤ n) (h1 : n ≤ 128) :
    Calls Tryz.prog 165 #[.agg (arr a), .int .i64 n] w fun e w' => e = .returned (.agg (arr (maskL n a))) ∧ Below w.heap.size w w' := by
  have hal := Lib.hid ha.1
  have hz0 : Own ((w.alloc (.cells (arr a) 185)).alloc (.cells (arr (List.replicate 16 0)) 185)) (w.heap.size + 1) 185 (arr (List.replicate 16 0)) := by
    have := Own.new (w.alloc (.cells (arr a) 185)) 185 (arr (List.replicate 16 0))
    simpa using this
  have hz1 := (Own.new w 185 (arr a)).alloc (.cells (arr (List.replicate 16 0)) 185)
  have hb0 := bl_alloc (bl_alloc (bl_refl w) (.cells (arr a) 185)) (.cells (arr (List.replicate 16 0)) 185)
  go_enter Tryz.func165, Tryz.ntmps165
  go_wp2
  go_loopw [5, 6, 7] (fun _ _ i wr => ∃ k : Nat, k ≤ 16 ∧ i = .int .i64 k ∧ Own wr w.heap.size 185 (arr (maskTo n a k)) ∧ Own wr (w.heap.size + 1) 185 (arr (List.replicate 16 0)) ∧ Below w.heap.size w wr) (fun _ _ i _ => 16 - (intOf i).toNat)
  case atStart => exact ⟨0, by omega, rfl, by rw [maskTo_zero]; exact hz1, hz0, hb0⟩
  case round =>
    obtain ⟨k, hk, rfl, ho, hz, hb⟩ := hrel
    clear hz0 hz1 hb0
    by_cases hlt : k < 16
    · have hkl : k < a.length := by rw [hal.out]; exact hlt
      have hc : wr.cell? ⟨w.heap.size, k, none⟩ = some (.int .u8 (nth a k)) := by
        have := ho.cell (i := k) (arr_get (by rw [maskTo_len]; exact hkl))
        rwa [maskTo_nth n a k hkl] at this
      have hf := ho.frozen k
      have hbl := ho.lt
      have hr := ha.at_ hlt
      have hr1 := hr.2.1
      have hr2 := hr.2.2
      clear hr
      have hkr := keep_range n k
      have htb := Lib.hid (fun K h0 h1 => top_bits (nth a k) K hr1 hr2 h0 h1)
      have hkd := Lib.hid (show keep n k = min (max (n - 8 * k) 0) 8 from rfl)
      clear hkr
      go_wp2
      all_goals
        go_region
        go_wp2
        go_roundw
        case rel =>
          refine ⟨k + 1, by omega, by go_num, masked_step hal.out hlt ho hz hb ?_⟩
          have hd := hkd.out
          first
            | (have e : keep n k = 8 := by omega
               rw [e]; exact htb.out 8 (by omega) (by omega))
            | (have e : keep n k = 0 := by omega
               rw [e]; exact htb.out 0 (by omega) (by omega))
            | (have e : keep n k = n - 8 * k := by omega
               rw [e]; exact htb.out _ (by omega) (by omega))
        case measure => simp [intOf]; omega
    · have e : k = 16 := by omega
      have he : maskTo n a k = maskL n a := by rw [e]; exact maskTo_all n a hal.out
      rw [he] at ho
      have hm16 : (maskL n a).length = 16 := by rw [maskL_len]; exact hal.out
      have HM := Lib.hid hm16
      clear e he hm16
      go_wp2_with (first | (refine wpList_load_row rfl 185 _ rfl w.heap.size rfl 185 (arr (maskL n a)) (0, 0) (.array 16 5) ho Tryz.underlying185 rfl (by rw [arr_size, HM.out]; exact size_addr) ?_) | (refine wpList_store_row rfl 185 _ _ rfl (w.heap.size + 1) (arr (maskL n a)) rfl rfl 185 (arr (List.replicate 16 0)) hz (by rw [arr_size, HM.out]; exact size_addr) (by rw [arr_size, arr_size, HM.out, List.length_replicate]) (arr_one _) ?_))
      have hfin := hz.setRow (cs' := arr (maskL n a))
      refine bodyPost_ret (v := .agg (arr (maskL n a))) (results_cell_row rfl _ _ (w.heap.size + 1) 185 (arr (maskL n a)) (0, 0) (.array 16 5) rfl hfin Tryz.underlying185 rfl (by rw [arr_size, HM.out]; exact size_addr)) rfl ⟨rfl, bl_setRow hb (by omega)⟩
end Go.Proofs.YtmcnpkfeipelgaaGreatDoor

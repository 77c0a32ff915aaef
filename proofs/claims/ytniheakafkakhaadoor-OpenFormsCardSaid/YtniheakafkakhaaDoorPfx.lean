/- Prefixes: words; width, most, bit, masked -/
import Derived.Test.YtniheakafkakhaaDoorTot
namespace Go.Proofs.YtniheakafkakhaaDoor
open Go.RowKit

/-- An array of bytes as a value's cells. -/
def arr (a : List Int) : Array Value := (a.map (Value.int .u8)).toArray
theorem arr_size (a : List Int) : (arr a).size = a.length := by simp [arr]
theorem arr_get {a : List Int} {i : Nat} (h : i < a.length) : (arr a)[i]? = some (.int .u8 (nth a i)) := by
  unfold arr
  rw [List.getElem?_toArray, List.getElem?_map, nth_some h]; rfl
/-- An address: 16 bytes. -/
def IsAddr (a : List Int) : Prop := a.length = 16 ∧ ∀ x ∈ a, 0 ≤ x ∧ x ≤ 255
theorem IsAddr.at_ {a : List Int} (h : IsAddr a) {i : Nat} (hi : i < 16) : (arr a)[i]? = some (.int .u8 (nth a i)) ∧ 0 ≤ nth a i ∧ nth a i ≤ 255 :=
  ⟨arr_get (by rw [h.1]; exact hi), h.2 _ (nth_mem (by rw [h.1]; exact hi))⟩

/-- Bit i of an address. -/
def bitAt (a : List Int) (i : Nat) : Int := nth a (i / 8) / 2 ^ (7 - i % 8) % 2

theorem and_one (y : Int) (h0 : 0 ≤ y) (h1 : y ≤ 255) : bits BinOp.and IntKind.i64 y 1 = y % 2 := by
  obtain ⟨n, rfl⟩ := Int.eq_ofNat_of_zero_le h0
  show IntKind.i64.wrap ((BitVec.ofInt 64 (n : Int) &&& BitVec.ofInt 64 1).toNat : Int) = _
  have e1 : (BitVec.ofInt 64 (n : Int)).toNat = n := by
    rw [BitVec.ofInt_natCast, BitVec.toNat_ofNat]; exact Nat.mod_eq_of_lt (by omega)
  rw [BitVec.toNat_and, e1, show (BitVec.ofInt 64 1).toNat = 1 from rfl, nat_mask1, IntKind.wrap_i64]
  omega
theorem div_byte (x : Int) (k : Nat) (h0 : 0 ≤ x) (h1 : x ≤ 255) : 0 ≤ x / 2 ^ k ∧ x / 2 ^ k ≤ 255 :=
  ⟨Int.ediv_nonneg h0 (Int.pow_nonneg (by omega)), Int.le_trans (Int.ediv_le_self _ h0) h1⟩

def widthOf (f : Int) : Int := if f = 1 then 32 else if f = 2 then 128 else 0
def mostOf (f : Int) : Int := if f = 1 then 32 else if f = 2 then 128 else -1
/-- A family and a length that fit. -/
def lenOk (f l : Int) : Bool := decide (0 < widthOf f ∧ 0 ≤ l ∧ l ≤ widthOf f)
theorem lenOk_most (f l : Int) : lenOk f l = decide (0 ≤ l ∧ l ≤ mostOf f) := by
  unfold lenOk widthOf mostOf
  by_cases h1 : f = 1
  · simp [h1]
  · by_cases h2 : f = 2
    · simp [h2]
    · simp [h1, h2]; omega
/-- The first c bits of a byte. -/
def top (x : Int) (c : Nat) : Int := x / 2 ^ (8 - c) * 2 ^ (8 - c)
theorem top_nat : ∀ x, x < 256 → ∀ c, c ≤ 8 → x &&& (65280 / 2 ^ c % 256) = x / 2 ^ (8 - c) * 2 ^ (8 - c) := by decide +kernel
theorem top_bits (x k : Int) (h0 : 0 ≤ x) (h1 : x ≤ 255) (hk0 : 0 ≤ k) (hk : k ≤ 8) : bits BinOp.and IntKind.u8 x (65280 / 2 ^ k.toNat % 256) = top x k.toNat := by
  obtain ⟨n, rfl⟩ := Int.eq_ofNat_of_zero_le h0
  obtain ⟨c, rfl⟩ := Int.eq_ofNat_of_zero_le hk0
  have h := top_nat n (by omega) c (by omega)
  have e : (65280 / 2 ^ (c : Int).toNat % 256 : Int) = ((65280 / 2 ^ c % 256 : Nat) : Int) := by
    rw [Int.toNat_natCast, Int.natCast_emod, Int.natCast_ediv, Int.natCast_pow]; rfl
  rw [e, u8_and_nat _ _ (by omega) (Nat.mod_lt _ (by omega)), h, Int.toNat_natCast]
  unfold top
  rw [Int.natCast_mul, Int.natCast_ediv, Int.natCast_pow]; rfl
/-- How many of the first n bits lie in byte i. -/
def keep (n : Int) (i : Nat) : Int := min (max (n - 8 * i) 0) 8
theorem keep_range (n : Int) (i : Nat) : 0 ≤ keep n i ∧ keep n i ≤ 8 := by unfold keep; omega
def maskTo (n : Int) (a : List Int) (k : Nat) : List Int := a.mapIdx fun i x => if i < k then top x (keep n i).toNat else x
def maskL (n : Int) (a : List Int) : List Int := a.mapIdx fun i x => top x (keep n i).toNat
theorem maskTo_len (n : Int) (a : List Int) (k : Nat) : (maskTo n a k).length = a.length := by simp [maskTo]
theorem maskL_len (n : Int) (a : List Int) : (maskL n a).length = a.length := by simp [maskL]
theorem maskTo_zero (n : Int) (a : List Int) : maskTo n a 0 = a := by
  apply List.ext_getElem (by simp [maskTo])
  intro i h1 h2
  simp [maskTo]
theorem maskTo_all (n : Int) (a : List Int) (h : a.length = 16) : maskTo n a 16 = maskL n a := by
  apply List.ext_getElem (by simp [maskTo, maskL])
  intro i h1 h2
  simp [maskL, h] at h2
  simp [maskTo, maskL, h2]
theorem maskTo_nth (n : Int) (a : List Int) (k : Nat) (h : k < a.length) : nth (maskTo n a k) k = nth a k := by
  simp [nth, maskTo, h]
theorem maskTo_succ (n : Int) (a : List Int) (k : Nat) (h : k < a.length) : (maskTo n a k).set k (top (nth a k) (keep n k).toNat) = maskTo n a (k + 1) := by
  apply List.ext_getElem (by simp [maskTo])
  intro i h1 h2
  simp only [List.length_set, maskTo_len] at h1
  simp only [maskTo, List.getElem_set, List.getElem_mapIdx]
  by_cases hk : k = i
  · subst hk
    simp [nth, h]
  · rw [if_neg hk]
    by_cases hi : i < k
    · rw [if_pos hi, if_pos (by omega)]
    · rw [if_neg hi, if_neg (by omega)]
theorem arr_set (a : List Int) (i : Nat) (v : Int) : (arr a).setIfInBounds i (.int .u8 v) = arr (a.set i v) := by
  unfold arr
  rw [List.map_set, List.setIfInBounds_toArray]

theorem arr_one (a : List Int) : (arr a).all (·.oneCell') = true := by
  rw [Array.all_eq_true_iff_forall_mem]
  intro v hv
  simp [arr] at hv
  obtain ⟨x, _, rfl⟩ := hv
  rfl
theorem Own.setRow {w : World} {g : Nat} {t : TypeId} {cs cs' : Array Value} (h : Own w g t cs) : Own (w.setRow g cs') g t cs' := setRow_heap w g cs cs' t _ h
theorem bl_setRow {W w : World} {g : Nat} {cs : Array Value} (h : Below W.heap.size W w) (hg : W.heap.size ≤ g) : Below W.heap.size W (w.setRow g cs) :=
  h.trans ⟨rfl, rfl, rfl, by simp, fun k hk => setRow_other w g k _ (by omega)⟩

theorem masked_step {w wr : World} {a : List Int} {n v : Int} {k : Nat} {T : TypeId} (ha : a.length = 16) (hk : k < 16) (ho : Own wr w.heap.size T (arr (maskTo n a k))) (hz : Own wr (w.heap.size + 1) T (arr (List.replicate 16 0))) (hb : Below w.heap.size w wr) (hv : v = top (nth a k) (keep n k).toNat) :
    Own (wr.setCell ⟨w.heap.size, k, none⟩ (.int .u8 v)).drew w.heap.size T (arr (maskTo n a (k + 1))) ∧ Own (wr.setCell ⟨w.heap.size, k, none⟩ (.int .u8 v)).drew (w.heap.size + 1) T (arr (List.replicate 16 0)) ∧ Below w.heap.size w (wr.setCell ⟨w.heap.size, k, none⟩ (.int .u8 v)).drew := by
  subst hv
  refine ⟨?_, (hz.far (by simp) _).drew, (hb.setCell (Nat.le_refl _) _).drew⟩
  have h := ho.set_ k (.int .u8 (top (nth a k) (keep n k).toNat))
  rw [arr_set, maskTo_succ n a k (by omega)] at h
  exact h.drew

end Go.Proofs.YtniheakafkakhaaDoor

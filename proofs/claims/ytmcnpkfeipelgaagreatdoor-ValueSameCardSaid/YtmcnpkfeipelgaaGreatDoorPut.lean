/- octet.Put, peerageref01.Put: the bytes of a number -/
import Derived.Test.YtmcnpkfeipelgaaGreatDoorNum
import Derived.Handy
namespace Go.Proofs.YtmcnpkfeipelgaaGreatDoor
open Go.RowKit

/-- A number as k bytes, the highest first. -/
def digitsOf (k : Nat) (x : Int) : List Int := (List.range k).map fun i => x / 256 ^ (k - 1 - i) % 256
theorem digitsOf_len (k : Nat) (x : Int) : (digitsOf k x).length = k := by simp [digitsOf]
theorem digitsOf_range (k : Nat) (x : Int) : ∀ y ∈ digitsOf k x, 0 ≤ y ∧ y ≤ 255 := by
  intro y hy
  obtain ⟨i, _, rfl⟩ := List.mem_map.1 hy
  omega
theorem digitsOf_1 (x : Int) : digitsOf 1 x = [x % 256] := by simp [digitsOf, List.range_succ]
theorem digitsOf_2 (x : Int) : digitsOf 2 x = [x / 256 % 256, x % 256] := by simp [digitsOf, List.range_succ]
theorem digitsOf_3 (x : Int) : digitsOf 3 x = [x / 65536 % 256, x / 256 % 256, x % 256] := by simp [digitsOf, List.range_succ]
theorem digitsOf_4 (x : Int) : digitsOf 4 x = [x / 16777216 % 256, x / 65536 % 256, x / 256 % 256, x % 256] := by simp [digitsOf, List.range_succ]
theorem and_byte (a : Int) (h0 : 0 ≤ a) (h1 : a < 4294967296) : bits BinOp.and IntKind.u32 a 255 = a % 256 := by
  rw [u32_and _ _ h0 h1 (by omega) (by omega)]
  rw [show (255 : Int).toNat = 255 from rfl, nat_mask8]
  omega

set_option maxRecDepth 100000 in
theorem put_1 (x : Int) (w : World) (h0 : 0 ≤ x) (h1 : x < 256) :
    Calls Tryz.prog 104 #[.int .i64 1, .int .u32 x] w fun e w' => e = .returned (.tuple #[.slice (some ⟨w.heap.size, 0, none⟩) 1 1, .bool true]) ∧
      Own w' w.heap.size 5 ((digitsOf 1 x).map (Value.int .u8)).toArray ∧ Below w.heap.size w w' := by
  have ht : (x / 256 != 0) = false := by simp; omega
  have hmk : ∀ w, (Instr.makeSlice 25 (.int .i64 1) (.int .i64 1)).run Tryz.prog w = .ok (.slice (some ⟨w.heap.size, 0, none⟩) 1 1) (w.alloc (.cells #[.int .u8 0] 5)) := fun _ => by kernel_rfl
  go_enter Tryz.func104, Tryz.ntmps104
  go_wp2
  go_rounds 2
  go_ret2
  refine ⟨rfl, ?_, (Below.refl _ _).alloc (Nat.le_refl _) _⟩
  unfold Own
  rw [heap_alloc_new, digitsOf_1]
  simp
  try omega
set_option maxRecDepth 100000 in
theorem put_1_no (x : Int) (w : World) (h0 : 0 ≤ x) (h2 : x < 4294967296) (h1 : 256 ≤ x) :
    Calls Tryz.prog 104 #[.int .i64 1, .int .u32 x] w fun e w' => e = .returned (.tuple #[.slice none 0 0, .bool false]) ∧ w = w' := by
  have ht : (x / 256 != 0) = true := by simp; omega
  go_enter Tryz.func104, Tryz.ntmps104
  go_wp2
  go_ret2
  exact ⟨rfl, rfl⟩

set_option maxRecDepth 100000 in
theorem put_2 (x : Int) (w : World) (h0 : 0 ≤ x) (h1 : x < 65536) :
    Calls Tryz.prog 104 #[.int .i64 2, .int .u32 x] w fun e w' => e = .returned (.tuple #[.slice (some ⟨w.heap.size, 0, none⟩) 2 2, .bool true]) ∧
      Own w' w.heap.size 5 ((digitsOf 2 x).map (Value.int .u8)).toArray ∧ Below w.heap.size w w' := by
  have ht : (x / 65536 != 0) = false := by simp; omega
  have hmk : ∀ w, (Instr.makeSlice 25 (.int .i64 2) (.int .i64 2)).run Tryz.prog w = .ok (.slice (some ⟨w.heap.size, 0, none⟩) 2 2) (w.alloc (.cells #[.int .u8 0, .int .u8 0] 5)) := fun _ => by kernel_rfl
  go_enter Tryz.func104, Tryz.ntmps104
  go_wp2
  go_rounds 3
  go_ret2
  refine ⟨rfl, ?_, (Below.refl _ _).alloc (Nat.le_refl _) _⟩
  unfold Own
  rw [heap_alloc_new, digitsOf_2]
  simp
  try omega
set_option maxRecDepth 100000 in
theorem put_2_no (x : Int) (w : World) (h0 : 0 ≤ x) (h2 : x < 4294967296) (h1 : 65536 ≤ x) :
    Calls Tryz.prog 104 #[.int .i64 2, .int .u32 x] w fun e w' => e = .returned (.tuple #[.slice none 0 0, .bool false]) ∧ w = w' := by
  have ht : (x / 65536 != 0) = true := by simp; omega
  go_enter Tryz.func104, Tryz.ntmps104
  go_wp2
  go_ret2
  exact ⟨rfl, rfl⟩

set_option maxRecDepth 100000 in
theorem put_3 (x : Int) (w : World) (h0 : 0 ≤ x) (h1 : x < 16777216) :
    Calls Tryz.prog 104 #[.int .i64 3, .int .u32 x] w fun e w' => e = .returned (.tuple #[.slice (some ⟨w.heap.size, 0, none⟩) 3 3, .bool true]) ∧
      Own w' w.heap.size 5 ((digitsOf 3 x).map (Value.int .u8)).toArray ∧ Below w.heap.size w w' := by
  have ht : (x / 16777216 != 0) = false := by simp; omega
  have hmk : ∀ w, (Instr.makeSlice 25 (.int .i64 3) (.int .i64 3)).run Tryz.prog w = .ok (.slice (some ⟨w.heap.size, 0, none⟩) 3 3) (w.alloc (.cells #[.int .u8 0, .int .u8 0, .int .u8 0] 5)) := fun _ => by kernel_rfl
  go_enter Tryz.func104, Tryz.ntmps104
  go_wp2
  go_rounds 4
  go_ret2
  refine ⟨rfl, ?_, (Below.refl _ _).alloc (Nat.le_refl _) _⟩
  unfold Own
  rw [heap_alloc_new, digitsOf_3]
  simp
  try omega
set_option maxRecDepth 100000 in
theorem put_3_no (x : Int) (w : World) (h0 : 0 ≤ x) (h2 : x < 4294967296) (h1 : 16777216 ≤ x) :
    Calls Tryz.prog 104 #[.int .i64 3, .int .u32 x] w fun e w' => e = .returned (.tuple #[.slice none 0 0, .bool false]) ∧ w = w' := by
  have ht : (x / 16777216 != 0) = true := by simp; omega
  go_enter Tryz.func104, Tryz.ntmps104
  go_wp2
  go_ret2
  exact ⟨rfl, rfl⟩

set_option maxRecDepth 100000 in
theorem put_4 (x : Int) (w : World) (h0 : 0 ≤ x) (h1 : x < 4294967296) :
    Calls Tryz.prog 104 #[.int .i64 4, .int .u32 x] w fun e w' => e = .returned (.tuple #[.slice (some ⟨w.heap.size, 0, none⟩) 4 4, .bool true]) ∧
      Own w' w.heap.size 5 ((digitsOf 4 x).map (Value.int .u8)).toArray ∧ Below w.heap.size w w' := by
  have ht : (x / 4294967296 != 0) = false := by simp; omega
  have hmk : ∀ w, (Instr.makeSlice 25 (.int .i64 4) (.int .i64 4)).run Tryz.prog w = .ok (.slice (some ⟨w.heap.size, 0, none⟩) 4 4) (w.alloc (.cells #[.int .u8 0, .int .u8 0, .int .u8 0, .int .u8 0] 5)) := fun _ => by kernel_rfl
  go_enter Tryz.func104, Tryz.ntmps104
  go_wp2
  go_rounds 5
  go_ret2
  refine ⟨rfl, ?_, (Below.refl _ _).alloc (Nat.le_refl _) _⟩
  unfold Own
  rw [heap_alloc_new, digitsOf_4]
  simp
  try omega
set_option maxRecDepth 100000 in
theorem put_4_no (x : Int) (w : World) (h0 : 0 ≤ x) (h2 : x < 4294967296) (h1 : 4294967296 ≤ x) :
    Calls Tryz.prog 104 #[.int .i64 4, .int .u32 x] w fun e w' => e = .returned (.tuple #[.slice none 0 0, .bool false]) ∧ w = w' := by
  have ht : (x / 4294967296 != 0) = true := by simp; omega
  go_enter Tryz.func104, Tryz.ntmps104
  go_wp2
  go_ret2
  exact ⟨rfl, rfl⟩

set_option maxRecDepth 100000 in
theorem put_yes (k x : Int) (w : World) (hk : 1 ≤ k) (hk4 : k ≤ 4) (h0 : 0 ≤ x) (h1 : x < 256 ^ k.toNat) :
    Calls Tryz.prog 104 #[.int .i64 k, .int .u32 x] w fun e w' => e = .returned (.tuple #[.slice (some ⟨w.heap.size, 0, none⟩) k.toNat k.toNat, .bool true]) ∧
      Own w' w.heap.size 5 ((digitsOf k.toNat x).map (Value.int .u8)).toArray ∧ Below w.heap.size w w' := by
  rcases (by omega : k = 1 ∨ k = 2 ∨ k = 3 ∨ k = 4) with rfl | rfl | rfl | rfl
  · exact put_1 x w h0 (by simpa using h1)
  · exact put_2 x w h0 (by simpa using h1)
  · exact put_3 x w h0 (by simpa using h1)
  · exact put_4 x w h0 (by simpa using h1)
set_option maxRecDepth 100000 in
theorem put_big (k x : Int) (w : World) (hk : 1 ≤ k) (hk4 : k ≤ 4) (h0 : 0 ≤ x) (h2 : x < 4294967296) (h1 : 256 ^ k.toNat ≤ x) :
    Calls Tryz.prog 104 #[.int .i64 k, .int .u32 x] w fun e w' => e = .returned (.tuple #[.slice none 0 0, .bool false]) ∧ w = w' := by
  rcases (by omega : k = 1 ∨ k = 2 ∨ k = 3 ∨ k = 4) with rfl | rfl | rfl | rfl
  · exact put_1_no x w h0 h2 (by simpa using h1)
  · exact put_2_no x w h0 h2 (by simpa using h1)
  · exact put_3_no x w h0 h2 (by simpa using h1)
  · exact put_4_no x w h0 h2 (by simpa using h1)
set_option maxRecDepth 100000 in
theorem put_bad (k x : Int) (w : World) (hk : k < 1 ∨ 4 < k) :
    Calls Tryz.prog 104 #[.int .i64 k, .int .u32 x] w fun e w' => e = .returned (.tuple #[.slice none 0 0, .bool false]) ∧ w = w' := by
  rcases hk with hk | hk
  · go_enter Tryz.func104, Tryz.ntmps104
    go_wp2
    go_ret2
    exact ⟨rfl, rfl⟩
  · have hk0 : ¬ k < 1 := by omega
    go_enter Tryz.func104, Tryz.ntmps104
    go_wp2
    go_ret2
    exact ⟨rfl, rfl⟩


theorem digitsOf_step {k : Nat} (x : Int) {j : Nat} (h : j < k) : (digitsOf k x).take (k - 1 - j + 1) = (digitsOf k x).take (k - 1 - j) ++ [x / 256 ^ j % 256] := by
  have hl : k - 1 - j < (digitsOf k x).length := by rw [digitsOf_len]; omega
  rw [List.take_add_one, List.getElem?_eq_getElem hl]
  simp only [digitsOf, List.getElem_map, List.getElem_range, Option.toList]
  rw [show k - 1 - (k - 1 - j) = j by omega]
theorem pow_byte (j : Int) : (2 : Int) ^ (8 * j).toNat = 256 ^ j.toNat := by
  rw [show (8 * j).toNat = 8 * j.toNat by omega, Int.pow_mul]; rfl
theorem byte_at (x j : Int) (h0 : 0 ≤ x) (h1 : x < 4294967296) : bits BinOp.and IntKind.u32 (x / 2 ^ (8 * j).toNat) 255 % 256 = x / 256 ^ j.toNat % 256 := by
  rw [pow_byte, and_byte, Int.emod_emod_of_dvd _ (by omega : (256 : Int) ∣ 256)]
  · exact Int.ediv_nonneg h0 (Int.pow_nonneg (by omega))
  · exact Int.lt_of_le_of_lt (Int.ediv_le_self _ h0) h1
theorem own_val {w : World} {base : Nat} {e : TypeId} {size n : Nat} {v : Value} {xs : List Value} (h : w.ownsRow base e size v n xs) : ∃ A c, v = .slice A n c ∧ n ≤ c ∧ Shows w w.heap.size A xs := by
  have h' := h
  rcases h'.2 with ⟨rfl, rfl⟩ | ⟨g, cap, cur, rfl, _, _, hc, _⟩
  · exact ⟨none, 0, rfl, Nat.le_refl _, Shows.of_own h⟩
  · exact ⟨some ⟨g, 0, none⟩, cap, rfl, hc, Shows.of_own h⟩
theorem one1 {v : Value} (h : v.oneCell' = true) : ∀ u ∈ [v], u.oneCell' = true := by intro u hu; simp at hu; subst hu; exact h
theorem own_base {w : World} {base : Nat} {e : TypeId} {size n : Nat} {v : Value} {xs : List Value} (h : w.ownsRow base e size v n xs) : ∀ j, v.ownBlock = some j → base ≤ j := fun j hj => (h.lt j hj).1

set_option maxRecDepth 100000 in
set_option maxHeartbeats 400000 in
theorem of_any (k : Int) (x : Int) (w : World) (hk : 1 ≤ k) (hk4 : k ≤ 4) (h0 : 0 ≤ x) (h1 : x < 4294967296) :
    Calls Tryz.prog 121 #[.int .i64 k, .int .u32 x] w fun e w' => ∃ v, e = .returned (v) ∧
      w'.ownsRow w.heap.size 5 1 v k.toNat ((digitsOf k.toNat x).map (Value.int .u8)) ∧ Below w.heap.size w w' := by
  go_enter Tryz.func121, Tryz.ntmps121
  go_wp2
  go_loopw [5, 6] (fun v i wr => ∃ j : Int, -1 ≤ j ∧ j < k ∧ i = .int .i64 j ∧ wr.ownsRow w.heap.size 5 1 v (k - 1 - j).toNat (((digitsOf k.toNat x).take (k - 1 - j).toNat).map (Value.int .u8)) ∧ Below w.heap.size w wr) (fun _ i _ => (intOf i + 1).toNat)
  case atStart =>
    refine ⟨k - 1, by omega, by omega, rfl, ?_, Below.refl _ _⟩
    rw [show k - 1 - (k - 1) = 0 by omega]
    exact World.ownsRow_nil _ _ _ _
  case round =>
    obtain ⟨j, hj, hjk, rfl, hown, hb⟩ := hrel
    have hbs := hb.size
    by_cases hlt : 0 ≤ j
    · go_wp2_with (at_builtin; refine wpList_append_grow _ rfl _ _ rfl sl_bytes w.heap.size _ _ _ rfl (hown.alloc _) (wr.heap.size + 1) (some ⟨wr.heap.size, 0, none⟩) 1 1 [_] rfl rfl (Shows.of_owned (Own.new _ _ _) (by omega)) (one1 rfl) (by unfold maxLen; omega) (by omega) (by simp; omega) ?_; intro v1 w1 hown1 hgrow1)
      have hb1 : Below w.heap.size w w1 := (hb.alloc hbs _).grown hgrow1 (by simp; omega) (own_base hown)
      go_roundw
      case rel =>
        refine ⟨j - 1, by omega, by omega, rfl, ?_, hb1⟩
        rw [byte_at _ _ h0 h1] at hown1
        have e1 : (k - 1 - (j - 1)).toNat = k.toNat - 1 - j.toNat + 1 := by omega
        have e2 : (k - 1 - j).toNat = k.toNat - 1 - j.toNat := by omega
        rw [e1, digitsOf_step x (by omega)]
        rw [e2] at hown1
        rw [List.map_append]
        exact hown1
      case measure => simp [intOf]; omega
    · have e1 : (k - 1 - j).toNat = k.toNat := by omega
      have HE := Lib.hid e1
      clear e1
      go_wp2
      go_ret
      rw [HE.out, List.take_of_length_le (by rw [digitsOf_len]; exact Nat.le_refl _)] at hown
      exact ⟨_, rfl, hown, hb⟩

end Go.Proofs.YtmcnpkfeipelgaaGreatDoor

/- Reader.Take, Part, Number -/
import Derived.Test.YtmcnpkfeipelgaaGreatDoorRdr
namespace Go.Proofs.YtmcnpkfeipelgaaGreatDoor
open Go.RowKit

set_option maxRecDepth 100000 in
theorem take_no (g : Nat) (xs : List Int) (p : Nat) (k : Int) (w : World) (h : Rdr w g xs p) (hl : xs.length ≤ 1000000000) (hk : k < 0 ∨ (xs.length : Int) < k) :
    Calls Tryz.prog 37 #[.pointer (some ⟨g, 0, none⟩), .int .i64 k] w fun e w' => e = .returned (.tuple #[.slice none 0 0, .bool false]) ∧ w = w' := by
  have H := Lib.hid hk
  clear hk
  go_enter Tryz.func37, Tryz.ntmps37
  go_wp2_with fail
  refine (some_yes _ _).mono ?_
  rintro e w' ⟨rfl, rfl⟩
  go_wp2_with fail
  refine (next_no _ _ _ _ _ h hl H.out).mono ?_
  rintro e w' ⟨rfl, rfl⟩
  go_wp2
  go_ret2
  exact ⟨rfl, rfl⟩

set_option maxRecDepth 100000 in
set_option maxHeartbeats 400000 in
theorem take_yes (g : Nat) (xs : List Int) (p : Nat) (k : Int) (w : World) (h : Rdr w g xs p) (hl : xs.length ≤ 1000000000) (hp : p ≤ 1000000000) (hk0 : 0 ≤ k) (hk : k ≤ (xs.length : Int)) :
    Calls Tryz.prog 37 #[.pointer (some ⟨g, 0, none⟩), .int .i64 k] w fun e w' => ∃ j, e = .returned (.tuple #[.slice (some ⟨j, 0, none⟩) k.toNat k.toNat, .bool true]) ∧ w.heap.size ≤ j ∧
      Own w' j 5 ((xs.take k.toNat).map (Value.int .u8)).toArray ∧ Rdr w' g (xs.drop k.toNat) (p + k.toNat) ∧ w.grownBy w' (some g) := by
  have hgl := h.lt
  have hr := h.range
  go_enter Tryz.func37, Tryz.ntmps37
  go_wp2_with fail
  refine (some_yes _ _).mono ?_
  rintro e w' ⟨rfl, rfl⟩
  go_wp2_with fail
  refine (next_yes _ _ _ _ _ h hl hp hk0 hk).mono ?_
  rintro e w1 ⟨A, rfl, hB, hR, hg⟩
  have hs1 := hg.size
  go_wp2_with fail
  have hpt := parts_one (c := k.toNat) hB 25
  have hlen : (flat [(⟨A, k.toNat, k.toNat, xs.take k.toNat⟩ : Part)]).length ≤ 1000000000 := by rw [flat_one]; show (xs.take _).length ≤ _; rw [List.length_take]; omega
  refine (cat_any _ _ _ _ _ hpt (by omega) hlen).mono ?_
  rintro e w2 ⟨rfl, hown, hb⟩
  rw [flat_one] at hown
  have hw : (w1.alloc (Obj.cells #[Value.slice A k.toNat k.toNat] 25)).heap.size = w1.heap.size + 1 := by simp
  rw [hw] at hown hb
  have h1 := hb.size
  rw [hw] at h1
  go_wp2
  rw [flat_one]
  have ho := Own.of_full hown
  have hbb : Below w1.heap.size w1 w2 := ((Below.refl _ _).alloc (Nat.le_refl _) _).trans (hb.mono (by omega))
  have hn : (xs.take k.toNat).length = k.toNat := by rw [List.length_take]; omega
  go_ret2
  refine ⟨w1.heap.size + 1, ?_, by omega, ho, hR.below hbb, only_below hg hbb⟩
  show Ending.returned (.tuple #[.slice _ (xs.take k.toNat).length (xs.take k.toNat).length, _]) = _
  rw [hn]; rfl

set_option maxRecDepth 100000 in
theorem part_no (g : Nat) (xs : List Int) (p : Nat) (k : Int) (w : World) (h : Rdr w g xs p) (hl : xs.length ≤ 1000000000) (hk : k < 0 ∨ (xs.length : Int) < k) :
    Calls Tryz.prog 32 #[.pointer (some ⟨g, 0, none⟩), .int .i64 k] w fun e w' => e = .returned (.tuple #[.pointer none, .bool false]) ∧ w = w' := by
  have H := Lib.hid hk
  clear hk
  go_enter Tryz.func32, Tryz.ntmps32
  go_wp2_with fail
  refine (some_yes _ _).mono ?_
  rintro e w' ⟨rfl, rfl⟩
  go_wp2_with fail
  refine (place_any _ _ _ _ h).mono ?_
  rintro e w' ⟨rfl, rfl⟩
  go_wp2_with fail
  refine (next_no _ _ _ _ _ h hl H.out).mono ?_
  rintro e w' ⟨rfl, rfl⟩
  go_wp2
  go_ret2
  exact ⟨rfl, rfl⟩

set_option maxRecDepth 100000 in
set_option maxHeartbeats 400000 in
theorem part_yes (g : Nat) (xs : List Int) (p : Nat) (k : Int) (w : World) (h : Rdr w g xs p) (hl : xs.length ≤ 1000000000) (hp : p ≤ 1000000000) (hk0 : 0 ≤ k) (hk : k ≤ (xs.length : Int)) :
    Calls Tryz.prog 32 #[.pointer (some ⟨g, 0, none⟩), .int .i64 k] w fun e w' => ∃ j, e = .returned (.tuple #[.pointer (some ⟨j, 0, none⟩), .bool true]) ∧ w.heap.size ≤ j ∧
      Rdr w' j (xs.take k.toNat) p ∧ Rdr w' g (xs.drop k.toNat) (p + k.toNat) ∧ w.grownBy w' (some g) := by
  have hgl := h.lt
  go_enter Tryz.func32, Tryz.ntmps32
  go_wp2_with fail
  refine (some_yes _ _).mono ?_
  rintro e w' ⟨rfl, rfl⟩
  go_wp2_with fail
  refine (place_any _ _ _ _ h).mono ?_
  rintro e w' ⟨rfl, rfl⟩
  go_wp2_with fail
  refine (next_yes _ _ _ _ _ h hl hp hk0 hk).mono ?_
  rintro e w1 ⟨A, rfl, hB, hR, hg⟩
  have hs1 := hg.size
  go_wp2
  have hbb : Below w1.heap.size w1 (w1.alloc (.cells #[.slice A k.toNat k.toNat, .int .i64 p] 92)) := (Below.refl _ _).alloc (Nat.le_refl _) _
  go_ret2
  exact ⟨w1.heap.size, rfl, hs1, ⟨_, _, _, Own.new _ _ _, Nat.le_refl _, (hB.below hbb).more (by simp)⟩, hR.below hbb, only_below hg hbb⟩

set_option maxRecDepth 100000 in
theorem number_bad (g : Nat) (k : Int) (w : World) (hk : k < 1 ∨ 4 < k) :
    Calls Tryz.prog 88 #[.pointer (some ⟨g, 0, none⟩), .int .i64 k] w fun e w' => e = .returned (.tuple #[.int .u32 0, .bool false]) ∧ w = w' := by
  rcases hk with hk | hk
  · go_enter Tryz.func88, Tryz.ntmps88
    go_wp2_with fail
    go_ret2
    exact ⟨rfl, rfl⟩
  · have hk0 : ¬ k < 1 := by omega
    go_enter Tryz.func88, Tryz.ntmps88
    go_wp2_with fail
    go_ret2
    exact ⟨rfl, rfl⟩
set_option maxRecDepth 100000 in
theorem number_no (g : Nat) (xs : List Int) (p : Nat) (k : Int) (w : World) (h : Rdr w g xs p) (hl : xs.length ≤ 1000000000) (h1 : 1 ≤ k) (h4 : k ≤ 4) (hk : (xs.length : Int) < k) :
    Calls Tryz.prog 88 #[.pointer (some ⟨g, 0, none⟩), .int .i64 k] w fun e w' => e = .returned (.tuple #[.int .u32 0, .bool false]) ∧ w = w' := by
  go_enter Tryz.func88, Tryz.ntmps88
  go_wp2_with fail
  refine (some_yes _ _).mono ?_
  rintro e w' ⟨rfl, rfl⟩
  go_wp2_with fail
  refine (next_no _ _ _ _ _ h hl (.inr hk)).mono ?_
  rintro e w' ⟨rfl, rfl⟩
  go_wp2
  go_ret2
  exact ⟨rfl, rfl⟩
/-- The number of some bytes, the first one the highest. -/
def big (xs : List Int) : Int := xs.foldl (fun a x => a * 256 + x) 0
theorem big_snoc (xs : List Int) (x : Int) : big (xs ++ [x]) = big xs * 256 + x := by simp [big]
theorem big_range : ∀ (n : Nat) (xs : List Int), xs.length = n → (∀ x ∈ xs, 0 ≤ x ∧ x ≤ 255) → 0 ≤ big xs ∧ big xs < 256 ^ n := by
  intro n
  induction n with
  | zero => intro xs h _; obtain rfl := List.eq_nil_of_length_eq_zero h; simp [big]
  | succ n ih =>
    intro xs h hr
    have hne : xs ≠ [] := by rintro rfl; simp at h
    have e := List.dropLast_concat_getLast hne
    have h1 := ih xs.dropLast (by simp [h]) (fun x hx => hr x (List.dropLast_subset _ hx))
    have h2 := hr _ (List.getLast_mem hne)
    rw [← e, big_snoc, Int.pow_succ]
    omega
theorem big_take_lt {xs : List Int} {m : Nat} (j : Nat) (hr : ∀ x ∈ xs, 0 ≤ x ∧ x ≤ 255) (h4 : m ≤ 4) (hj : j < m) : 0 ≤ big ((xs.take m).take j) ∧ big ((xs.take m).take j) < 16777216 := by
  have hlen : ((xs.take m).take j).length ≤ 3 := by simp; omega
  have h := big_range _ ((xs.take m).take j) rfl (fun x hx => hr x (List.mem_of_mem_take (List.mem_of_mem_take hx)))
  generalize ((xs.take m).take j).length = l at h hlen
  match l, hlen with
  | 0, _ => simp at h; omega
  | 1, _ => simp at h; omega
  | 2, _ => simp at h; omega
  | 3, _ => simp at h; omega
theorem or_byte (a x : Int) (h0 : 0 ≤ a) (h1 : a < 16777216) (hx0 : 0 ≤ x) (hx1 : x ≤ 255) : bits BinOp.or IntKind.u32 (a * 256) x = a * 256 + x := by
  rw [u32_or _ _ (by omega) (by omega) hx0 (by omega)]
  rw [nat_join 8 _ _ (by omega) (by omega)]
  omega
set_option maxRecDepth 100000 in
set_option maxHeartbeats 400000 in
theorem number_yes (g : Nat) (xs : List Int) (p : Nat) (k : Int) (w : World) (h : Rdr w g xs p) (hl : xs.length ≤ 1000000000) (hp : p ≤ 1000000000) (h1 : 1 ≤ k) (h4 : k ≤ 4) (hk : k ≤ (xs.length : Int)) :
    Calls Tryz.prog 88 #[.pointer (some ⟨g, 0, none⟩), .int .i64 k] w fun e w' => e = .returned (.tuple #[.int .u32 (big (xs.take k.toNat)), .bool true]) ∧
      Rdr w' g (xs.drop k.toNat) (p + k.toNat) ∧ w.grownBy w' (some g) := by
  have hgl := h.lt
  have hr := h.range
  go_enter Tryz.func88, Tryz.ntmps88
  go_wp2_with fail
  refine (some_yes _ _).mono ?_
  rintro e w' ⟨rfl, rfl⟩
  go_wp2_with fail
  refine (next_yes _ _ _ _ _ h hl hp (by omega) hk).mono ?_
  rintro e w1 ⟨A, rfl, hB, hR, hg⟩
  go_wp2
  go_loop [8, 10, 30] (fun s _ i => ∃ j : Nat, j ≤ k.toNat ∧ i = .int .i64 j ∧ s = .int .u32 (big ((xs.take k.toNat).take j))) (fun _ _ i => k.toNat - (intOf i).toNat)
  case atStart => exact ⟨0, Nat.zero_le _, rfl, rfl⟩
  case round =>
    obtain ⟨j, hj, rfl, rfl⟩ := hrel
    by_cases hlt : j < k.toNat
    · obtain ⟨b, o, rfl, hb, hc, h0, h1⟩ := hB.at_ hlt
      have hbt := big_take_lt j hr (by omega) hlt
      have hor := Lib.hid (or_byte _ _ hbt.1 hbt.2 h0 h1)
      have hsn := Lib.hid (big_snoc ((xs.take k.toNat).take j) (nth (xs.take k.toNat) j))
      have htk := Lib.hid (take_nth (xs := xs.take k.toNat) (k := j) (by rw [List.length_take]; omega))
      go_wp2
      go_round
      case rel => exact ⟨j + 1, by omega, by go_num, by rw [hor.out, htk.out, hsn.out]⟩
      case measure => simp [intOf]; omega
    · have hjk := Lib.hid (show j = k.toNat by omega)
      go_wp2
      go_ret2
      refine ⟨?_, hR, hg⟩
      show Ending.returned (.tuple #[.int .u32 (big ((xs.take k.toNat).take j)), _]) = _
      rw [hjk.out, List.take_take, Nat.min_self]; rfl
end Go.Proofs.YtmcnpkfeipelgaaGreatDoor

/- Readers whose bytes lie below a bound -/
import Derived.Test.YtecbbjdcnlocdaaDoorNum
namespace Go.Proofs.YtecbbjdcnlocdaaDoor
open Go.RowKit

/-- A reader: block g holds the bytes xs that are left, which lie below the block B, and the offset p. -/
def RdrB (B : Nat) (w : World) (g : Nat) (xs : List Int) (p : Nat) : Prop :=
  ∃ A n c, Own w g 93 #[.slice A n c, .int .i64 p] ∧ n ≤ c ∧ Bytes w B A n xs ∧ B ≤ w.heap.size
theorem Rdr.toB {w : World} {g : Nat} {xs : List Int} {p : Nat} (h : Rdr w g xs p) : RdrB w.heap.size w g xs p := by
  obtain ⟨A, n, c, ho, hc, hB⟩ := h
  exact ⟨A, n, c, ho, hc, hB, Nat.le_refl _⟩
theorem RdrB.rdr {B : Nat} {w : World} {g : Nat} {xs : List Int} {p : Nat} (h : RdrB B w g xs p) : Rdr w g xs p := by
  obtain ⟨A, n, c, ho, hc, hB, hs⟩ := h
  exact ⟨A, n, c, ho, hc, hB.more hs⟩
theorem RdrB.range {B : Nat} {w : World} {g : Nat} {xs : List Int} {p : Nat} (h : RdrB B w g xs p) : ∀ x ∈ xs, 0 ≤ x ∧ x ≤ 255 := h.rdr.range
theorem RdrB.lt {B : Nat} {w : World} {g : Nat} {xs : List Int} {p : Nat} (h : RdrB B w g xs p) : g < w.heap.size := h.rdr.lt
theorem RdrB.size {B : Nat} {w : World} {g : Nat} {xs : List Int} {p : Nat} (h : RdrB B w g xs p) : B ≤ w.heap.size := by obtain ⟨A, n, c, ho, hc, hB, hs⟩ := h; exact hs
/-- What keeps the blocks below B and the reader's own keeps the reader. -/
theorem RdrB.keep {B : Nat} {w w' : World} {g : Nat} {xs : List Int} {p : Nat} (h : RdrB B w g xs p) (hs : w.heap.size ≤ w'.heap.size) (hk : ∀ b, b < B ∨ b = g → w'.heap[b]? = w.heap[b]?) : RdrB B w' g xs p := by
  obtain ⟨A, n, c, ho, hc, hB, hs0⟩ := h
  exact ⟨A, n, c, ho.keep (hk g (.inr rfl)), hc, hB.keep (fun b o hb => World.cell?_of_block (a := ⟨b, o, none⟩) (hk b (.inl hb))), Nat.le_trans hs0 hs⟩
theorem RdrB.below {B : Nat} {w w' : World} {g : Nat} {xs : List Int} {p : Nat} (h : RdrB B w g xs p) (hb : Below w.heap.size w w') : RdrB B w' g xs p :=
  h.keep hb.size (fun b hbB => hb.block b (by rcases hbB with hx | rfl; exact Nat.lt_of_lt_of_le hx h.size; exact h.lt))
theorem RdrB.setRow {B : Nat} {w : World} {g : Nat} {xs : List Int} {p k : Nat} {cs : Array Value} (h : RdrB B w g xs p) (hk : B ≤ k) (hg : k ≠ g) : RdrB B (w.setRow k cs) g xs p :=
  h.keep (by simp) (fun b hbB => setRow_other w k b _ (by rcases hbB with hx | rfl; omega; exact fun e => hg e.symm))
theorem RdrB.setCell {B : Nat} {w : World} {g : Nat} {xs : List Int} {p : Nat} {a : Addr} {v : Value} (h : RdrB B w g xs p) (hk : B ≤ a.block) (hg : a.block ≠ g) : RdrB B (w.setCell a v) g xs p :=
  h.keep (by simp) (fun b hbB => Below.heap_setCell w a v b (by rcases hbB with hx | rfl; omega; exact fun e => hg e.symm))
theorem RdrB.drewN {B : Nat} {w : World} {g : Nat} {xs : List Int} {p : Nat} (h : RdrB B w g xs p) (n : Nat) : RdrB B (w.drewN n) g xs p := h.keep (Nat.le_refl _) (fun _ _ => rfl)

theorem Bytes.onlyB {B : Nat} {w w' : World} {A : Option Addr} {n j p : Nat} {xs ys : List Int} (h : Bytes w B A n xs) (hr : Rdr w j ys p) (hb : w.grownBy w' (some j)) : Bytes w' B A n xs := by
  obtain ⟨A', n', c', ho, _⟩ := hr
  refine ⟨h.1, h.2.1, ?_⟩
  rcases h.2.2 with h0 | ⟨b, o, rfl, hlt, hc⟩
  · exact .inl h0
  · refine .inr ⟨b, o, rfl, hlt, fun i v hv => ?_⟩
    have hcell := hc i v hv
    have hne : b ≠ j := by
      rintro rfl
      have h3 := cell_of_row w b (o + i) _ _ (0, 0) ho
      rw [hcell] at h3
      rw [List.getElem?_map] at hv
      obtain ⟨x, _, rfl⟩ := Option.map_eq_some_iff.1 hv
      match h4 : o + i, h3 with
      | 0, h3 => simp at h3
      | 1, h3 => simp at h3
      | k + 2, h3 => simp at h3
    exact hb.cell hcell (fun e => hne (Option.some.inj e))

theorem next_endB {B : Nat} {w W : World} {g : Nat} {xs : List Int} {p : Nat} {A A' : Option Addr} {n n' c' m : Nat} {q : Int} (hR : RdrB B w g xs p) (hg : Own W g 93 #[.slice A' n' c', .int .i64 q] ∧ w.grownBy W (some g)) (hB : Bytes w B A n xs) (hm : m ≤ n) (hq : q = ((p + m : Nat) : Int))
    (hc : n' ≤ c') (hB' : Bytes w B A' n' (xs.drop m)) :
    Bytes W B A m (xs.take m) ∧ RdrB B W g (xs.drop m) (p + m) ∧ w.grownBy W (some g) := by
  subst hq
  exact ⟨(hB.front hm).onlyB hR.rdr hg.2, ⟨A', n', c', hg.1, hc, hB'.onlyB hR.rdr hg.2, Nat.le_trans hR.size hg.2.size⟩, hg.2⟩

set_option maxRecDepth 100000 in
set_option maxHeartbeats 400000 in
theorem next_yesB (B g : Nat) (xs : List Int) (p : Nat) (k : Int) (w : World) (h : RdrB B w g xs p) (hl : xs.length ≤ 1000000000) (hp : p ≤ 1000000000) (hk0 : 0 ≤ k) (hk : k ≤ (xs.length : Int)) :
    Calls Tryd.prog 83 #[.pointer (some ⟨g, 0, none⟩), .int .i64 k] w fun e w' => ∃ A, e = .returned (.tuple #[.slice A k.toNat k.toNat, .bool true]) ∧
      Bytes w' B A k.toNat (xs.take k.toNat) ∧ RdrB B w' g (xs.drop k.toNat) (p + k.toNat) ∧ w.grownBy w' (some g) := by
  have hR := h
  obtain ⟨A, n, c, ho, hc, hB, hs⟩ := h
  have h0 := ho.cell (i := 0) rfl
  have h1 := ho.cell (i := 1) rfl
  have hf0 := ho.frozen 0
  have hf1 := ho.frozen 1
  have hn := Lib.hid hB.1
  rw [← hB.1] at hk hl
  go_enter Tryd.func83, Tryd.ntmps83
  go_wp2
  · have hck : c = k.toNat := by assumption
    have hB2 := hB.cut (k := k.toNat) (cap := c) (by omega) hc
    rw [if_pos hck] at hB2
    go_ret2
    exact ⟨A, rfl, next_endB hR (own_two ho _ _) hB (by omega) (by omega) (by omega) hB2⟩
  · have hck : ¬ c = k.toNat := by assumption
    have hB2 := hB.cut (k := k.toNat) (cap := c) (by omega) hc
    rw [if_neg hck] at hB2
    go_ret2
    exact ⟨A, rfl, next_endB hR (own_two ho _ _) hB (by omega) (by omega) (by omega) hB2⟩

set_option maxRecDepth 100000 in
set_option maxHeartbeats 400000 in
theorem take_yesB (B g : Nat) (xs : List Int) (p : Nat) (k : Int) (w : World) (h : RdrB B w g xs p) (hl : xs.length ≤ 1000000000) (hp : p ≤ 1000000000) (hk0 : 0 ≤ k) (hk : k ≤ (xs.length : Int)) :
    Calls Tryd.prog 62 #[.pointer (some ⟨g, 0, none⟩), .int .i64 k] w fun e w' => ∃ j, e = .returned (.tuple #[.slice (some ⟨j, 0, none⟩) k.toNat k.toNat, .bool true]) ∧ w.heap.size ≤ j ∧
      Own w' j 5 ((xs.take k.toNat).map (Value.int .u8)).toArray ∧ RdrB B w' g (xs.drop k.toNat) (p + k.toNat) ∧ w.grownBy w' (some g) := by
  have hgl := h.lt
  have hr := h.range
  have hsz := h.size
  go_enter Tryd.func62, Tryd.ntmps62
  go_wp2_with fail
  refine (some_yes _ _).mono ?_
  rintro e w' ⟨rfl, rfl⟩
  go_wp2_with fail
  refine (next_yesB _ _ _ _ _ _ h hl hp hk0 hk).mono ?_
  rintro e w1 ⟨A, rfl, hB, hR, hg⟩
  have hs1 := hg.size
  go_wp2_with fail
  have hpt := parts_one (c := k.toNat) (hB.more hR.size) 25
  have hlen : (flat [(⟨A, k.toNat, k.toNat, xs.take k.toNat⟩ : Part)]).length ≤ 1000000000 := by rw [flat_one]; show (xs.take _).length ≤ _; rw [List.length_take]; omega
  refine (cat_any _ _ _ _ _ hpt (by omega) hlen).mono ?_
  rintro e w2 ⟨rfl, hown, hb⟩
  rw [flat_one] at hown
  have hw : (w1.alloc (Obj.cells #[Value.slice A k.toNat k.toNat] 25)).heap.size = w1.heap.size + 1 := by simp
  rw [hw] at hown hb
  have h1 := hb.size
  rw [hw] at h1
  go_wp2
  rw [flat_one]
  have ho := Own.of_full hown
  have hbb : Below w1.heap.size w1 w2 := ((Below.refl _ _).alloc (Nat.le_refl _) _).trans (hb.mono (by omega))
  have hn : (xs.take k.toNat).length = k.toNat := by rw [List.length_take]; omega
  go_ret2
  refine ⟨w1.heap.size + 1, ?_, by omega, ho, hR.below hbb, only_below hg hbb⟩
  show Ending.returned (.tuple #[.slice _ (xs.take k.toNat).length (xs.take k.toNat).length, _]) = _
  rw [hn]; rfl

set_option maxRecDepth 100000 in
set_option maxHeartbeats 400000 in
theorem number_yesB (B g : Nat) (xs : List Int) (p : Nat) (k : Int) (w : World) (h : RdrB B w g xs p) (hl : xs.length ≤ 1000000000) (hp : p ≤ 1000000000) (h1 : 1 ≤ k) (h4 : k ≤ 4) (hk : k ≤ (xs.length : Int)) :
    Calls Tryd.prog 51 #[.pointer (some ⟨g, 0, none⟩), .int .i64 k] w fun e w' => e = .returned (.tuple #[.int .u32 (big (xs.take k.toNat)), .bool true]) ∧
      RdrB B w' g (xs.drop k.toNat) (p + k.toNat) ∧ w.grownBy w' (some g) := by
  have hgl := h.lt
  have hr := h.range
  go_enter Tryd.func51, Tryd.ntmps51
  go_wp2_with fail
  refine (some_yes _ _).mono ?_
  rintro e w' ⟨rfl, rfl⟩
  go_wp2_with fail
  refine (next_yesB _ _ _ _ _ _ h hl hp (by omega) hk).mono ?_
  rintro e w1 ⟨A, rfl, hB, hR, hg⟩
  go_wp2
  go_loop [8, 10, 30] (fun s _ i => ∃ j : Nat, j ≤ k.toNat ∧ i = .int .i64 j ∧ s = .int .u32 (big ((xs.take k.toNat).take j))) (fun _ _ i => k.toNat - (intOf i).toNat)
  case atStart => exact ⟨0, Nat.zero_le _, rfl, rfl⟩
  case round =>
    obtain ⟨j, hj, rfl, rfl⟩ := hrel
    by_cases hlt : j < k.toNat
    · obtain ⟨b, o, rfl, hb, hc, h0, h1⟩ := hB.at_ hlt
      have hbt := big_take_lt j hr (by omega) hlt
      have hor := Lib.hid (or_byte _ _ hbt.1 hbt.2 h0 h1)
      have hsn := Lib.hid (big_snoc ((xs.take k.toNat).take j) (nth (xs.take k.toNat) j))
      have htk := Lib.hid (take_nth (xs := xs.take k.toNat) (k := j) (by rw [List.length_take]; omega))
      go_wp2
      go_round
      case rel => exact ⟨j + 1, by omega, by go_num, by rw [hor.out, htk.out, hsn.out]⟩
      case measure => simp [intOf]; omega
    · have hjk := Lib.hid (show j = k.toNat by omega)
      go_wp2
      go_ret2
      refine ⟨?_, hR, hg⟩
      show Ending.returned (.tuple #[.int .u32 (big ((xs.take k.toNat).take j)), _]) = _
      rw [hjk.out, List.take_take, Nat.min_self]; rfl
end Go.Proofs.YtecbbjdcnlocdaaDoor

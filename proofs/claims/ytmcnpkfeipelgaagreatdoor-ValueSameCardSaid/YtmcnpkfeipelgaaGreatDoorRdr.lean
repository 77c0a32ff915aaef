/- octet.New, Reader.some, cursor.next, place, size -/
import Derived.Test.YtmcnpkfeipelgaaGreatDoorOwn
import Derived.Test.YtmcnpkfeipelgaaGreatDoorCat
namespace Go.Proofs.YtmcnpkfeipelgaaGreatDoor
open Go.RowKit

theorem flat_one (p : Part) : flat [p] = p.xs := by simp [flat]
theorem parts_one {w : World} {A : Option Addr} {n c : Nat} {xs : List Int} (hx : Bytes w w.heap.size A n xs) (t : TypeId) :
    Parts (w.alloc (.cells #[.slice A n c] t)) (w.alloc (.cells #[.slice A n c] t)).heap.size (some ⟨w.heap.size, 0, none⟩) 1 [⟨A, n, c, xs⟩] := by
  have hb : Below w.heap.size w (w.alloc (.cells #[.slice A n c] t)) := (Below.refl _ _).alloc (Nat.le_refl _) _
  refine ⟨rfl, ?_, Shows.of_owned (Own.new w t _) (by simp)⟩
  intro p hp
  simp at hp
  subst hp
  exact (hx.below hb).more (by simp)

/-- A reader: block g holds the bytes xs that are left, and the offset p. -/
def Rdr (w : World) (g : Nat) (xs : List Int) (p : Nat) : Prop :=
  ∃ A n c, Own w g 92 #[.slice A n c, .int .i64 p] ∧ n ≤ c ∧ Bytes w w.heap.size A n xs
theorem Rdr.lt {w : World} {g : Nat} {xs : List Int} {p : Nat} (h : Rdr w g xs p) : g < w.heap.size := by obtain ⟨A, n, c, ho, _⟩ := h; exact ho.lt
theorem Rdr.range {w : World} {g : Nat} {xs : List Int} {p : Nat} (h : Rdr w g xs p) : ∀ x ∈ xs, 0 ≤ x ∧ x ≤ 255 := by obtain ⟨A, n, c, ho, _, hB⟩ := h; exact hB.2.1
theorem Rdr.below {w w' : World} {g : Nat} {xs : List Int} {p : Nat} (h : Rdr w g xs p) (hb : Below w.heap.size w w') : Rdr w' g xs p := by
  obtain ⟨A, n, c, ho, hc, hB⟩ := h
  exact ⟨A, n, c, ho.below hb ho.lt, hc, (hB.below hb).more hb.size⟩
/-- Bytes do not lie in a reader's own block. -/
theorem Bytes.only {w w' : World} {A : Option Addr} {n j p : Nat} {xs ys : List Int} (h : Bytes w w.heap.size A n xs) (hr : Rdr w j ys p) (hb : w.grownBy w' (some j)) : Bytes w' w'.heap.size A n xs := by
  obtain ⟨A', n', c', ho, _⟩ := hr
  refine ⟨h.1, h.2.1, ?_⟩
  rcases h.2.2 with h0 | ⟨b, o, rfl, hlt, hc⟩
  · exact .inl h0
  · refine .inr ⟨b, o, rfl, Nat.lt_of_lt_of_le hlt hb.size, fun i v hv => ?_⟩
    have hcell := hc i v hv
    have hne : b ≠ j := by
      rintro rfl
      have h3 := cell_of_row w b (o + i) _ _ (0, 0) ho
      rw [hcell] at h3
      rw [List.getElem?_map] at hv
      obtain ⟨x, _, rfl⟩ := Option.map_eq_some_iff.1 hv
      match h4 : o + i, h3 with
      | 0, h3 => simp at h3
      | 1, h3 => simp at h3
      | k + 2, h3 => simp at h3
    exact hb.cell hcell (fun e => hne (Option.some.inj e))
theorem Rdr.only {w w' : World} {g j p q : Nat} {xs ys : List Int} (h : Rdr w g xs p) (hr : Rdr w j ys q) (hb : w.grownBy w' (some j)) (hj : g ≠ j) : Rdr w' g xs p := by
  obtain ⟨A, n, c, ho, hc, hB⟩ := h
  exact ⟨A, n, c, ho.grown hb (fun e => hj (Option.some.inj e)), hc, hB.only hr hb⟩

set_option maxRecDepth 100000 in
set_option maxHeartbeats 400000 in
theorem new_full (A : Option Addr) (n c : Nat) (xs : List Int) (w : World) (hx : Bytes w w.heap.size A n xs) (hn : n ≤ 1000000000) :
    Calls Tryz.prog 13 #[.slice A n c] w fun e w' => ∃ g, e = .returned (.pointer (some ⟨g, 0, none⟩)) ∧ w.heap.size + 1 < g ∧
      Own w' g 92 #[.slice (some ⟨w.heap.size + 1, 0, none⟩) xs.length xs.length, .int .i64 0] ∧ Own w' (w.heap.size + 1) 5 (xs.map (Value.int .u8)).toArray ∧ Below w.heap.size w w' := by
  have hl : (flat [(⟨A, n, c, xs⟩ : Part)]).length ≤ 1000000000 := by rw [flat_one]; show xs.length ≤ _; have := hx.1; omega
  have hp := parts_one (c := c) hx 25
  go_enter Tryz.func13, Tryz.ntmps13
  go_wp2_with fail
  refine (cat_any _ _ _ _ _ hp (by omega) hl).mono ?_
  rintro e w1 ⟨rfl, hown, hb⟩
  rw [flat_one] at hown
  have hw : (w.alloc (Obj.cells #[Value.slice A n c] 25)).heap.size = w.heap.size + 1 := by simp
  rw [hw] at hown hb
  have h1 := hb.size
  rw [hw] at h1
  go_wp2
  rw [flat_one]
  have ho := Own.of_full hown
  have hbb : Below w.heap.size w w1 := ((Below.refl _ _).alloc (Nat.le_refl _) _).trans (hb.mono (by omega))
  have hlt := ho.lt
  go_ret
  exact ⟨_, rfl, hlt, Own.new _ _ _, ho.alloc _, hbb.alloc (by omega) _⟩
theorem rdr_of {w : World} {g j : Nat} {xs : List Int} (ho : Own w g 92 #[.slice (some ⟨j, 0, none⟩) xs.length xs.length, .int .i64 0]) (hb : Own w j 5 (xs.map (Value.int .u8)).toArray) (hr : ∀ x ∈ xs, 0 ≤ x ∧ x ≤ 255) : Rdr w g xs 0 :=
  ⟨_, _, _, ho, Nat.le_refl _, Bytes.of_owned hb hr hb.lt⟩
set_option maxRecDepth 100000 in
theorem new_any (A : Option Addr) (n c : Nat) (xs : List Int) (w : World) (hx : Bytes w w.heap.size A n xs) (hn : n ≤ 1000000000) :
    Calls Tryz.prog 13 #[.slice A n c] w fun e w' => ∃ g, e = .returned (.pointer (some ⟨g, 0, none⟩)) ∧ w.heap.size ≤ g ∧ Rdr w' g xs 0 ∧ Below w.heap.size w w' :=
  (new_full A n c xs w hx hn).mono fun _ _ ⟨g, he, hg, h1, h2, hb⟩ => ⟨g, he, by omega, rdr_of h1 h2 hx.2.1, hb⟩

set_option maxRecDepth 100000 in
theorem some_yes (g : Nat) (w : World) : Calls Tryz.prog 81 #[.pointer (some ⟨g, 0, none⟩)] w fun e w' => e = .returned (.pointer (some ⟨g, 0, none⟩)) ∧ w = w' := by
  go_enter Tryz.func81, Tryz.ntmps81
  go_wp2_with fail
  go_ret
  exact ⟨rfl, rfl⟩
set_option maxRecDepth 100000 in
theorem some_no (w : World) : Calls Tryz.prog 81 #[.pointer none] w fun e w' => ∃ g, e = .returned (.pointer (some ⟨g, 0, none⟩)) ∧ w.heap.size ≤ g ∧ Rdr w' g [] 0 ∧ Below w.heap.size w w' := by
  go_enter Tryz.func81, Tryz.ntmps81
  go_wp2_with fail
  refine (new_any none 0 0 [] _ (Bytes.nil _ _ _) (by omega)).mono ?_
  rintro e w' ⟨g, rfl, h⟩
  go_wp2
  go_ret
  exact ⟨g, rfl, h⟩

set_option maxRecDepth 100000 in
set_option maxHeartbeats 400000 in
theorem next_no (g : Nat) (xs : List Int) (p : Nat) (k : Int) (w : World) (h : Rdr w g xs p) (hl : xs.length ≤ 1000000000) (hk : k < 0 ∨ (xs.length : Int) < k) :
    Calls Tryz.prog 83 #[.pointer (some ⟨g, 0, none⟩), .int .i64 k] w fun e w' => e = .returned (.tuple #[.slice none 0 0, .bool false]) ∧ w = w' := by
  obtain ⟨A, n, c, ho, hc, hB⟩ := h
  have h0 := ho.cell (i := 0) rfl
  have hn := Lib.hid hB.1
  rw [← hB.1] at hk hl
  rcases hk with hk | hk
  · go_enter Tryz.func83, Tryz.ntmps83
    go_wp2
    go_ret2
    exact ⟨rfl, rfl⟩
  · have hk0 : ¬ k < 0 := by omega
    go_enter Tryz.func83, Tryz.ntmps83
    go_wp2
    go_ret2
    exact ⟨rfl, rfl⟩

theorem own_two {w : World} {g : Nat} {t : TypeId} {a b : Value} (h : Own w g t #[a, b]) (x y : Value) :
    Own ((w.setCell ⟨g, 0, none⟩ x).setCell ⟨g, 1, none⟩ y) g t #[x, y] ∧ w.grownBy ((w.setCell ⟨g, 0, none⟩ x).setCell ⟨g, 1, none⟩ y) (some g) := by
  constructor
  · have h2 := (h.set_ 0 x).set_ 1 y
    simpa using h2
  · exact only_setCell (p := ⟨g, 1, none⟩) (only_setCell (p := ⟨g, 0, none⟩) (World.grownBy.refl w (some g)) rfl x) rfl y
theorem next_end {w W : World} {g : Nat} {xs : List Int} {p : Nat} {A A' : Option Addr} {n n' c' m : Nat} {q : Int} (hR : Rdr w g xs p) (hg : Own W g 92 #[.slice A' n' c', .int .i64 q] ∧ w.grownBy W (some g)) (hB : Bytes w w.heap.size A n xs) (hm : m ≤ n) (hq : q = ((p + m : Nat) : Int))
    (hc : n' ≤ c') (hB' : Bytes w w.heap.size A' n' (xs.drop m)) :
    Bytes W W.heap.size A m (xs.take m) ∧ Rdr W g (xs.drop m) (p + m) ∧ w.grownBy W (some g) := by
  subst hq
  exact ⟨(hB.front hm).only hR hg.2, ⟨A', n', c', hg.1, hc, hB'.only hR hg.2⟩, hg.2⟩

set_option maxRecDepth 100000 in
set_option maxHeartbeats 400000 in
theorem next_yes (g : Nat) (xs : List Int) (p : Nat) (k : Int) (w : World) (h : Rdr w g xs p) (hl : xs.length ≤ 1000000000) (hp : p ≤ 1000000000) (hk0 : 0 ≤ k) (hk : k ≤ (xs.length : Int)) :
    Calls Tryz.prog 83 #[.pointer (some ⟨g, 0, none⟩), .int .i64 k] w fun e w' => ∃ A, e = .returned (.tuple #[.slice A k.toNat k.toNat, .bool true]) ∧
      Bytes w' w'.heap.size A k.toNat (xs.take k.toNat) ∧ Rdr w' g (xs.drop k.toNat) (p + k.toNat) ∧ w.grownBy w' (some g) := by
  have hR := h
  obtain ⟨A, n, c, ho, hc, hB⟩ := h
  have h0 := ho.cell (i := 0) rfl
  have h1 := ho.cell (i := 1) rfl
  have hf0 := ho.frozen 0
  have hf1 := ho.frozen 1
  have hn := Lib.hid hB.1
  rw [← hB.1] at hk hl
  go_enter Tryz.func83, Tryz.ntmps83
  go_wp2
  · have hck : c = k.toNat := by assumption
    have hB2 := hB.cut (k := k.toNat) (cap := c) (by omega) hc
    rw [if_pos hck] at hB2
    go_ret2
    exact ⟨A, rfl, next_end hR (own_two ho _ _) hB (by omega) (by omega) (by omega) hB2⟩
  · have hck : ¬ c = k.toNat := by assumption
    have hB2 := hB.cut (k := k.toNat) (cap := c) (by omega) hc
    rw [if_neg hck] at hB2
    go_ret2
    exact ⟨A, rfl, next_end hR (own_two ho _ _) hB (by omega) (by omega) (by omega) hB2⟩

set_option maxRecDepth 100000 in
theorem place_any (g : Nat) (xs : List Int) (p : Nat) (w : World) (h : Rdr w g xs p) :
    Calls Tryz.prog 82 #[.pointer (some ⟨g, 0, none⟩)] w fun e w' => e = .returned (.int .i64 p) ∧ w = w' := by
  obtain ⟨A, n, c, ho, hc, hB⟩ := h
  have h1 := ho.cell (i := 1) rfl
  go_enter Tryz.func82, Tryz.ntmps82
  go_wp2
  go_ret
  exact ⟨rfl, rfl⟩
set_option maxRecDepth 100000 in
theorem size_any (g : Nat) (xs : List Int) (p : Nat) (w : World) (h : Rdr w g xs p) :
    Calls Tryz.prog 84 #[.pointer (some ⟨g, 0, none⟩)] w fun e w' => e = .returned (.int .i64 xs.length) ∧ w = w' := by
  obtain ⟨A, n, c, ho, hc, hB⟩ := h
  have h0 := ho.cell (i := 0) rfl
  have hn := Lib.hid hB.1
  go_enter Tryz.func84, Tryz.ntmps84
  go_wp2
  go_ret
  exact ⟨by rw [← hn.out]; rfl, rfl⟩
set_option maxRecDepth 100000 in
theorem at_any (g : Nat) (xs : List Int) (p : Nat) (w : World) (h : Rdr w g xs p) :
    Calls Tryz.prog 85 #[.pointer (some ⟨g, 0, none⟩)] w fun e w' => e = .returned (.int .i64 p) ∧ w = w' := by
  go_enter Tryz.func85, Tryz.ntmps85
  go_wp2_with fail
  refine (some_yes _ _).mono ?_
  rintro e w' ⟨rfl, rfl⟩
  go_wp2_with fail
  refine (place_any _ _ _ _ h).mono ?_
  rintro e w' ⟨rfl, rfl⟩
  go_wp2
  go_ret
  exact ⟨rfl, rfl⟩
set_option maxRecDepth 100000 in
theorem left_any (g : Nat) (xs : List Int) (p : Nat) (w : World) (h : Rdr w g xs p) :
    Calls Tryz.prog 33 #[.pointer (some ⟨g, 0, none⟩)] w fun e w' => e = .returned (.int .i64 xs.length) ∧ w = w' := by
  go_enter Tryz.func33, Tryz.ntmps33
  go_wp2_with fail
  refine (some_yes _ _).mono ?_
  rintro e w' ⟨rfl, rfl⟩
  go_wp2_with fail
  refine (size_any _ _ _ _ h).mono ?_
  rintro e w' ⟨rfl, rfl⟩
  go_wp2
  go_ret
  exact ⟨rfl, rfl⟩
end Go.Proofs.YtmcnpkfeipelgaaGreatDoor

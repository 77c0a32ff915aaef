/- OctetPuts: the walk -/
import Derived.Test.YtbojfoefelbakaaEq
import Derived.Test.YtbojfoefelbakaaAlive
namespace Go.Proofs.Ytbojfoefelbakaa
open Go.RowKit

theorem big_digits (k x : Int) (hk : 1 ≤ k) (hk4 : k ≤ 4) (h0 : 0 ≤ x) (h1 : x < 256 ^ k.toNat) : big (digitsOf k.toNat x) = x := by
  rcases (by omega : k = 1 ∨ k = 2 ∨ k = 3 ∨ k = 4) with rfl | rfl | rfl | rfl
  · rw [show (1 : Int).toNat = 1 from rfl] at *; rw [digitsOf_1]; simp [big]; simp at h1; omega
  · rw [show (2 : Int).toNat = 2 from rfl] at *; rw [digitsOf_2]; simp [big]; simp at h1; omega
  · rw [show (3 : Int).toNat = 3 from rfl] at *; rw [digitsOf_3]; simp [big]; simp at h1; omega
  · rw [show (4 : Int).toNat = 4 from rfl] at *; rw [digitsOf_4]; simp [big]; simp at h1; omega

theorem puts_none (k x : Int) (w : World) (h0 : 0 ≤ x) (h2 : x < 4294967296) (hk : (k < 1 ∨ 4 < k) ∨ (1 ≤ k ∧ k ≤ 4 ∧ 256 ^ k.toNat ≤ x)) :
    Calls Try.prog 5 #[.int .i64 k, .int .u32 x] w fun e w' => e = .returned (.bool true) ∧ Below w.heap.size w w' := by
  have c1 : ∀ W : World, Calls Try.prog 20 #[.int .i64 k, .int .u32 x] W fun e w' => e = .returned (.tuple #[.slice none 0 0, .bool false]) ∧ W = w' := fun W => by
    rcases hk with hk | ⟨a, b, c⟩
    · exact put_bad k x W hk
    · exact put_big k x W a b h0 h2 c
  have c2 : ∀ W : World, Calls Try.prog 21 #[.int .i64 k, .int .u32 x] W fun e w' => e = .returned (.tuple #[.slice none 0 0, .bool false]) ∧ W = w' := fun W => by
    rcases hk with hk | ⟨a, b, c⟩
    · exact rput_bad k x W hk
    · exact rput_big k x W a b h0 h2 c
  have c3 : ∀ (W : World) (g : Nat), Rdr W g [] 0 → Calls Try.prog 11 #[.pointer (some ⟨g, 0, none⟩), .int .i64 k] W fun e w' => e = .returned (.tuple #[.int .u32 0, .bool false]) ∧ W = w' := fun W g hr => by
    rcases hk with hk | ⟨a, b, c⟩
    · exact number_bad g k W hk
    · exact number_no g [] 0 k W hr (by simp) a b (by simp; omega)
  have C1 := Lib.hid c1
  have C2 := Lib.hid c2
  have C3 := Lib.hid c3
  clear c1 c2 c3 hk
  go_enter Try.func5, Try.ntmps5
  go_wp2_with fail
  refine (C1.out _).mono ?_
  rintro e w' ⟨rfl, rfl⟩
  go_wp2_with fail
  refine (C2.out _).mono ?_
  rintro e w' ⟨rfl, rfl⟩
  go_wp2_with fail
  refine (new_any none 0 0 [] _ (Bytes.nil _ _ _) (by omega)).mono ?_
  rintro e w1 ⟨g, rfl, hg, hr, hb1⟩
  go_wp2_with fail
  refine (C3.out _ _ hr).mono ?_
  rintro e w' ⟨rfl, rfl⟩
  go_wp2_with fail
  refine (alive_any _).mono ?_
  rintro e w2 ⟨rfl, hb2⟩
  go_wp2_with fail
  refine (bytesEq_any none none 0 0 0 0 [] [] _ 0 0 (Bytes.nil _ _ _) (Bytes.nil _ _ _) (by omega) (by omega)).mono ?_
  rintro e w' ⟨rfl, m, rfl⟩
  go_wp2
  go_ret
  exact ⟨rfl, bl_drewN (bl_trans hb1 hb2) m⟩

theorem puts_some (k x : Int) (w : World) (hk : 1 ≤ k) (hk4 : k ≤ 4) (h0 : 0 ≤ x) (h2 : x < 4294967296) (h1 : x < 256 ^ k.toNat) :
    Calls Try.prog 5 #[.int .i64 k, .int .u32 x] w fun e w' => e = .returned (.bool true) ∧ Below w.heap.size w w' := by
  have HB := Lib.hid (big_digits k x hk hk4 h0 h1)
  have H1 := Lib.hid h1
  clear h1
  go_enter Try.func5, Try.ntmps5
  go_wp2_with fail
  refine (put_yes k x _ hk hk4 h0 H1.out).mono ?_
  rintro e w1 ⟨rfl, ho, hb1⟩
  have B1 : Bytes w1 w1.heap.size (some ⟨w.heap.size, 0, none⟩) k.toNat (digitsOf k.toNat x) := by
    have := Bytes.of_owned ho (digitsOf_range _ _) ho.lt
    rwa [digitsOf_len] at this
  go_wp2_with fail
  refine (rput_yes k x _ hk hk4 h0 h2 H1.out).mono ?_
  rintro e w2 ⟨v, rfl, hown, hb2⟩
  obtain ⟨A2, c2, rfl, hc2, hs2⟩ := own_val hown
  have B2 : Bytes w2 w2.heap.size A2 k.toNat (digitsOf k.toNat x) := ⟨(digitsOf_len _ _).symm, digitsOf_range _ _, hs2⟩
  have B1' := (B1.below hb2).more hb2.size
  go_wp2_with fail
  refine (new_any _ _ _ _ _ B1' (by omega)).mono ?_
  rintro e w3 ⟨g, rfl, hg, hr, hb3⟩
  have B1'' := (B1'.below hb3).more hb3.size
  have B2'' := (B2.below hb3).more hb3.size
  go_wp2_with fail
  refine (number_yes _ _ _ k _ hr (by rw [digitsOf_len]; omega) (by omega) hk hk4 (by rw [digitsOf_len]; omega)).mono ?_
  rintro e w4 ⟨rfl, hr4, hg4⟩
  rw [List.take_of_length_le (by rw [digitsOf_len]; exact Nat.le_refl _), HB.out]
  have D1 := B1''.only hr hg4
  have D2 := B2''.only hr hg4
  go_wp2_with fail
  refine (alive_any _).mono ?_
  rintro e w5 ⟨rfl, hb5⟩
  have E1 := (D1.below hb5).more hb5.size
  have E2 := (D2.below hb5).more hb5.size
  go_wp2_with fail
  refine (bytesEq_any _ _ _ _ _ _ _ _ _ _ _ E1 E2 (by omega) (by omega)).mono ?_
  rintro e w' ⟨rfl, m, rfl⟩
  go_wp2
  go_ret
  exact ⟨by simp, bl_drewN (bl_trans (bl_only (bl_trans (bl_trans hb1 hb2) hb3) hg4 (by have := hb1.size; have := hb2.size; omega)) hb5) m⟩

theorem puts_all (k x : Int) (w : World) (h0 : 0 ≤ x) (h2 : x < 4294967296) :
    Calls Try.prog 5 #[.int .i64 k, .int .u32 x] w fun e w' => e = .returned (.bool true) ∧ Below w.heap.size w w' := by
  by_cases hk : 1 ≤ k ∧ k ≤ 4
  · by_cases h1 : x < 256 ^ k.toNat
    · exact puts_some k x w hk.1 hk.2 h0 h2 h1
    · exact puts_none k x w h0 h2 (.inr ⟨hk.1, hk.2, by omega⟩)
  · exact puts_none k x w h0 h2 (.inl (by omega))
end Go.Proofs.Ytbojfoefelbakaa

/- HeaderParses: both parse to the same; the walk -/
import Derived.Test.YtgahjchngmojlabDoorHdO
import Derived.Test.YtgahjchngmojlabDoorHdS
namespace Go.Proofs.YtgahjchngmojlabDoor
open Go.RowKit

theorem first_bad (xs : List Int) : ∀ m : Nat, (∀ j, j < m → nth xs j = 255) ∨ ∃ i, i < m ∧ (∀ j, j < i → nth xs j = 255) ∧ nth xs i ≠ 255
  | 0 => .inl fun j hj => absurd hj (Nat.not_lt_zero j)
  | m + 1 => by
    rcases first_bad xs m with h | ⟨i, h1, h2, h3⟩
    · by_cases he : nth xs m = 255
      · exact .inl fun j hj => by
          rcases Nat.lt_succ_iff_lt_or_eq.1 hj with h4 | rfl
          · exact h j h4
          · exact he
      · exact .inr ⟨m, by omega, h, he⟩
    · exact .inr ⟨i, by omega, h2, h3⟩
/-- What both ends parse some bytes to. -/
def SameParse (a0 a1 a2 a3 a4 a5 : Bool) (xs : List Int) (N K k1 k2 k3 k5 : Int) (d : List Int) : Prop :=
  (∀ w A n c, HRows w → Bytes w w.heap.size A n xs → n ≤ c → n ≤ 1000000000 → Calls Tryd.prog 43 #[.agg #[.bool a0, .bool a1, .bool a2, .bool a3, .bool a4, .bool a5], .slice A n c] w fun e w' => ∃ A1 m1 c1, e = .returned (.tuple #[.agg #[.int .i64 N, .int .i64 K], .agg #[.int .i64 k1, .int .i64 k2, .int .i64 k3, .slice A1 m1 c1, .int .i64 k5]]) ∧ Bytes w' w'.heap.size A1 m1 d ∧ Below w.heap.size w w') ∧
  (∀ w A n c, Bytes w w.heap.size A n xs → n ≤ 1000000000 → Calls Tryd.prog 41 #[.agg #[.bool a0, .bool a1, .bool a2, .bool a3, .bool a4, .bool a5], .slice A n c] w fun e w' => ∃ A1 m1 c1, e = .returned (.tuple #[.int .i64 N, .int .i64 K, .agg #[.int .i64 k1, .int .i64 k2, .int .i64 k3, .slice A1 m1 c1, .int .i64 k5]]) ∧ Bytes w' w'.heap.size A1 m1 d ∧ Below w.heap.size w w')
theorem same_parse (a0 a1 a2 a3 a4 a5 : Bool) (xs : List Int) (hr : ∀ x ∈ xs, 0 ≤ x ∧ x ≤ 255) : ∃ N K k1 k2 k3 k5 d, SameParse a0 a1 a2 a3 a4 a5 xs N K k1 k2 k3 k5 d := by
  rcases first_bad xs (min 16 xs.length) with hall | ⟨i, hi, hall, hne⟩
  · by_cases hs : xs.length < 19
    · refine ⟨0, 0, 4, 1, 2, xs.length, [], ?_, ?_⟩
      · intro w A n c ht hx hc hn
        obtain rfl := hx.1
        refine (hparse_short a0 a1 a2 a3 a4 a5 A _ c xs w hx hc hn (fun j h1 h2 => hall j (by omega)) hs).mono ?_
        rintro e w' ⟨G, rfl, hb⟩
        exact ⟨_, _, _, rfl, Bytes.nil _ _ _, hb⟩
      · intro w A n c hx hn
        obtain rfl := hx.1
        refine (rparse_short a0 a1 a2 a3 a4 a5 A _ c xs w hx hn (fun j h1 h2 => hall j (by omega)) hs).mono ?_
        rintro e w' ⟨G, rfl, rfl, hb⟩
        exact ⟨_, _, _, rfl, Bytes.nil _ _ _, hb⟩
    · have hs19 : 19 ≤ xs.length := by omega
      have hall2 : ∀ j, j < 16 → nth xs j = 255 := fun j h1 => hall j (by omega)
      have r16 := hr _ (nth_mem (show 16 < xs.length by omega))
      have r17 := hr _ (nth_mem (show 17 < xs.length by omega))
      have r18 := hr _ (nth_mem (show 18 < xs.length by omega))
      have two : ∀ x ∈ [nth xs 16, nth xs 17], 0 ≤ x ∧ x ≤ 255 := by intro x hx; simp at hx; rcases hx with rfl | rfl <;> assumption
      have one : ∀ x ∈ [nth xs 18], 0 ≤ x ∧ x ≤ 255 := by intro x hx; simp at hx; rw [hx]; exact r18
      by_cases hl : nth xs 16 * 256 + nth xs 17 < 19 ∨ (if a1 then 65535 else 4096) < nth xs 16 * 256 + nth xs 17
      · refine ⟨0, 0, 4, 1, 2, 16, [nth xs 16, nth xs 17], ?_, ?_⟩
        · intro w A n c ht hx hc hn
          obtain rfl := hx.1
          refine (hparse_len a0 a1 a2 a3 a4 a5 A _ c xs w hx hc hn hall2 hs19 hl).mono ?_
          rintro e w' ⟨G, rfl, ho, hb⟩
          exact ⟨_, _, _, rfl, Bytes.of_owned (xs := [nth xs 16, nth xs 17]) ho two ho.lt, hb⟩
        · intro w A n c hx hn
          obtain rfl := hx.1
          refine (rparse_len a0 a1 a2 a3 a4 a5 A _ c xs w hx hn hall2 hs19 hl).mono ?_
          rintro e w' ⟨G, rfl, _, ho, hb⟩
          exact ⟨_, _, _, rfl, Bytes.of_owned (xs := [nth xs 16, nth xs 17]) ho two ho.lt, hb⟩
      · have hr2 : 19 ≤ nth xs 16 * 256 + nth xs 17 ∧ nth xs 16 * 256 + nth xs 17 ≤ (if a1 then 65535 else 4096) := by omega
        by_cases hk : nth xs 18 = 1 ∨ nth xs 18 = 2 ∨ nth xs 18 = 3 ∨ nth xs 18 = 4 ∨ nth xs 18 = 5
        · have hk0 : hLeast (nth xs 18) ≠ 0 := by rcases hk with h | h | h | h | h <;> rw [h] <;> decide
          cases hA : hAllow a1 (nth xs 18) (nth xs 16 * 256 + nth xs 17)
          · refine ⟨0, 0, 4, 1, 2, 16, [nth xs 16, nth xs 17], ?_, ?_⟩
            · intro w A n c ht hx hc hn
              obtain rfl := hx.1
              refine (hparse_allow a0 a1 a2 a3 a4 a5 A _ c xs w ht hx hc hn hall2 hs19 hr2 hk hA).mono ?_
              rintro e w' ⟨G, rfl, ho, hb⟩
              exact ⟨_, _, _, rfl, Bytes.of_owned (xs := [nth xs 16, nth xs 17]) ho two ho.lt, hb⟩
            · intro w A n c hx hn
              obtain rfl := hx.1
              refine (rparse_allow a0 a1 a2 a3 a4 a5 A _ c xs w hx hn hall2 hs19 hr2 hk0 hA).mono ?_
              rintro e w' ⟨G, rfl, _, ho, hb⟩
              exact ⟨_, _, _, rfl, Bytes.of_owned (xs := [nth xs 16, nth xs 17]) ho two ho.lt, hb⟩
          · refine ⟨nth xs 16 * 256 + nth xs 17, nth xs 18, 0, 0, 0, 0, [], ?_, ?_⟩
            · intro w A n c ht hx hc hn
              obtain rfl := hx.1
              refine (hparse_ok a0 a1 a2 a3 a4 a5 A _ c xs w ht hx hc hn hall2 hs19 hr2 hA).mono ?_
              rintro e w' ⟨G, rfl, rfl, hb⟩
              exact ⟨_, _, _, rfl, Bytes.nil _ _ _, hb⟩
            · intro w A n c hx hn
              obtain rfl := hx.1
              refine (rparse_ok a0 a1 a2 a3 a4 a5 A _ c xs w hx hn hall2 hs19 hr2 hk0 hA).mono ?_
              rintro e w' ⟨G, rfl, rfl, hb⟩
              exact ⟨_, _, _, rfl, Bytes.nil _ _ _, hb⟩
        · have hkk : hName (nth xs 18) = ⟨#[]⟩ ∧ hLeast (nth xs 18) = 0 := by
            rcases hKinds (nth xs 18) with h | h | h | h | h | ⟨h1, h2, _⟩
            · exact absurd (.inl h) hk
            · exact absurd (.inr (.inl h)) hk
            · exact absurd (.inr (.inr (.inl h))) hk
            · exact absurd (.inr (.inr (.inr (.inl h)))) hk
            · exact absurd (.inr (.inr (.inr (.inr h)))) hk
            · exact ⟨h1, h2⟩
          refine ⟨0, 0, 4, 1, 3, 18, [nth xs 18], ?_, ?_⟩
          · intro w A n c ht hx hc hn
            obtain rfl := hx.1
            refine (hparse_kind a0 a1 a2 a3 a4 a5 A _ c xs w ht hx hc hn hall2 hs19 hr2 hkk.1).mono ?_
            rintro e w' ⟨G, rfl, ho, hb⟩
            exact ⟨_, _, _, rfl, Bytes.of_owned (xs := [nth xs 18]) ho one ho.lt, hb⟩
          · intro w A n c hx hn
            obtain rfl := hx.1
            refine (rparse_kind a0 a1 a2 a3 a4 a5 A _ c xs w hx hn hall2 hs19 hr2 hkk.2).mono ?_
            rintro e w' ⟨G, rfl, _, ho, hb⟩
            exact ⟨_, _, _, rfl, Bytes.of_owned (xs := [nth xs 18]) ho one ho.lt, hb⟩
  · refine ⟨0, 0, 4, 1, 1, i, [], ?_, ?_⟩
    · intro w A n c ht hx hc hn
      obtain rfl := hx.1
      refine (hparse_mark a0 a1 a2 a3 a4 a5 A _ c xs w hx hc hn i (by omega) (by omega) hall hne).mono ?_
      rintro e w' ⟨G, rfl, hb⟩
      exact ⟨_, _, _, rfl, Bytes.nil _ _ _, hb⟩
    · intro w A n c hx hn
      obtain rfl := hx.1
      refine (rparse_mark a0 a1 a2 a3 a4 a5 A _ c xs w hx hn i (by omega) (by omega) hall hne).mono ?_
      rintro e w' ⟨G, rfl, rfl, hb⟩
      exact ⟨_, _, _, rfl, Bytes.nil _ _ _, hb⟩
end Go.Proofs.YtgahjchngmojlabDoor

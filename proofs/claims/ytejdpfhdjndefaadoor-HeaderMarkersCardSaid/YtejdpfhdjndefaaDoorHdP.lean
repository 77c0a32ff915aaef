/- HeaderParses: both parse to the same; the walk -/
import Derived.Test.YtejdpfhdjndefaaDoorHdO
import Derived.Test.YtejdpfhdjndefaaDoorHdS
namespace Go.Proofs.YtejdpfhdjndefaaDoor
open Go.RowKit

theorem first_bad (xs : List Int) : ∀ m : Nat, (∀ j, j < m → nth xs j = 255) ∨ ∃ i, i < m ∧ (∀ j, j < i → nth xs j = 255) ∧ nth xs i ≠ 255
  | 0 => .inl fun j hj => absurd hj (Nat.not_lt_zero j)
  | m + 1 => by
    rcases first_bad xs m with h | ⟨i, h1, h2, h3⟩
    · by_cases he : nth xs m = 255
      · exact .inl fun j hj => by
          rcases Nat.lt_succ_iff_lt_or_eq.1 hj with h4 | rfl
          · exact h j h4
          · exact he
      · exact .inr ⟨m, by omega, h, he⟩
    · exact .inr ⟨i, by omega, h2, h3⟩
/-- What both ends parse some bytes to. -/
def SameParse (a0 a1 a2 a3 a4 a5 : Bool) (xs : List Int) (N K k1 k2 k3 k5 : Int) (d : List Int) : Prop :=
  (∀ w A n c, HRows w → Bytes w w.heap.size A n xs → n ≤ c → n ≤ 1000000000 → Calls Tryd.prog 14 #[.agg #[.bool a0, .bool a1, .bool a2, .bool a3, .bool a4, .bool a5], .slice A n c] w fun e w' => ∃ A1 m1 c1, e = .returned (.tuple #[.agg #[.int .i64 N, .int .i64 K], .agg #[.int .i64 k1, .int .i64 k2, .int .i64 k3, .slice A1 m1 c1, .int .i64 k5]]) ∧ Bytes w' w'.heap.size A1 m1 d ∧ Below w.heap.size w w') ∧
  (∀ w A n c, Bytes w w.heap.size A n xs → n ≤ 1000000000 → Calls Tryd.prog 15 #[.agg #[.bool a0, .bool a1, .bool a2, .bool a3, .bool a4, .bool a5], .slice A n c] w fun e w' => ∃ A1 m1 c1, e = .returned (.tuple #[.int .i64 N, .int .i64 K, .agg #[.int .i64 k1, .int .i64 k2, .int .i64 k3, .slice A1 m1 c1, .int .i64 k5]]) ∧ Bytes w' w'.heap.size A1 m1 d ∧ Below w.heap.size w w')
theorem same_parse (a0 a1 a2 a3 a4 a5 : Bool) (xs : List Int) (hr : ∀ x ∈ xs, 0 ≤ x ∧ x ≤ 255) : ∃ N K k1 k2 k3 k5 d, SameParse a0 a1 a2 a3 a4 a5 xs N K k1 k2 k3 k5 d := by
  rcases first_bad xs (min 16 xs.length) with hall | ⟨i, hi, hall, hne⟩
  · by_cases hs : xs.length < 19
    · refine ⟨0, 0, 4, 1, 2, xs.length, [], ?_, ?_⟩
      · intro w A n c ht hx hc hn
        obtain rfl := hx.1
        refine (hparse_short a0 a1 a2 a3 a4 a5 A _ c xs w hx hc hn (fun j h1 h2 => hall j (by omega)) hs).mono ?_
        rintro e w' ⟨G, rfl, hb⟩
        exact ⟨_, _, _, rfl, Bytes.nil _ _ _, hb⟩
      · intro w A n c hx hn
        obtain rfl := hx.1
        refine (rparse_short a0 a1 a2 a3 a4 a5 A _ c xs w hx hn (fun j h1 h2 => hall j (by omega)) hs).mono ?_
        rintro e w' ⟨G, rfl, rfl, hb⟩
        exact ⟨_, _, _, rfl, Bytes.nil _ _ _, hb⟩
    · have hs19 : 19 ≤ xs.length := by omega
      have hall2 : ∀ j, j < 16 → nth xs j = 255 := fun j h1 => hall j (by omega)
      have r16 := hr _ (nth_mem (show 16 < xs.length by omega))
      have r17 := hr _ (nth_mem (show 17 < xs.length by omega))
      have r18 := hr _ (nth_mem (show 18 < xs.length by omega))
      have two : ∀ x ∈ [nth xs 16, nth xs 17], 0 ≤ x ∧ x ≤ 255 := by intro x hx; simp at hx; rcases hx with rfl | rfl <;> assumption
      have one : ∀ x ∈ [nth xs 18], 0 ≤ x ∧ x ≤ 255 := by intro x hx; simp at hx; rw [hx]; exact r18
      by_cases hl : nth xs 16 * 256 + nth xs 17 < 19 ∨ (if a1 then 65535 else 4096) < nth xs 16 * 256 + nth xs 17
      · refine ⟨0, 0, 4, 1, 2, 16, [nth xs 16, nth xs 17], ?_, ?_⟩
        · intro w A n c ht hx hc hn
          obtain rfl := hx.1
          refine (hparse_len a0 a1 a2 a3 a4 a5 A _ c xs w hx hc hn hall2 hs19 hl).mono ?_
          rintro e w' ⟨G, rfl, ho, hb⟩
          exact ⟨_, _, _, rfl, Bytes.of_owned (xs := [nth xs 16, nth xs 17]) ho two ho.lt, hb⟩
        · intro w A n c hx hn
          obtain rfl := hx.1
          refine (rparse_len a0 a1 a2 a3 a4 a5 A _ c xs w hx hn hall2 hs19 hl).mono ?_
          rintro e w' ⟨G, rfl, ho, hb⟩
          exact ⟨_, _, _, rfl, Bytes.of_owned (xs := [nth xs 16, nth xs 17]) ho two ho.lt, hb⟩
      · have hr2 : 19 ≤ nth xs 16 * 256 + nth xs 17 ∧ nth xs 16 * 256 + nth xs 17 ≤ (if a1 then 65535 else 4096) := by omega
        by_cases hk : nth xs 18 = 1 ∨ nth xs 18 = 2 ∨ nth xs 18 = 3 ∨ nth xs 18 = 4 ∨ nth xs 18 = 5
        · have hk0 : hLeast (nth xs 18) ≠ 0 := by rcases hk with h | h | h | h | h <;> rw [h] <;> decide
          cases hA : hAllow a1 (nth xs 18) (nth xs 16 * 256 + nth xs 17)
          · refine ⟨0, 0, 4, 1, 2, 16, [nth xs 16, nth xs 17], ?_, ?_⟩
            · intro w A n c ht hx hc hn
              obtain rfl := hx.1
              refine (hparse_allow a0 a1 a2 a3 a4 a5 A _ c xs w ht hx hc hn hall2 hs19 hr2 hk hA).mono ?_
              rintro e w' ⟨G, rfl, ho, hb⟩
              exact ⟨_, _, _, rfl, Bytes.of_owned (xs := [nth xs 16, nth xs 17]) ho two ho.lt, hb⟩
            · intro w A n c hx hn
              obtain rfl := hx.1
              refine (rparse_allow a0 a1 a2 a3 a4 a5 A _ c xs w hx hn hall2 hs19 hr2 hk0 hA).mono ?_
              rintro e w' ⟨G, rfl, ho, hb⟩
              exact ⟨_, _, _, rfl, Bytes.of_owned (xs := [nth xs 16, nth xs 17]) ho two ho.lt, hb⟩
          · refine ⟨nth xs 16 * 256 + nth xs 17, nth xs 18, 0, 0, 0, 0, [], ?_, ?_⟩
            · intro w A n c ht hx hc hn
              obtain rfl := hx.1
              refine (hparse_ok a0 a1 a2 a3 a4 a5 A _ c xs w ht hx hc hn hall2 hs19 hr2 hA).mono ?_
              rintro e w' ⟨G, rfl, rfl, hb⟩
              exact ⟨_, _, _, rfl, Bytes.nil _ _ _, hb⟩
            · intro w A n c hx hn
              obtain rfl := hx.1
              refine (rparse_ok a0 a1 a2 a3 a4 a5 A _ c xs w hx hn hall2 hs19 hr2 hk0 hA).mono ?_
              rintro e w' ⟨G, rfl, rfl, hb⟩
              exact ⟨_, _, _, rfl, Bytes.nil _ _ _, hb⟩
        · have hkk : hName (nth xs 18) = ⟨#[]⟩ ∧ hLeast (nth xs 18) = 0 := by
            rcases hKinds (nth xs 18) with h | h | h | h | h | ⟨h1, h2, _⟩
            · exact absurd (.inl h) hk
            · exact absurd (.inr (.inl h)) hk
            · exact absurd (.inr (.inr (.inl h))) hk
            · exact absurd (.inr (.inr (.inr (.inl h)))) hk
            · exact absurd (.inr (.inr (.inr (.inr h)))) hk
            · exact ⟨h1, h2⟩
          refine ⟨0, 0, 4, 1, 3, 18, [nth xs 18], ?_, ?_⟩
          · intro w A n c ht hx hc hn
            obtain rfl := hx.1
            refine (hparse_kind a0 a1 a2 a3 a4 a5 A _ c xs w ht hx hc hn hall2 hs19 hr2 hkk.1).mono ?_
            rintro e w' ⟨G, rfl, ho, hb⟩
            exact ⟨_, _, _, rfl, Bytes.of_owned (xs := [nth xs 18]) ho one ho.lt, hb⟩
          · intro w A n c hx hn
            obtain rfl := hx.1
            refine (rparse_kind a0 a1 a2 a3 a4 a5 A _ c xs w hx hn hall2 hs19 hr2 hkk.2).mono ?_
            rintro e w' ⟨G, rfl, ho, hb⟩
            exact ⟨_, _, _, rfl, Bytes.of_owned (xs := [nth xs 18]) ho one ho.lt, hb⟩
  · refine ⟨0, 0, 4, 1, 1, i, [], ?_, ?_⟩
    · intro w A n c ht hx hc hn
      obtain rfl := hx.1
      refine (hparse_mark a0 a1 a2 a3 a4 a5 A _ c xs w hx hc hn i (by omega) (by omega) hall hne).mono ?_
      rintro e w' ⟨G, rfl, hb⟩
      exact ⟨_, _, _, rfl, Bytes.nil _ _ _, hb⟩
    · intro w A n c hx hn
      obtain rfl := hx.1
      refine (rparse_mark a0 a1 a2 a3 a4 a5 A _ c xs w hx hn i (by omega) (by omega) hall hne).mono ?_
      rintro e w' ⟨G, rfl, rfl, hb⟩
      exact ⟨_, _, _, rfl, Bytes.nil _ _ _, hb⟩
set_option maxRecDepth 100000 in
theorem hparses_early (a0 a1 a2 a3 a4 a5 : Bool) (A : Option Addr) (n c : Nat) (w : World) (ht : HRows w) (hm : n ≤ maxLen) (h : 300 < n) :
    Calls Tryd.prog 3 #[.agg #[.bool a0, .bool a1, .bool a2, .bool a3, .bool a4, .bool a5], .slice A n c] w fun e w' => e = .returned (.bool true) ∧ Below w.heap.size w w' := by
  unfold maxLen at hm
  have hb0 := bl_alloc (bl_refl w) (.cells #[.bool a0, .bool a1, .bool a2, .bool a3, .bool a4, .bool a5] 23)
  have ht0 := ht.alloc (.cells #[.bool a0, .bool a1, .bool a2, .bool a3, .bool a4, .bool a5] 23)
  go_enter Tryd.func3, Tryd.ntmps3
  go_wp2_with fail
  refine (alive4_any _ ht0).mono ?_
  rintro e w1 ⟨rfl, hb1⟩
  have hb2 := bl_trans hb0 hb1
  go_wp2
  go_ret
  exact ⟨rfl, hb2⟩
set_option maxRecDepth 100000 in
set_option maxHeartbeats 3200000 in
theorem hparses_late (a0 a1 a2 a3 a4 a5 : Bool) (A : Option Addr) (n c : Nat) (xs : List Int) (w : World) (ht : HRows w) (hx : Bytes w w.heap.size A n xs) (hc : n ≤ c) (h : n ≤ 300) :
    Calls Tryd.prog 3 #[.agg #[.bool a0, .bool a1, .bool a2, .bool a3, .bool a4, .bool a5], .slice A n c] w fun e w' => e = .returned (.bool true) ∧ Below w.heap.size w w' := by
  obtain ⟨N, K, k1, k2, k3, k5, d, hP, hR⟩ := same_parse a0 a1 a2 a3 a4 a5 xs hx.2.1
  have HP := Lib.hid hP
  have HR := Lib.hid hR
  clear hP hR
  have hb0 := bl_alloc (bl_refl w) (.cells #[.bool a0, .bool a1, .bool a2, .bool a3, .bool a4, .bool a5] 23)
  have ht0 := ht.alloc (.cells #[.bool a0, .bool a1, .bool a2, .bool a3, .bool a4, .bool a5] 23)
  have o0 := Own.new w 23 #[.bool a0, .bool a1, .bool a2, .bool a3, .bool a4, .bool a5]
  have hx0 := (hx.below hb0).more hb0.size
  clear ht hx
  go_enter Tryd.func3, Tryd.ntmps3
  go_wp2_with fail
  refine (HP.out _ A n c ht0 hx0 hc (by omega)).mono ?_
  rintro e w1 ⟨A1, m1, c1, rfl, hB1, hb1⟩
  have hba := bl_alloc (bl_alloc (bl_refl w1) (.cells #[.int .i64 N, .int .i64 K] 27)) (.cells #[.int .i64 k1, .int .i64 k2, .int .i64 k3, .slice A1 m1 c1, .int .i64 k5] 29)
  have hb2 := bl_trans (bl_trans hb0 hb1) hba
  have ht1 := (ht0.below hb1).below hba
  have o1 := (o0.step hb1).step hba
  have hx1 := ((hx0.below hb1).more hb1.size |>.below hba).more hba.size
  have hX := (hB1.below hba).more hba.size
  have q1 := (Own.new w1 27 #[.int .i64 N, .int .i64 K]).alloc (.cells #[.int .i64 k1, .int .i64 k2, .int .i64 k3, .slice A1 m1 c1, .int .i64 k5] 29)
  have q2 := Own.new (w1.alloc (.cells #[.int .i64 N, .int .i64 K] 27)) 29 #[.int .i64 k1, .int .i64 k2, .int .i64 k3, .slice A1 m1 c1, .int .i64 k5]
  rw [show (w1.alloc (.cells #[.int .i64 N, .int .i64 K] 27)).heap.size = w1.heap.size + 1 by simp] at q2
  obtain ⟨p0, p1, p2, p3, p4, p5⟩ := own_six4 o1
  clear hb0 hb1 ht0 o0 hx0 hB1 hba
  go_wp2_with fail
  refine (HR.out _ A n c hx1 (by omega)).mono ?_
  rintro e w2 ⟨A2, m2, c2, rfl, hB2, hb3⟩
  have hba := bl_alloc (bl_refl w2) (.cells #[.int .i64 k1, .int .i64 k2, .int .i64 k3, .slice A2 m2 c2, .int .i64 k5] 29)
  have hb4 := bl_trans (bl_trans hb2 hb3) hba
  have ht2 := (ht1.below hb3).below hba
  have hX2 := (((hX.below hb3).more hb3.size).below hba).more hba.size
  have hY2 := (hB2.below hba).more hba.size
  have s1 := (q1.step hb3).step hba
  have s2 := (q2.step hb3).step hba
  have s3 := Own.new w2 29 #[.int .i64 k1, .int .i64 k2, .int .i64 k3, .slice A2 m2 c2, .int .i64 k5]
  clear hb2 hb3 ht1 o1 hx1 hX hB2 q1 q2 p0 p1 p2 p3 p4 p5 hba
  go_wp2_with fail
  refine (alive4_any _ ht2).mono ?_
  rintro e w3 ⟨rfl, hb5⟩
  have hb6 := bl_trans hb4 hb5
  have hX3 := (hX2.below hb5).more hb5.size
  have hY3 := (hY2.below hb5).more hb5.size
  have r1 := s1.step hb5
  have r2 := s2.step hb5
  have r3 := s3.step hb5
  have y0 := r2.cell (i := 0) (v := .int .i64 k1) rfl
  have y1 := r2.cell (i := 1) (v := .int .i64 k2) rfl
  have y2 := r2.cell (i := 2) (v := .int .i64 k3) rfl
  have y3 := r2.cell (i := 3) (v := .slice A1 m1 c1) rfl
  have y4 := r2.cell (i := 4) (v := .int .i64 k5) rfl
  have z0 := r3.cell (i := 0) (v := .int .i64 k1) rfl
  have z1 := r3.cell (i := 1) (v := .int .i64 k2) rfl
  have z2 := r3.cell (i := 2) (v := .int .i64 k3) rfl
  have z3 := r3.cell (i := 3) (v := .slice A2 m2 c2) rfl
  have z4 := r3.cell (i := 4) (v := .int .i64 k5) rfl
  clear hb4 hb5 ht2 hX2 hY2 s1 s2 s3 r2 r3
  go_wp2_with fail
  refine (vsame_same k1 k2 k3 k5 A1 A2 m1 m2 c1 c2 d _ hX3 hY3).mono ?_
  rintro e w4 ⟨rfl, hb7⟩
  have hb8 := bl_trans hb6 hb7
  have u1 := r1.step hb7
  have x0 := u1.cell (i := 0) (v := .int .i64 N) rfl
  have x1 := u1.cell (i := 1) (v := .int .i64 K) rfl
  have eN : (N == N) = true := by simp
  have eK : (K == K) = true := by simp
  clear y0 y1 y2 y3 y4 z0 z1 z2 z3 z4 hX3 hY3 r1 hb6 hb7 u1
  go_wp2
  go_ret
  exact ⟨rfl, hb8⟩
set_option maxRecDepth 100000 in
theorem hparses_all (a0 a1 a2 a3 a4 a5 : Bool) (A : Option Addr) (n c : Nat) (xs : List Int) (w : World) (ht : HRows w) (hx : Bytes w w.heap.size A n xs) (hc : n ≤ c) (hm : n ≤ maxLen) :
    Calls Tryd.prog 3 #[.agg #[.bool a0, .bool a1, .bool a2, .bool a3, .bool a4, .bool a5], .slice A n c] w fun e w' => e = .returned (.bool true) ∧ Below w.heap.size w w' := by
  by_cases h : 300 < n
  · exact hparses_early a0 a1 a2 a3 a4 a5 A n c w ht hm h
  · exact hparses_late a0 a1 a2 a3 a4 a5 A n c xs w ht hx hc (by omega)
end Go.Proofs.YtejdpfhdjndefaaDoor

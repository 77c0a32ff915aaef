/- XFrMa: XFrA, XFrB, XFrD, XFrC, XFrV, XFrW in one text -/
import Derived.Test.YtgahjchngmojlabDoorHdP
import Derived.Test.YtgahjchngmojlabDoorApAt
/- frame: what a framer does, without memory -/
namespace Go.Proofs.YtgahjchngmojlabDoor
open Go.RowKit

structure O6 where
  a0 : Bool
  a1 : Bool
  a2 : Bool
  a3 : Bool
  a4 : Bool
  a5 : Bool
def O6.cs (o : O6) : Array Value := #[.bool o.a0, .bool o.a1, .bool o.a2, .bool o.a3, .bool o.a4, .bool o.a5]
/-- What some bytes are parsed to. -/
structure HR where
  N : Int
  K : Int
  k1 : Int
  k2 : Int
  k3 : Int
  k5 : Int
  d : List Int
def lead : List Int → Nat
  | [] => 0
  | x :: t => if x = 255 then lead t + 1 else 0
theorem lead_le : ∀ xs : List Int, lead xs ≤ xs.length
  | [] => Nat.le_refl _
  | x :: t => by
    unfold lead
    split
    · have := lead_le t
      simp
      omega
    · simp
theorem lead_all : ∀ (xs : List Int) (j : Nat), j < lead xs → nth xs j = 255
  | [], j, h => absurd h (Nat.not_lt_zero j)
  | x :: t, j, h => by
    unfold lead at h
    split at h
    · rename_i hx
      cases j with
      | zero => simpa [nth] using hx
      | succ j =>
        have := lead_all t j (by omega)
        simpa [nth] using this
    · exact absurd h (Nat.not_lt_zero j)
theorem lead_ne : ∀ xs : List Int, lead xs < xs.length → nth xs (lead xs) ≠ 255
  | [], h => absurd h (Nat.not_lt_zero _)
  | x :: t, h => by
    by_cases hx : x = 255
    · have e : lead (x :: t) = lead t + 1 := by
        show (if x = 255 then lead t + 1 else 0) = _
        rw [if_pos hx]
      rw [e] at h ⊢
      have := lead_ne t (by simpa using h)
      simpa [nth] using this
    · have e : lead (x :: t) = 0 := by
        show (if x = 255 then lead t + 1 else 0) = _
        rw [if_neg hx]
      rw [e]
      simpa [nth] using hx
theorem nth_take {xs : List Int} {j k : Nat} (h : j < k) : nth (xs.take k) j = nth xs j := by
  unfold nth
  rw [List.getD_eq_getElem?_getD, List.getD_eq_getElem?_getD, List.getElem?_take_of_lt h]
def hdP (x : Bool) (xs : List Int) : HR :=
  if lead (xs.take 16) < min 16 xs.length then ⟨0, 0, 4, 1, 1, (lead (xs.take 16) : Nat), []⟩
  else if xs.length < 19 then ⟨0, 0, 4, 1, 2, xs.length, []⟩
  else if nth xs 16 * 256 + nth xs 17 < 19 ∨ (if x then 65535 else 4096) < nth xs 16 * 256 + nth xs 17 then ⟨0, 0, 4, 1, 2, 16, [nth xs 16, nth xs 17]⟩
  else if nth xs 18 = 1 ∨ nth xs 18 = 2 ∨ nth xs 18 = 3 ∨ nth xs 18 = 4 ∨ nth xs 18 = 5 then
    (if hAllow x (nth xs 18) (nth xs 16 * 256 + nth xs 17) = true then ⟨nth xs 16 * 256 + nth xs 17, nth xs 18, 0, 0, 0, 0, []⟩ else ⟨0, 0, 4, 1, 2, 16, [nth xs 16, nth xs 17]⟩)
  else ⟨0, 0, 4, 1, 3, 18, [nth xs 18]⟩
theorem hdP_acc (x : Bool) (xs : List Int) (h : (hdP x xs).k1 = 0) : 19 ≤ (hdP x xs).N ∧ (hdP x xs).N ≤ (if x then 65535 else 4096) := by
  unfold hdP at h ⊢
  by_cases h1 : lead (xs.take 16) < min 16 xs.length
  · rw [if_pos h1] at h; exact absurd h (by show ¬ ((4 : Int) = 0); decide)
  rw [if_neg h1] at h ⊢
  by_cases h2 : xs.length < 19
  · rw [if_pos h2] at h; exact absurd h (by show ¬ ((4 : Int) = 0); decide)
  rw [if_neg h2] at h ⊢
  by_cases h3 : nth xs 16 * 256 + nth xs 17 < 19 ∨ (if x then 65535 else 4096) < nth xs 16 * 256 + nth xs 17
  · rw [if_pos h3] at h; exact absurd h (by show ¬ ((4 : Int) = 0); decide)
  rw [if_neg h3] at h ⊢
  by_cases h4 : nth xs 18 = 1 ∨ nth xs 18 = 2 ∨ nth xs 18 = 3 ∨ nth xs 18 = 4 ∨ nth xs 18 = 5
  · rw [if_pos h4] at h ⊢
    by_cases h5 : hAllow x (nth xs 18) (nth xs 16 * 256 + nth xs 17) = true
    · rw [if_pos h5]
      show 19 ≤ nth xs 16 * 256 + nth xs 17 ∧ nth xs 16 * 256 + nth xs 17 ≤ (if x then 65535 else 4096)
      omega
    · rw [if_neg h5] at h; exact absurd h (by show ¬ ((4 : Int) = 0); decide)
  · rw [if_neg h4] at h; exact absurd h (by show ¬ ((4 : Int) = 0); decide)
/-- Bytes that lie in a row of bytes, if there are any. -/
def BT (w : World) (B : Nat) (A : Option Addr) (n : Nat) (xs : List Int) : Prop := Bytes w B A n xs ∧ (xs = [] ∨ ∀ a, A = some a → Typed w a.block 5)
theorem BT.nil (w : World) (B : Nat) (A : Option Addr) : BT w B A 0 [] := ⟨Bytes.nil _ _ _, .inl rfl⟩
theorem BT.more {w : World} {B B' n : Nat} {A : Option Addr} {xs : List Int} (h : BT w B A n xs) (hB : B ≤ B') : BT w B' A n xs := ⟨h.1.more hB, h.2⟩
theorem BT.rest {w w' : World} {B n : Nat} {A : Option Addr} {xs : List Int} {P : Nat → Prop} (h : BT w B A n xs) (k : Rest w w' P) (hp : ∀ i, i < B → Typed w i 5 → ¬ P i) (hB : B ≤ w.heap.size) : BT w' B A n xs := by
  obtain ⟨h1, h2⟩ := h
  rcases xs with _ | ⟨x, t⟩
  · exact ⟨⟨h1.1, h1.2.1, .inl rfl⟩, .inl rfl⟩
  · rcases h2 with h2 | h2
    · cases h2
    · rcases h1.2.2 with h0 | ⟨b, o, hA, hb, hc⟩
      · cases h0
      · have ht := h2 _ hA
        have hn := hp b hb ht
        refine ⟨⟨h1.1, h1.2.1, .inr ⟨b, o, hA, hb, fun i v hv => (World.cell?_of_block (a := ⟨b, o + i, none⟩) (k.block b (by omega) hn)).trans (hc i v hv)⟩⟩, .inr fun a ha => ?_⟩
        rw [hA] at ha
        cases ha
        exact ht.rest k hn
theorem BT.below {w w' : World} {B n : Nat} {A : Option Addr} {xs : List Int} (h : BT w B A n xs) (k : Below w.heap.size w w') (hB : B ≤ w.heap.size) : BT w' B A n xs :=
  h.rest (Rest.of_below k (fun _ => False)) (fun _ _ _ f => f) hB
theorem BT.of_owned {w : World} {g : Nat} {xs : List Int} (h : Own w g 5 (xs.map (Value.int .u8)).toArray) (hr : ∀ x ∈ xs, 0 ≤ x ∧ x ≤ 255) {B : Nat} (hB : g < B) : BT w B (some ⟨g, 0, none⟩) xs.length xs :=
  ⟨Bytes.of_owned h hr hB, .inr fun a ha => by cases ha; exact h.typed⟩
/-- They lie in blocks from b on, if there are any. -/
def LB (b : Nat) (A : Option Addr) (xs : List Int) : Prop := xs = [] ∨ ∀ a, A = some a → b ≤ a.block
theorem LB.low {b b' : Nat} {A : Option Addr} {xs : List Int} (h : LB b A xs) (hb : b' ≤ b) : LB b' A xs := h.imp (fun e => e) (fun f a ha => Nat.le_trans hb (f a ha))
/-- Not in block k. -/
def NB (k : Option Nat) (A : Option Addr) (xs : List Int) : Prop := xs = [] ∨ ∀ a, A = some a → k ≠ some a.block
theorem LB.nb {b : Nat} {A : Option Addr} {xs : List Int} {k : Option Nat} (h : LB b A xs) (hk : ∀ j, k = some j → j < b) : NB k A xs := h.imp (fun e => e) (fun f a ha e => by have h1 := hk _ e; have h2 := f a ha; omega)
/-- They abide what changes nothing of theirs. -/
theorem BT.rest2 {w w' : World} {B n : Nat} {A : Option Addr} {xs : List Int} {P : Nat → Prop} (h : BT w B A n xs) (k : Rest w w' P) (hp : ∀ a, A = some a → xs ≠ [] → Typed w a.block 5 → ¬ P a.block) (hB : B ≤ w.heap.size) : BT w' B A n xs := by
  obtain ⟨h1, h2⟩ := h
  rcases xs with _ | ⟨x, t⟩
  · exact ⟨⟨h1.1, h1.2.1, .inl rfl⟩, .inl rfl⟩
  · rcases h2 with h2 | h2
    · cases h2
    · rcases h1.2.2 with h0 | ⟨b, o, hA, hb, hc⟩
      · cases h0
      · have ht := h2 _ hA
        have hn := hp _ hA (by simp) ht
        refine ⟨⟨h1.1, h1.2.1, .inr ⟨b, o, hA, hb, fun i v hv => (World.cell?_of_block (a := ⟨b, o + i, none⟩) (k.block b (by omega) hn)).trans (hc i v hv)⟩⟩, .inr fun a ha => ?_⟩
        rw [hA] at ha
        cases ha
        exact ht.rest k hn
/-- What both ends parse some bytes to. -/
def SameP (o : O6) (xs : List Int) (r : HR) : Prop :=
  (∀ w A n c, HRows w → Bytes w w.heap.size A n xs → n ≤ c → n ≤ 1000000000 → Calls Tryd.prog 43 #[.agg #[.bool o.a0, .bool o.a1, .bool o.a2, .bool o.a3, .bool o.a4, .bool o.a5], .slice A n c] w fun e w' => ∃ A1 m1 c1, e = .returned (.tuple #[.agg #[.int .i64 r.N, .int .i64 r.K], .agg #[.int .i64 r.k1, .int .i64 r.k2, .int .i64 r.k3, .slice A1 m1 c1, .int .i64 r.k5]]) ∧ BT w' w'.heap.size A1 m1 r.d ∧ Below w.heap.size w w') ∧
  (∀ w A n c, Bytes w w.heap.size A n xs → n ≤ 1000000000 → Calls Tryd.prog 41 #[.agg #[.bool o.a0, .bool o.a1, .bool o.a2, .bool o.a3, .bool o.a4, .bool o.a5], .slice A n c] w fun e w' => ∃ A1 m1 c1, e = .returned (.tuple #[.int .i64 r.N, .int .i64 r.K, .agg #[.int .i64 r.k1, .int .i64 r.k2, .int .i64 r.k3, .slice A1 m1 c1, .int .i64 r.k5]]) ∧ BT w' w'.heap.size A1 m1 r.d ∧ LB w.heap.size A1 r.d ∧ Below w.heap.size w w')
theorem hdP_same (o : O6) (xs : List Int) (hr : ∀ x ∈ xs, 0 ≤ x ∧ x ≤ 255) : SameP o xs (hdP o.a1 xs) := by
  obtain ⟨a0, a1, a2, a3, a4, a5⟩ := o
  dsimp only
  have htl : (xs.take 16).length = min 16 xs.length := List.length_take ..
  by_cases h1 : lead (xs.take 16) < min 16 xs.length
  · have e : hdP a1 xs = ⟨0, 0, 4, 1, 1, (lead (xs.take 16) : Nat), []⟩ := by unfold hdP; rw [if_pos h1]
    rw [e]
    have hall : ∀ j, j < lead (xs.take 16) → nth xs j = 255 := fun j hj => by
      rw [← nth_take (k := 16) (by omega)]
      exact lead_all _ _ hj
    have hne : nth xs (lead (xs.take 16)) ≠ 255 := by
      rw [← nth_take (xs := xs) (k := 16) (j := lead (xs.take 16)) (by omega)]
      exact lead_ne _ (by omega)
    generalize lead (xs.take 16) = i at *
    refine ⟨?_, ?_⟩
    · intro w A n c ht hx hc hn
      obtain rfl := hx.1
      refine (hparse_mark a0 a1 a2 a3 a4 a5 A _ c xs w hx hc hn i (by omega) (by omega) hall hne).mono ?_
      rintro e w' ⟨G, rfl, hb⟩
      exact ⟨_, _, _, rfl, BT.nil _ _ _, hb⟩
    · intro w A n c hx hn
      obtain rfl := hx.1
      refine (rparse_mark a0 a1 a2 a3 a4 a5 A _ c xs w hx hn i (by omega) (by omega) hall hne).mono ?_
      rintro e w' ⟨G, rfl, rfl, hb⟩
      exact ⟨_, _, _, rfl, BT.nil _ _ _, .inl rfl, hb⟩
  · have hall : ∀ j, j < 16 → j < xs.length → nth xs j = 255 := fun j h16 hj => by
      rw [← nth_take (k := 16) h16]
      exact lead_all _ _ (by have := lead_le (xs.take 16); omega)
    by_cases hs : xs.length < 19
    · have e : hdP a1 xs = ⟨0, 0, 4, 1, 2, xs.length, []⟩ := by unfold hdP; rw [if_neg h1, if_pos hs]
      rw [e]
      refine ⟨?_, ?_⟩
      · intro w A n c ht hx hc hn
        obtain rfl := hx.1
        refine (hparse_short a0 a1 a2 a3 a4 a5 A _ c xs w hx hc hn (fun j h1 h2 => hall j h1 h2) hs).mono ?_
        rintro e w' ⟨G, rfl, hb⟩
        exact ⟨_, _, _, rfl, BT.nil _ _ _, hb⟩
      · intro w A n c hx hn
        obtain rfl := hx.1
        refine (rparse_short a0 a1 a2 a3 a4 a5 A _ c xs w hx hn (fun j h1 h2 => hall j h1 h2) hs).mono ?_
        rintro e w' ⟨G, rfl, rfl, hb⟩
        exact ⟨_, _, _, rfl, BT.nil _ _ _, .inl rfl, hb⟩
    · have hs19 : 19 ≤ xs.length := by omega
      have hall2 : ∀ j, j < 16 → nth xs j = 255 := fun j h1 => hall j h1 (by omega)
      have r16 := hr _ (nth_mem (show 16 < xs.length by omega))
      have r17 := hr _ (nth_mem (show 17 < xs.length by omega))
      have r18 := hr _ (nth_mem (show 18 < xs.length by omega))
      have two : ∀ x ∈ [nth xs 16, nth xs 17], 0 ≤ x ∧ x ≤ 255 := by intro x hx; simp at hx; rcases hx with rfl | rfl <;> assumption
      have one : ∀ x ∈ [nth xs 18], 0 ≤ x ∧ x ≤ 255 := by intro x hx; simp at hx; rw [hx]; exact r18
      by_cases hl : nth xs 16 * 256 + nth xs 17 < 19 ∨ (if a1 then 65535 else 4096) < nth xs 16 * 256 + nth xs 17
      · have e : hdP a1 xs = ⟨0, 0, 4, 1, 2, 16, [nth xs 16, nth xs 17]⟩ := by unfold hdP; rw [if_neg h1, if_neg hs, if_pos hl]
        rw [e]
        refine ⟨?_, ?_⟩
        · intro w A n c ht hx hc hn
          obtain rfl := hx.1
          refine (hparse_len a0 a1 a2 a3 a4 a5 A _ c xs w hx hc hn hall2 hs19 hl).mono ?_
          rintro e w' ⟨G, rfl, ho, hb⟩
          exact ⟨_, _, _, rfl, BT.of_owned (xs := [nth xs 16, nth xs 17]) ho two ho.lt, hb⟩
        · intro w A n c hx hn
          obtain rfl := hx.1
          refine (rparse_len a0 a1 a2 a3 a4 a5 A _ c xs w hx hn hall2 hs19 hl).mono ?_
          rintro e w' ⟨G, rfl, hgG, ho, hb⟩
          exact ⟨_, _, _, rfl, BT.of_owned (xs := [nth xs 16, nth xs 17]) ho two ho.lt, .inr (fun a ha => by cases ha; exact hgG), hb⟩
      · have hr2 : 19 ≤ nth xs 16 * 256 + nth xs 17 ∧ nth xs 16 * 256 + nth xs 17 ≤ (if a1 then 65535 else 4096) := by omega
        by_cases hk : nth xs 18 = 1 ∨ nth xs 18 = 2 ∨ nth xs 18 = 3 ∨ nth xs 18 = 4 ∨ nth xs 18 = 5
        · have hk0 : hLeast (nth xs 18) ≠ 0 := by rcases hk with h | h | h | h | h <;> rw [h] <;> decide
          cases hA : hAllow a1 (nth xs 18) (nth xs 16 * 256 + nth xs 17)
          · have e : hdP a1 xs = ⟨0, 0, 4, 1, 2, 16, [nth xs 16, nth xs 17]⟩ := by unfold hdP; rw [if_neg h1, if_neg hs, if_neg hl, if_pos hk, if_neg (by rw [hA]; decide)]
            rw [e]
            refine ⟨?_, ?_⟩
            · intro w A n c ht hx hc hn
              obtain rfl := hx.1
              refine (hparse_allow a0 a1 a2 a3 a4 a5 A _ c xs w ht hx hc hn hall2 hs19 hr2 hk hA).mono ?_
              rintro e w' ⟨G, rfl, ho, hb⟩
              exact ⟨_, _, _, rfl, BT.of_owned (xs := [nth xs 16, nth xs 17]) ho two ho.lt, hb⟩
            · intro w A n c hx hn
              obtain rfl := hx.1
              refine (rparse_allow a0 a1 a2 a3 a4 a5 A _ c xs w hx hn hall2 hs19 hr2 hk0 hA).mono ?_
              rintro e w' ⟨G, rfl, hgG, ho, hb⟩
              exact ⟨_, _, _, rfl, BT.of_owned (xs := [nth xs 16, nth xs 17]) ho two ho.lt, .inr (fun a ha => by cases ha; exact hgG), hb⟩
          · have e : hdP a1 xs = ⟨nth xs 16 * 256 + nth xs 17, nth xs 18, 0, 0, 0, 0, []⟩ := by unfold hdP; rw [if_neg h1, if_neg hs, if_neg hl, if_pos hk, if_pos hA]
            rw [e]
            refine ⟨?_, ?_⟩
            · intro w A n c ht hx hc hn
              obtain rfl := hx.1
              refine (hparse_ok a0 a1 a2 a3 a4 a5 A _ c xs w ht hx hc hn hall2 hs19 hr2 hA).mono ?_
              rintro e w' ⟨G, rfl, rfl, hb⟩
              exact ⟨_, _, _, rfl, BT.nil _ _ _, hb⟩
            · intro w A n c hx hn
              obtain rfl := hx.1
              refine (rparse_ok a0 a1 a2 a3 a4 a5 A _ c xs w hx hn hall2 hs19 hr2 hk0 hA).mono ?_
              rintro e w' ⟨G, rfl, rfl, hb⟩
              exact ⟨_, _, _, rfl, BT.nil _ _ _, .inl rfl, hb⟩
        · have hkk : hName (nth xs 18) = ⟨#[]⟩ ∧ hLeast (nth xs 18) = 0 := by
            rcases hKinds (nth xs 18) with h | h | h | h | h | ⟨h1, h2, _⟩
            · exact absurd (.inl h) hk
            · exact absurd (.inr (.inl h)) hk
            · exact absurd (.inr (.inr (.inl h))) hk
            · exact absurd (.inr (.inr (.inr (.inl h)))) hk
            · exact absurd (.inr (.inr (.inr (.inr h)))) hk
            · exact ⟨h1, h2⟩
          have e : hdP a1 xs = ⟨0, 0, 4, 1, 3, 18, [nth xs 18]⟩ := by unfold hdP; rw [if_neg h1, if_neg hs, if_neg hl, if_neg hk]
          rw [e]
          refine ⟨?_, ?_⟩
          · intro w A n c ht hx hc hn
            obtain rfl := hx.1
            refine (hparse_kind a0 a1 a2 a3 a4 a5 A _ c xs w ht hx hc hn hall2 hs19 hr2 hkk.1).mono ?_
            rintro e w' ⟨G, rfl, ho, hb⟩
            exact ⟨_, _, _, rfl, BT.of_owned (xs := [nth xs 18]) ho one ho.lt, hb⟩
          · intro w A n c hx hn
            obtain rfl := hx.1
            refine (rparse_kind a0 a1 a2 a3 a4 a5 A _ c xs w hx hn hall2 hs19 hr2 hkk.2).mono ?_
            rintro e w' ⟨G, rfl, hgG, ho, hb⟩
            exact ⟨_, _, _, rfl, BT.of_owned (xs := [nth xs 18]) ho one ho.lt, .inr (fun a ha => by cases ha; exact hgG), hb⟩

/-- The state of a framer. -/
structure FS where
  o : O6
  kept : List Int
  len : Int
  closed : Bool
  fr : Nat
abbrev VP := Int × Int × Int × Int × List Int
abbrev EvP := List Int × VP
def HR.vp (r : HR) : VP := (r.k1, r.k2, r.k3, r.k5, r.d)
def FS.looks (s : FS) (x : Int) : Prop := (s.kept.length + 1 ≤ 16 ∧ x ≠ 255) ∨ s.kept.length + 1 = 19
instance (s : FS) (x : Int) : Decidable (s.looks x) := by unfold FS.looks; infer_instance
def FS.tail (s : FS) : FS × List EvP :=
  if 19 ≤ s.kept.length ∧ (s.kept.length : Int) = s.len then ({ s with kept := [], fr := s.fr + 1 }, [(s.kept, (0, 0, 0, 0, []))]) else (s, [])
def FS.hr (s : FS) (x : Int) : HR := hdP s.o.a1 (s.kept ++ [x])
def FS.step (s : FS) (x : Int) : FS × List EvP :=
  if s.looks x then
    (if (s.hr x).k1 ≠ 0 then ({ s with kept := [], closed := true }, [([], (s.hr x).vp)])
    else FS.tail { s with kept := s.kept ++ [x], len := (s.hr x).N })
  else FS.tail { s with kept := s.kept ++ [x] }
def FS.one (p : FS × List EvP) (x : Int) : FS × List EvP := if p.1.closed = true then p else ((p.1.step x).1, p.2 ++ (p.1.step x).2)
def FS.feed (s : FS) (xs : List Int) : FS × List EvP := xs.foldl FS.one (s, [])
def fs0 (o : O6) : FS := ⟨o, [], 0, false, 0⟩
structure FS.Ok (s : FS) : Prop where
  rng : ∀ x ∈ s.kept, 0 ≤ x ∧ x ≤ 255
  open_ : 19 ≤ s.kept.length → (s.kept.length : Int) < s.len
  le : s.len ≤ 65535
  cl : s.closed = true → s.kept = []
theorem FS.Ok.len {s : FS} (h : s.Ok) : s.kept.length < 65535 := by
  have h1 := h.open_
  have h2 := h.le
  omega
theorem fs0_ok (o : O6) : (fs0 o).Ok := ⟨(fun _ h => by cases h), (fun h => by simp [fs0] at h), by simp [fs0], fun _ => rfl⟩
theorem rng_snoc {xs : List Int} {x : Int} (h : ∀ y ∈ xs, 0 ≤ y ∧ y ≤ 255) (hx : 0 ≤ x ∧ x ≤ 255) : ∀ y ∈ xs ++ [x], 0 ≤ y ∧ y ≤ 255 := fun y hy => by
  rcases List.mem_append.1 hy with hy | hy
  · exact h y hy
  · rw [List.mem_singleton] at hy
    rw [hy]; exact hx
theorem FS.tail_yes {s : FS} (h1 : 19 ≤ s.kept.length) (h2 : (s.kept.length : Int) = s.len) : s.tail = ({ s with kept := [], fr := s.fr + 1 }, [(s.kept, (0, 0, 0, 0, []))]) := by unfold FS.tail; rw [if_pos ⟨h1, h2⟩]
theorem FS.tail_no {s : FS} (h : s.kept.length < 19 ∨ (s.kept.length : Int) ≠ s.len) : s.tail = (s, []) := by
  unfold FS.tail
  rw [if_neg]
  rintro ⟨h1, h2⟩
  rcases h with h | h
  · omega
  · exact h h2
theorem FS.step_bad {s : FS} {x : Int} (h : s.looks x) (hk : (s.hr x).k1 ≠ 0) : s.step x = ({ s with kept := [], closed := true }, [([], (s.hr x).vp)]) := by
  unfold FS.step; rw [if_pos h, if_pos hk]
theorem FS.step_good {s : FS} {x : Int} (h : s.looks x) (hk : (s.hr x).k1 = 0) : s.step x = FS.tail { s with kept := s.kept ++ [x], len := (s.hr x).N } := by
  unfold FS.step; rw [if_pos h, if_neg (by rw [hk]; decide)]
theorem FS.step_plain {s : FS} {x : Int} (h : ¬ s.looks x) : s.step x = FS.tail { s with kept := s.kept ++ [x] } := by
  unfold FS.step; rw [if_neg h]
theorem FS.tail_ok {s : FS} (hr : ∀ x ∈ s.kept, 0 ≤ x ∧ x ≤ 255) (ho : 19 ≤ s.kept.length → (s.kept.length : Int) ≤ s.len) (hl : s.len ≤ 65535) (hc : s.closed = false) : s.tail.1.Ok := by
  by_cases h : 19 ≤ s.kept.length ∧ (s.kept.length : Int) = s.len
  · rw [FS.tail_yes h.1 h.2]
    exact ⟨(fun _ h => by cases h), (fun h => by simp at h), hl, fun _ => rfl⟩
  · rw [FS.tail_no (by omega)]
    exact ⟨hr, (fun h1 => by
      have h2 : 19 ≤ s.kept.length := h1
      have := ho h2
      show (s.kept.length : Int) < s.len
      omega), hl, (fun h => by
      have h' : s.closed = true := h
      rw [hc] at h'
      cases h')⟩
theorem FS.step_ok {s : FS} {x : Int} (h : s.Ok) (hc : s.closed = false) (hx : 0 ≤ x ∧ x ≤ 255) : (s.step x).1.Ok := by
  have hl : (s.kept ++ [x]).length = s.kept.length + 1 := by simp
  by_cases hlk : s.looks x
  · by_cases hk : (s.hr x).k1 = 0
    · rw [FS.step_good hlk hk]
      have hN := hdP_acc s.o.a1 (s.kept ++ [x]) hk
      refine FS.tail_ok (rng_snoc h.rng hx) (fun h1 => ?_) ?_ hc
      · show ((s.kept ++ [x]).length : Int) ≤ (s.hr x).N
        have h1 : 19 ≤ (s.kept ++ [x]).length := h1
        have : s.kept.length + 1 = 19 := by
          rcases hlk with ⟨h2, _⟩ | h2
          · omega
          · exact h2
        have h3 : (s.hr x).N = (hdP s.o.a1 (s.kept ++ [x])).N := rfl
        omega
      · show (s.hr x).N ≤ 65535
        have h3 : (s.hr x).N = (hdP s.o.a1 (s.kept ++ [x])).N := rfl
        rw [h3]
        have := hN.2
        split at this <;> omega
    · rw [FS.step_bad hlk hk]
      exact ⟨(fun _ h => by cases h), (fun h => by simp at h), h.le, fun _ => rfl⟩
  · rw [FS.step_plain hlk]
    refine FS.tail_ok (rng_snoc h.rng hx) (fun h1 => ?_) h.le hc
    show ((s.kept ++ [x]).length : Int) ≤ s.len
    have h1 : 19 ≤ (s.kept ++ [x]).length := h1
    have h2 : s.kept.length + 1 ≠ 19 := fun e => hlk (.inr e)
    have := h.open_ (by omega)
    omega
theorem FS.tail_evs (s : FS) : s.tail.2.length ≤ 1 ∧ s.tail.1.fr ≤ s.fr + 1 := by
  unfold FS.tail
  split
  · exact ⟨Nat.le_refl _, Nat.le_refl _⟩
  · exact ⟨Nat.zero_le _, Nat.le_succ _⟩
theorem FS.step_evs (s : FS) (x : Int) : (s.step x).2.length ≤ 1 ∧ (s.step x).1.fr ≤ s.fr + 1 := by
  unfold FS.step
  split
  · split
    · exact ⟨Nat.le_refl _, Nat.le_succ _⟩
    · exact FS.tail_evs _
  · exact FS.tail_evs _
theorem FS.feed_nil (s : FS) : s.feed [] = (s, []) := rfl
theorem FS.feed_snoc (s : FS) (xs : List Int) (x : Int) : s.feed (xs ++ [x]) = FS.one (s.feed xs) x := by unfold FS.feed; rw [List.foldl_append]; rfl
theorem FS.feed_take {s : FS} {xs : List Int} {k : Nat} (h : k < xs.length) (hc : (s.feed (xs.take k)).1.closed = false) :
    s.feed (xs.take (k + 1)) = (((s.feed (xs.take k)).1.step (nth xs k)).1, (s.feed (xs.take k)).2 ++ ((s.feed (xs.take k)).1.step (nth xs k)).2) := by
  rw [take_nth h, FS.feed_snoc]
  unfold FS.one
  rw [if_neg (by rw [hc]; decide)]
theorem FS.fold_closed : ∀ (xs : List Int) (p : FS × List EvP), p.1.closed = true → xs.foldl FS.one p = p
  | [], _, _ => rfl
  | x :: t, p, h => by
    rw [List.foldl_cons]
    have e : FS.one p x = p := by unfold FS.one; rw [if_pos h]
    rw [e]
    exact FS.fold_closed t p h
theorem FS.feed_stop {s : FS} {xs : List Int} {k : Nat} (hc : (s.feed (xs.take k)).1.closed = true) : s.feed (xs.take k) = s.feed xs := by
  have e : s.feed xs = (xs.drop k).foldl FS.one (s.feed (xs.take k)) := by
    unfold FS.feed
    rw [← List.foldl_append, List.take_append_drop]
  rw [e, FS.fold_closed _ _ hc]
theorem FS.feed_ok {s : FS} (h : s.Ok) : ∀ (xs : List Int), (∀ x ∈ xs, 0 ≤ x ∧ x ≤ 255) → (s.feed xs).1.Ok ∧ (s.feed xs).2.length ≤ xs.length ∧ (s.feed xs).1.fr ≤ s.fr + xs.length := by
  intro xs
  suffices H : ∀ n, n ≤ xs.length → (∀ x ∈ xs, 0 ≤ x ∧ x ≤ 255) → (s.feed (xs.take n)).1.Ok ∧ (s.feed (xs.take n)).2.length ≤ n ∧ (s.feed (xs.take n)).1.fr ≤ s.fr + n by
    intro hr
    have := H xs.length (Nat.le_refl _) hr
    rwa [List.take_length] at this
  intro n
  induction n with
  | zero => intro _ _; exact ⟨h, Nat.le_refl _, Nat.le_refl _⟩
  | succ n ih =>
    intro hn hr
    obtain ⟨i1, i2, i3⟩ := ih (by omega) hr
    cases hc : (s.feed (xs.take n)).1.closed with
    | true =>
      have e : s.feed (xs.take (n + 1)) = s.feed (xs.take n) := by
        rw [take_nth (by omega), FS.feed_snoc]
        unfold FS.one
        rw [if_pos hc]
      rw [e]
      exact ⟨i1, by omega, by omega⟩
    | false =>
      rw [FS.feed_take (by omega) hc]
      have e := FS.step_evs (s.feed (xs.take n)).1 (nth xs n)
      refine ⟨FS.step_ok i1 hc (hr _ (nth_mem (by omega))), ?_, ?_⟩
      · show ((s.feed (xs.take n)).2 ++ ((s.feed (xs.take n)).1.step (nth xs n)).2).length ≤ n + 1
        rw [List.length_append]
        omega
      · show ((s.feed (xs.take n)).1.step (nth xs n)).1.fr ≤ s.fr + (n + 1)
        omega
end Go.Proofs.YtgahjchngmojlabDoor

/- frame: a framer in memory; New, put, drain, size, Held, Closed, Frames, Set -/
namespace Go.Proofs.YtgahjchngmojlabDoor
open Go.RowKit

/-- A framer's cells: kept, want, options, done, the lock, its semaphore, closed, frames. -/
def frc (K : Option Addr) (n c : Nat) (want : Int) (o : O6) (d mu : Int) (cl : Bool) (fr : Int) : Array Value :=
  #[.slice K n c, .int .i64 want, .bool o.a0, .bool o.a1, .bool o.a2, .bool o.a3, .bool o.a4, .bool o.a5, .int .u32 d, .int .i32 mu, .int .u32 0, .bool cl, .int .i64 fr]
abbrev Off (g B : Nat) : Nat → Prop := fun i => i = g ∨ B ≤ i
def dn (cl : Bool) : Int := if cl then 1 else 0
/-- What may change: the framer, and rows of bytes that lie from B on. -/
abbrev Pu (w : World) (g B : Nat) : Nat → Prop := fun i => i = g ∨ (B ≤ i ∧ Typed w i 5)
theorem Rest.pu {a b c : World} {g B B2 : Nat} (h : Rest a b (Pu a g B)) (k : Rest b c (Pu b g B2)) (hB : B ≤ B2) : Rest a c (Pu a g B) :=
  h.trans k (fun i hi q => by
    rcases q with e | ⟨h1, h2⟩
    · exact .inl e
    · by_cases hp : Pu a g B i
      · exact hp
      · obtain ⟨cs, hc⟩ := h2
        exact .inr ⟨by omega, cs, (h.block i hi hp).symm.trans hc⟩)
/-- What a Feed may change: the framer, and the block of what it keeps. -/
abbrev Pk (g : Nat) (kb : Option Nat) : Nat → Prop := fun i => i = g ∨ kb = some i
theorem Rest.pk {a b c : World} {g : Nat} {kb kb2 : Option Nat} (h : Rest a b (Pk g kb)) (k : Rest b c (Pk g kb2)) (hk : kb2 = kb ∨ ∀ j, kb2 = some j → a.heap.size ≤ j) : Rest a c (Pk g kb) :=
  h.trans k (fun i hi q => by
    rcases q with e | e
    · exact .inl e
    · rcases hk with h1 | h1
      · exact .inr (h1 ▸ e)
      · have := h1 i e
        omega)
theorem kb_trans {a b : Nat} {kb kb1 kb2 : Option Nat} (h : kb1 = kb ∨ ∀ j, kb1 = some j → a ≤ j) (k : kb2 = kb1 ∨ ∀ j, kb2 = some j → b ≤ j) (hab : a ≤ b) : kb2 = kb ∨ ∀ j, kb2 = some j → a ≤ j := by
  rcases k with k | k
  · rw [k]; exact h
  · exact .inr (fun j hj => Nat.le_trans hab (k j hj))
/-- The framer at g is in state s; it keeps its bytes in a row of its own in block kb, that lies from B on. -/
def FrIs (w : World) (B g : Nat) (s : FS) (kb : Option Nat) : Prop :=
  ∃ (K : Option Addr) (c : Nat) (want : Int), (Value.slice K s.kept.length c).ownBlock = kb ∧ Own w g 76 (frc K s.kept.length c want s.o (dn s.closed) 0 s.closed s.fr) ∧ w.ownsRow B 5 1 (.slice K s.kept.length c) s.kept.length (s.kept.map (Value.int .u8)) ∧ (19 ≤ s.kept.length → want = s.len) ∧ g < B ∧ B ≤ w.heap.size ∧ HRows w ∧ 0 < g ∧ s.Ok
theorem frc_no8 (K : Option Addr) (n c : Nat) (want : Int) (o : O6) (d mu : Int) (cl : Bool) (fr : Int) : ∀ (i : Nat) (x : Int), (frc K n c want o d mu cl fr)[i]? ≠ some (Value.int .u8 x) := by
  intro i x h
  unfold frc at h
  rcases i with _ | _ | _ | _ | _ | _ | _ | _ | _ | _ | _ | _ | _ | i <;> simp at h
theorem Bytes.off {w w' : World} {B g n : Nat} {A : Option Addr} {xs : List Int} {T : TypeId} {cs : Array Value} (h : Bytes w B A n xs) (o : Own w g T cs) (hn : ∀ (i : Nat) (x : Int), cs[i]? ≠ some (Value.int .u8 x)) (k : Rest w w' (Off g B)) (hB : B ≤ w.heap.size) : Bytes w' B A n xs := by
  refine ⟨h.1, h.2.1, ?_⟩
  rcases h.2.2 with h0 | ⟨b, o', hA, hb, hc⟩
  · exact .inl h0
  · rcases xs with _ | ⟨x, t⟩
    · exact .inl rfl
    · have h1 := hc 0 (.int .u8 x) rfl
      have hbg : b ≠ g := by
        rintro rfl
        rw [cell_of_row w b (o' + 0) cs T (0, 0) o] at h1
        exact hn _ _ h1
      exact .inr ⟨b, o', hA, hb, fun i v hv => (World.cell?_of_block (a := ⟨b, o' + i, none⟩) (k.block b (by omega) (by rintro (e | e); exact hbg e; omega))).trans (hc i v hv)⟩
theorem HRows.rest {w w' : World} {P : Nat → Prop} (h : HRows w) (k : Rest w w' P) (hp : ¬ P 0) : HRows w' := by
  refine ⟨fun i v hv => ?_, Nat.lt_of_lt_of_le h.2 k.size⟩
  exact (World.cell?_of_block (a := ⟨0, i, none⟩) (k.block _ h.2 hp)).trans (h.1 i v hv)
theorem FrIs.rest {w w' : World} {B g : Nat} {s : FS} {kb : Option Nat} {P : Nat → Prop} (h : FrIs w B g s kb) (k : Rest w w' P) (hg : ¬ P g) (hv : ∀ j, kb = some j → B ≤ j → Typed w j 5 → ¬ P j) (hgl : ¬ P 0) : FrIs w' B g s kb := by
  obtain ⟨K, c, want, rfl, h1, h2, h3, h4, h5, h6, h7, h8⟩ := h
  exact ⟨K, c, want, rfl, k.own h1 hg, row_rest h2 k (fun j hj => hv j hj (row_typed h2 hj).2 (row_typed h2 hj).1), h3, h4, Nat.le_trans h5 k.size, h6.rest k hgl, h7, h8⟩
theorem FrIs.below {w w' : World} {B g : Nat} {s : FS} {kb : Option Nat} (h : FrIs w B g s kb) (k : Below w.heap.size w w') : FrIs w' B g s kb :=
  h.rest (Rest.of_below k (fun _ => False)) (fun f => f) (fun _ _ _ _ f => f) (fun f => f)
theorem FrIs.kb {w : World} {B g : Nat} {s : FS} {kb : Option Nat} (h : FrIs w B g s kb) : ∀ j, kb = some j → B ≤ j ∧ Typed w j 5 ∧ j < w.heap.size := by
  obtain ⟨K, c, want, rfl, h1, h2, h3, h4, h5, h6, h7, h8⟩ := h
  exact fun j hj => ⟨(row_typed h2 hj).2, (row_typed h2 hj).1, (row_typed h2 hj).1.lt⟩
theorem FrIs.pu {w : World} {B g : Nat} {s : FS} {kb : Option Nat} (h : FrIs w B g s kb) : ∀ i, Pk g kb i → Pu w g B i := fun i hi => hi.imp (fun e => e) (fun e => ⟨(h.kb i e).1, (h.kb i e).2.1⟩)
theorem FrIs.bytes {w w' : World} {B g n : Nat} {s : FS} {kb : Option Nat} {A : Option Addr} {xs : List Int} (h : FrIs w B g s kb) (k : Rest w w' (Pk g kb)) (hx : Bytes w B A n xs) : Bytes w' B A n xs := by
  have hp := h.pu
  obtain ⟨K, c, want, _, h1, h2, h3, h4, h5, h6, h7, h8⟩ := h
  exact hx.off h1 (frc_no8 _ _ _ _ _ _ _ _ _) (k.mono (fun i hi => (hp i hi).imp (fun e => e) (fun e => e.1))) h5
theorem FrIs.hrows {w : World} {B g : Nat} {s : FS} {kb : Option Nat} (h : FrIs w B g s kb) : HRows w := by
  obtain ⟨K, c, want, _, h1, h2, h3, h4, h5, h6, h7, h8⟩ := h
  exact h6
theorem FrIs.size {w : World} {B g : Nat} {s : FS} {kb : Option Nat} (h : FrIs w B g s kb) : g < B ∧ B ≤ w.heap.size := by
  obtain ⟨K, c, want, _, h1, h2, h3, h4, h5, h6, h7, h8⟩ := h
  exact ⟨h4, h5⟩
theorem FrIs.ok {w : World} {B g : Nat} {s : FS} {kb : Option Nat} (h : FrIs w B g s kb) : s.Ok := by
  obtain ⟨K, c, want, _, h1, h2, h3, h4, h5, h6, h7, h8⟩ := h
  exact h8
theorem FrIs.form {w : World} {B g : Nat} {s : FS} {kb : Option Nat} (h : FrIs w B g s kb) : ∃ K c want, Own w g 76 (frc K s.kept.length c want s.o (dn s.closed) 0 s.closed s.fr) := by
  obtain ⟨K, c, want, _, h1, h2, h3, h4, h5, h6, h7, h8⟩ := h
  exact ⟨K, c, want, h1⟩
theorem FrIs.typed {w : World} {B g : Nat} {s : FS} {kb : Option Nat} (h : FrIs w B g s kb) : Typed w g 76 := by
  obtain ⟨K, c, want, _, h1, h2, h3, h4, h5, h6, h7, h8⟩ := h
  exact h1.typed
abbrev Pg (g : Nat) (v : Value) : Nat → Prop := fun i => i = g ∨ v.ownBlock = some i
theorem pg_pu {w : World} {g B n c : Nat} {K : Option Addr} {xs : List Value} (h : w.ownsRow B 5 1 (.slice K n c) n xs) : ∀ i, Pg g (.slice K n c) i → Pu w g B i := by
  rintro i (e | e)
  · exact .inl e
  · exact .inr ⟨(row_typed h e).2, (row_typed h e).1⟩
/-- What a row of bytes of one's own shows. -/
theorem row_bytes {w : World} {B n c : Nat} {K : Option Addr} {xs : List Int} (h : w.ownsRow B 5 1 (.slice K n c) n (xs.map (Value.int .u8))) (hr : ∀ x ∈ xs, 0 ≤ x ∧ x ≤ 255) :
    Bytes w w.heap.size K n xs ∧ n ≤ c ∧ (∀ a, K = some a → B ≤ a.block ∧ a.block < w.heap.size ∧ Typed w a.block 5) := by
  have hlen : xs.length = n := by simpa using h.1
  refine ⟨⟨hlen.symm, hr, Shows.of_own h⟩, ?_, fun a ha => ?_⟩
  · rcases h.2 with ⟨h1, h0⟩ | ⟨g, cap, cur, h1, hg, hc, h3, _⟩
    · omega
    · injection h1 with _ _ h1
      omega
  · subst ha
    have h1 := row_typed h (j := a.block) rfl
    exact ⟨h1.2, h1.1.lt, h1.1⟩
theorem fr_types : (76 : TypeId) ≠ 5 ∧ (76 : TypeId) ≠ 57 ∧ (57 : TypeId) ≠ 5 ∧ (76 : TypeId) ≠ 4 ∧ (76 : TypeId) ≠ 29 ∧ (29 : TypeId) ≠ 4 := by decide
set_option maxRecDepth 100000 in
set_option maxHeartbeats 1600000 in
theorem fput_any (g B n c : Nat) (K : Option Addr) (want : Int) (o : O6) (d mu : Int) (cl : Bool) (fr : Int) (kept : List Int) (x : Int) (w : World) (ow : Own w g 76 (frc K n c want o d mu cl fr)) (hr : w.ownsRow B 5 1 (.slice K n c) n (kept.map (Value.int .u8))) (_hgB : g < B) (hB : B ≤ w.heap.size) (hn : n ≤ 100000) :
    Calls Tryd.prog 42 #[.pointer (some ⟨g, 0, none⟩), .int .u8 x] w fun e w' => e = .returned (.tuple #[]) ∧ ∃ K' c', Own w' g 76 (frc K' (n + 1) c' want o d mu cl fr) ∧ w'.ownsRow B 5 1 (.slice K' (n + 1) c') (n + 1) ((kept ++ [x]).map (Value.int .u8)) ∧ Rest w w' (fun i => i = g ∨ (Value.slice K n c).ownBlock = some i) ∧ ((Value.slice K' (n + 1) c').ownBlock = (Value.slice K n c).ownBlock ∨ ∀ j, (Value.slice K' (n + 1) c').ownBlock = some j → w.heap.size ≤ j) := by
  obtain ⟨a0, a1, a2, a3, a4, a5⟩ := o
  have HOW := Lib.hid ow
  have HR := Lib.hid hr
  have c0 := ow.cell (i := 0) (v := .slice K n c) rfl
  have hlt := ow.lt
  clear ow hr
  go_enter Tryd.func42, Tryd.ntmps42
  go_wp2_with (at_builtin; refine wpList_append_at _ rfl _ _ rfl sl_bytes B _ n _ rfl (HR.out.alloc _) (w.heap.size + 1) (some ⟨w.heap.size, 0, none⟩) 1 1 [.int .u8 x] rfl rfl (Shows.of_owned (Own.new _ _ _) (by simp)) (one1 rfl) (by unfold maxLen; omega) (by omega) (by simp; omega) ?_; intro v6 w6 hrow6 hg6 hob6; obtain ⟨A3, c3, rfl⟩ := own_form hrow6; have oS6 := (HOW.out.alloc (.cells #[.int .u8 x] 5)).grown hg6 (fun e => (row_typed HR.out e.symm).1.ne HOW.out.typed (Ne.symm fr_types.1) rfl); have cq6 := oS6.cell (i := 0) rfl; have fq6 := oS6.frozen 0; have hq6 := oS6.lt)
  go_end0
  have R1 : Rest w w6 (fun i => (Value.slice K n c).ownBlock = some i) := (Rest.of_below (bl_alloc (bl_refl w) (.cells #[.int .u8 x] 5)) (fun i => (Value.slice K n c).ownBlock = some i)).trans (Rest.of_grown hg6 (P := fun i => (Value.slice K n c).ownBlock = some i) (fun j hj => hj)) (fun i _ h => h)
  have R2 : Rest w (w6.setCell ⟨g, 0, none⟩ (.slice A3 (n + 1) c3)) (fun i => i = g ∨ (Value.slice K n c).ownBlock = some i) := (R1.mono (fun i h => Or.inr h)).trans (Rest.setCell w6 ⟨g, 0, none⟩ (.slice A3 (n + 1) c3)) (fun i _ h => Or.inl h)
  have o7 := oS6.set_ 0 (.slice A3 (n + 1) c3)
  have r7 := row_rest hrow6 (Rest.setCell w6 ⟨g, 0, none⟩ (.slice A3 (n + 1) c3)) (fun j hj e => (row_typed hrow6 hj).1.ne oS6.typed (Ne.symm fr_types.1) e)
  exact ⟨rfl, A3, c3, by simpa [frc] using o7, by rw [List.map_append]; exact r7, R2, hob6.imp (fun e => e) (fun e j hj => by rw [e] at hj; have h1 := Option.some.inj hj; simp at h1; omega)⟩
set_option maxRecDepth 100000 in
set_option maxHeartbeats 800000 in
theorem fdrain_any (g n c : Nat) (K : Option Addr) (want : Int) (o : O6) (d mu : Int) (cl : Bool) (fr : Int) (w : World) (ow : Own w g 76 (frc K n c want o d mu cl fr)) :
    Calls Tryd.prog 32 #[.pointer (some ⟨g, 0, none⟩)] w fun e w' => e = .returned (.slice K n c) ∧ Own w' g 76 (frc none 0 0 0 o d mu cl fr) ∧ Rest w w' (fun i => i = g) ∧ w'.heap.size = w.heap.size := by
  obtain ⟨a0, a1, a2, a3, a4, a5⟩ := o
  have c0 := ow.cell (i := 0) (v := .slice K n c) rfl
  have c1 := ow.cell (i := 1) (v := .int .i64 want) rfl
  have f0 := ow.frozen 0
  have f1 := ow.frozen 1
  have o1 := (ow.set_ 0 (.slice none 0 0)).set_ 1 (.int .i64 0)
  have R1 : Rest w ((w.setCell ⟨g, 0, none⟩ (.slice none 0 0)).setCell ⟨g, 1, none⟩ (.int .i64 0)) (fun i => i = g) := (Rest.setCell w ⟨g, 0, none⟩ (.slice none 0 0)).trans (Rest.setCell _ ⟨g, 1, none⟩ (.int .i64 0)) (fun i _ h => h)
  go_enter Tryd.func32, Tryd.ntmps32
  go_wp2
  go_ret
  exact ⟨rfl, by simpa [frc] using o1, R1, by simp [World.setCell]⟩
set_option maxRecDepth 100000 in
theorem fsize_any (g n c : Nat) (K : Option Addr) (want : Int) (o : O6) (d mu : Int) (cl : Bool) (fr : Int) (w : World) (ow : Own w g 76 (frc K n c want o d mu cl fr)) :
    Calls Tryd.prog 33 #[.pointer (some ⟨g, 0, none⟩)] w fun e w' => e = .returned (.int .i64 n) ∧ w = w' := by
  have c0 := ow.cell (i := 0) (v := .slice K n c) rfl
  go_enter Tryd.func33, Tryd.ntmps33
  go_wp2
  go_ret
  exact ⟨rfl, rfl⟩
set_option maxRecDepth 100000 in
theorem fheld_any (g n c : Nat) (K : Option Addr) (want : Int) (o : O6) (d mu : Int) (cl : Bool) (fr : Int) (w : World) (ow : Own w g 76 (frc K n c want o d mu cl fr)) :
    Calls Tryd.prog 17 #[.pointer (some ⟨g, 0, none⟩)] w fun e w' => e = .returned (.int .i64 n) ∧ w = w' := by
  have hlt := ow.lt
  have c0 := ow.cell (i := 0) (v := .slice K n c) rfl
  go_enter Tryd.func17, Tryd.ntmps17
  go_wp2_with fail
  refine (fsize_any g n c K want o d mu cl fr w ow).mono ?_
  rintro e w' ⟨rfl, rfl⟩
  go_wp2
  go_ret
  exact ⟨rfl, rfl⟩
set_option maxRecDepth 100000 in
theorem fheld_nil (w : World) : Calls Tryd.prog 17 #[.pointer none] w fun e w' => e = .returned (.int .i64 0) ∧ w = w' := by
  go_enter Tryd.func17, Tryd.ntmps17
  go_wp2
  go_ret
  exact ⟨rfl, rfl⟩
set_option maxRecDepth 100000 in
theorem fclosed_any (g n c : Nat) (K : Option Addr) (want : Int) (o : O6) (d mu : Int) (cl : Bool) (fr : Int) (w : World) (ow : Own w g 76 (frc K n c want o d mu cl fr)) :
    Calls Tryd.prog 18 #[.pointer (some ⟨g, 0, none⟩)] w fun e w' => e = .returned (.bool cl) ∧ w = w' := by
  have hlt := ow.lt
  have c0 := ow.cell (i := 11) (v := .bool cl) rfl
  go_enter Tryd.func18, Tryd.ntmps18
  go_wp2
  go_ret
  exact ⟨rfl, rfl⟩
set_option maxRecDepth 100000 in
theorem fclosed_nil (w : World) : Calls Tryd.prog 18 #[.pointer none] w fun e w' => e = .returned (.bool true) ∧ w = w' := by
  go_enter Tryd.func18, Tryd.ntmps18
  go_wp2
  go_ret
  exact ⟨rfl, rfl⟩
set_option maxRecDepth 100000 in
theorem aload_any (a : Addr) (x : Int) (w : World) (h : w.cell? ⟨a.block, a.off, none⟩ = some (.int .i64 x)) :
    Calls Tryd.prog 34 #[.pointer (some ⟨a.block, a.off, none⟩)] w fun e w' => e = .returned (.int .i64 x) ∧ w = w' := by
  have hl := run_call_load (P := Tryd.prog) Tryd.func47 (by kernel_rfl) (by kernel_rfl) (by kernel_rfl) .i64 (by kernel_rfl) h
  go_enter Tryd.func34, Tryd.ntmps34
  go_wp2
  go_ret
  exact ⟨rfl, rfl⟩
set_option maxRecDepth 100000 in
theorem aadd_any (g k : Nat) (x : Int) (w : World) (h : w.cell? ⟨g, k, none⟩ = some (.int .i64 x)) (hz : w.frozen? ⟨g, k, none⟩ = false) (h0 : 0 ≤ x) (h1 : x ≤ 1000000000) :
    Calls Tryd.prog 44 #[.pointer (some ⟨g, k, none⟩), .int .i64 1] w fun e w' => e = .returned (.int .i64 (x + 1)) ∧ w' = w.setCell ⟨g, k, none⟩ (.int .i64 (x + 1)) := by
  have hl := run_call_add (P := Tryd.prog) Tryd.func57 (by kernel_rfl) (by kernel_rfl) (by kernel_rfl) .i64 (by kernel_rfl) (y := 1) (s := x + 1) h hz (by simp [go_sem, IntKind.wrap_i64]; omega)
  go_enter Tryd.func44, Tryd.ntmps44
  go_wp2
  go_ret
  exact ⟨rfl, rfl⟩
set_option maxRecDepth 100000 in
theorem fframes_any (g n c : Nat) (K : Option Addr) (want : Int) (o : O6) (d mu : Int) (cl : Bool) (fr : Int) (w : World) (ow : Own w g 76 (frc K n c want o d mu cl fr)) :
    Calls Tryd.prog 19 #[.pointer (some ⟨g, 0, none⟩)] w fun e w' => e = .returned (.int .i64 fr) ∧ w = w' := by
  have hlt := ow.lt
  have c0 := ow.cell (i := 12) (v := .int .i64 fr) rfl
  go_enter Tryd.func19, Tryd.ntmps19
  go_wp2_with fail
  refine (aload_any ⟨g, 12, none⟩ fr w c0).mono ?_
  rintro e w' ⟨rfl, rfl⟩
  go_wp2
  go_ret
  exact ⟨rfl, rfl⟩
set_option maxRecDepth 100000 in
theorem fframes_nil (w : World) : Calls Tryd.prog 19 #[.pointer none] w fun e w' => e = .returned (.int .i64 0) ∧ w = w' := by
  go_enter Tryd.func19, Tryd.ntmps19
  go_wp2
  go_ret
  exact ⟨rfl, rfl⟩
end Go.Proofs.YtgahjchngmojlabDoor

/- frame: New, Set -/
namespace Go.Proofs.YtgahjchngmojlabDoor
open Go.RowKit

set_option maxRecDepth 100000 in
set_option maxHeartbeats 800000 in
theorem fnew_any (o : O6) (w : World) (ht : HRows w) : Calls Tryd.prog 8 #[.agg o.cs] w fun e w' => e = .returned (.pointer (some ⟨w.heap.size + 1, 0, none⟩)) ∧ FrIs w' (w.heap.size + 2) (w.heap.size + 1) (fs0 o) none ∧ Below w.heap.size w w' := by
  obtain ⟨a0, a1, a2, a3, a4, a5⟩ := o
  simp only [O6.cs]
  have o1 := Own.new (w.alloc (.cells #[.bool a0, .bool a1, .bool a2, .bool a3, .bool a4, .bool a5] 23)) 76 #[.slice none 0 0, .int .i64 0, .bool a0, .bool a1, .bool a2, .bool a3, .bool a4, .bool a5, .int .u32 0, .int .i32 0, .int .u32 0, .bool false, .int .i64 0]
  have hs1 : (w.alloc (.cells #[.bool a0, .bool a1, .bool a2, .bool a3, .bool a4, .bool a5] 23)).heap.size = w.heap.size + 1 := by simp
  have hb := bl_alloc (bl_alloc (bl_refl w) (.cells #[.bool a0, .bool a1, .bool a2, .bool a3, .bool a4, .bool a5] 23)) (.cells #[.slice none 0 0, .int .i64 0, .bool a0, .bool a1, .bool a2, .bool a3, .bool a4, .bool a5, .int .u32 0, .int .i32 0, .int .u32 0, .bool false, .int .i64 0] 76)
  rw [hs1] at o1
  have hgl : 0 < w.heap.size := ht.2
  go_enter Tryd.func8, Tryd.ntmps8
  go_wp2
  go_ret
  exact ⟨rfl, ⟨none, 0, 0, rfl, o1, World.ownsRow_nil _ _ _ _, fun h => by simp [fs0] at h, by omega, by simp, ht.below hb, by omega, fs0_ok _⟩, hb⟩
def setManyF (cs : Array Value) : Nat → List Value → Array Value
  | _, [] => cs
  | o, v :: r => setManyF (cs.setIfInBounds o v) (o + 1) r
theorem Own.setCellsF {g : Nat} {t : TypeId} : ∀ (vs : List Value) (o : Nat) (w : World) (cs : Array Value), Own w g t cs → Own (w.setCells g o vs) g t (setManyF cs o vs)
  | [], _, _, _, h => h
  | v :: r, o, w, cs, h => Own.setCellsF r (o + 1) (w.setCell ⟨g, o, none⟩ v) (cs.setIfInBounds o v) (h.set_ o v)
theorem Own.thereF {w : World} {g o n : Nat} {t : TypeId} {cs : Array Value} (h : Own w g t cs) (hn : o + n ≤ cs.size) : w.there g o n := fun j hj => by
  have h1 := h.cell (i := o + j) (v := cs[o + j]'(by omega)) (Array.getElem?_eq_getElem (by omega))
  exact ⟨by rw [h1]; rfl, h.frozen _⟩
theorem Rest.setCellsF {g : Nat} : ∀ (vs : List Value) (o : Nat) (w : World), Rest w (w.setCells g o vs) (fun i => i = g)
  | [], _, w => Rest.refl w _
  | v :: r, o, w => (Rest.setCell w ⟨g, o, none⟩ v).trans (Rest.setCellsF r (o + 1) (w.setCell ⟨g, o, none⟩ v)) (fun _ _ h => h)
set_option maxRecDepth 100000 in
theorem o6_info (a b c d e f : Value) : (Tryd.prog.info? 23).map (·.size) = some (#[a, b, c, d, e, f] : Array Value).size := by kernel_rfl
theorem o6_one (a b c d e f : Bool) : (#[Value.bool a, .bool b, .bool c, .bool d, .bool e, .bool f]).all (·.oneCell') = true := by simp [Value.oneCell']
set_option maxRecDepth 100000 in
set_option maxHeartbeats 1600000 in
theorem fset_any (g n c : Nat) (K : Option Addr) (want : Int) (o p : O6) (d mu : Int) (cl : Bool) (fr : Int) (w : World) (ow : Own w g 76 (frc K n c want o d mu cl fr)) :
    Calls Tryd.prog 15 #[.pointer (some ⟨g, 0, none⟩), .agg p.cs] w fun e w' => e = .returned (.tuple #[]) ∧ Own w' g 76 (frc K n c want p d mu cl fr) ∧ Rest w w' (fun i => i = g) := by
  obtain ⟨a0, a1, a2, a3, a4, a5⟩ := o
  obtain ⟨b0, b1, b2, b3, b4, b5⟩ := p
  simp only [O6.cs]
  have o1 := ow.alloc (.cells #[.bool b0, .bool b1, .bool b2, .bool b3, .bool b4, .bool b5] 23)
  have hlt := ow.lt
  have ht := o1.thereF (o := 2) (n := 6) (by simp [frc])
  have o2 := Own.setCellsF [.bool b0, .bool b1, .bool b2, .bool b3, .bool b4, .bool b5] 2 _ _ o1
  have o3 : Own _ g 76 (frc K n c want ⟨b0, b1, b2, b3, b4, b5⟩ d mu cl fr) := o2
  have R0 : Rest w (w.alloc (.cells #[.bool b0, .bool b1, .bool b2, .bool b3, .bool b4, .bool b5] 23)) (fun i => i = g) := Rest.of_below (bl_alloc (bl_refl w) _) _
  have R1 := R0.trans (Rest.setCellsF (g := g) [.bool b0, .bool b1, .bool b2, .bool b3, .bool b4, .bool b5] 2 _) (fun _ _ h => h)
  have HO := Lib.hid o3
  have HR := Lib.hid R1
  have HT := Lib.hid ht
  clear ow R0 R1 o2 o3 o1 ht
  go_enter Tryd.func15, Tryd.ntmps15
  go_wp2_with (refine wpList_store_mid rfl 23 _ _ rfl g 2 #[.bool b0, .bool b1, .bool b2, .bool b3, .bool b4, .bool b5] rfl rfl HT.out (o6_info _ _ _ _ _ _) (o6_one _ _ _ _ _ _) ?_)
  go_end0
  exact ⟨rfl, HO.out, HR.out⟩
set_option maxRecDepth 100000 in
theorem fset_nil (p : O6) (w : World) :
    Calls Tryd.prog 15 #[.pointer none, .agg p.cs] w fun e w' => e = .returned (.tuple #[]) ∧ Below w.heap.size w w' := by
  obtain ⟨b0, b1, b2, b3, b4, b5⟩ := p
  simp only [O6.cs]
  go_enter Tryd.func15, Tryd.ntmps15
  go_wp2
  go_end0
  exact ⟨rfl, bl_alloc (bl_refl w) _⟩
end Go.Proofs.YtgahjchngmojlabDoor

/- frame: Close by sync.Once -/
namespace Go.Proofs.YtgahjchngmojlabDoor
open Go.RowKit

set_option maxRecDepth 100000 in
theorem fdisable (w : World) : (callFunc 69 #[]).run Tryd.prog w = .ok (.value (.tuple #[])) w := run_call_mark0 Tryd.func69 (by kernel_rfl) (by kernel_rfl) (by kernel_rfl) .disable (by kernel_rfl) w
set_option maxRecDepth 100000 in
theorem fenable (w : World) : (callFunc 71 #[]).run Tryd.prog w = .ok (.value (.tuple #[])) w := run_call_mark0 Tryd.func71 (by kernel_rfl) (by kernel_rfl) (by kernel_rfl) .enable (by kernel_rfl) w
set_option maxRecDepth 100000 in
theorem facquire (a : Addr) (w : World) : (callFunc 72 #[.pointer (some a)]).run Tryd.prog w = .ok (.value (.tuple #[])) w := run_call_marked Tryd.func72 (by kernel_rfl) (by kernel_rfl) (by kernel_rfl) .acquire (by kernel_rfl) a w
set_option maxRecDepth 100000 in
theorem frelease (a : Addr) (w : World) : (callFunc 74 #[.pointer (some a)]).run Tryd.prog w = .ok (.value (.tuple #[])) w := run_call_marked Tryd.func74 (by kernel_rfl) (by kernel_rfl) (by kernel_rfl) .releaseMerge (by kernel_rfl) a w
set_option maxRecDepth 100000 in
theorem fstore_deferred (a : Addr) (x : Value) (u : FrameMode) (w : World) (hc : w.cell? a = some x) (hz : w.frozen? a = false) :
    CallsD Tryd.prog 61 #[.pointer (some a), .bool true] u w fun e u' w' => u' = u ∧ (e = .returned (.tuple #[]) ∧ w' = w.drew.setCell a (.int .u32 1)) := by
  have hc' : w.drew.cell? a = some x := by go_simp
  have hz' : w.drew.frozen? a = false := by go_simp
  have hst := run_call_store (P := Tryd.prog) Tryd.func65 (by kernel_rfl) (by kernel_rfl) (by kernel_rfl) (by kernel_rfl) (k := .u32) (y := 1) hc' hz'
  go_enter_d Tryd.func61, Tryd.ntmps61
  go_wp2
  go_region_calls
  all_goals (go_end0; exact ⟨rfl, rfl⟩)
set_option maxRecDepth 100000 in
theorem funlock_deferred (a : Addr) (u : FrameMode) (w : World) (hc : w.cell? a = some (.int .i32 1)) (hz : w.frozen? a = false) :
    CallsD Tryd.prog 60 #[.pointer (some a)] u w fun e u' w' => u' = u ∧ (e = .returned (.tuple #[]) ∧ w' = w.setCell a (.int .i32 0)) := by
  have hd := fdisable
  have he := fenable
  have hr := frelease
  have hadd := run_call_add (P := Tryd.prog) Tryd.func75 (by kernel_rfl) (by kernel_rfl) (by kernel_rfl) .i32 (by kernel_rfl) (y := -1) (s := 0) hc hz (by simp [go_sem]; rfl)
  have hcv := run_convert_to_unsafe (P := Tryd.prog) (src := 129) (dst := 133) Tryd.underlying129 Tryd.underlying133 (by kernel_rfl) hc
  go_enter_d Tryd.func60, Tryd.ntmps60
  go_wp2
  go_end0
  exact ⟨rfl, rfl⟩
set_option maxRecDepth 100000 in
theorem flock_free (a : Addr) (w : World) (hc : w.cell? a = some (.int .i32 0)) (hz : w.frozen? a = false) :
    Calls Tryd.prog 59 #[.pointer (some a)] w fun e w' => e = .returned (.tuple #[]) ∧ w' = w.setCell a (.int .i32 1) := by
  have hd := fdisable
  have he := fenable
  have ha := facquire
  have hcas := run_call_cas_hit (P := Tryd.prog) Tryd.func70 (by kernel_rfl) (by kernel_rfl) (by kernel_rfl) .i32 (by kernel_rfl) (y := 1) hc hz
  have hc' : (w.setCell a (.int .i32 1)).cell? a = some (.int .i32 1) := World.cell?_setCell_same w a _ hc
  have hcv := run_convert_to_unsafe (P := Tryd.prog) (src := 129) (dst := 133) Tryd.underlying129 Tryd.underlying133 (by kernel_rfl) hc'
  go_enter Tryd.func59, Tryd.ntmps59
  go_wp2
  go_end0
  exact ⟨rfl, rfl⟩
set_option maxRecDepth 100000 in
set_option maxHeartbeats 800000 in
theorem fclose1_any (p q g n c : Nat) (K : Option Addr) (want : Int) (o : O6) (d mu : Int) (cl : Bool) (fr : Int) (w : World) (op : Own w p 4 #[.bool false]) (oq : Own w q 29 #[.pointer (some ⟨g, 0, none⟩)]) (ow : Own w g 76 (frc K n c want o d mu cl fr)) :
    Calls Tryd.prog 31 #[.pointer (some ⟨p, 0, none⟩), .pointer (some ⟨q, 0, none⟩)] w fun e w' => e = .returned (.tuple #[]) ∧ Own w' p 4 #[.bool true] ∧ Own w' g 76 (frc none 0 0 0 o d mu true fr) ∧ Rest w w' (fun i => i = g ∨ i = p) := by
  have hgp : g ≠ p := ow.typed.ne op.typed fr_types.2.2.2.1
  have hgq : g ≠ q := ow.typed.ne oq.typed fr_types.2.2.2.2.1
  have hqp : q ≠ p := oq.typed.ne op.typed fr_types.2.2.2.2.2
  have cp := op.cell (i := 0) (v := .bool false) rfl
  have fp := op.frozen 0
  have op1 := op.set_ 0 (.bool true)
  have oq1 := oq.far (p := ⟨p, 0, none⟩) hqp (.bool true)
  have ow1 := ow.far (p := ⟨p, 0, none⟩) hgp (.bool true)
  have cq1 := oq1.cell (i := 0) (v := .pointer (some ⟨g, 0, none⟩)) rfl
  have cg1 := ow1.cell (i := 11) (v := .bool cl) rfl
  have fg1 := ow1.frozen 11
  have op2 := op1.far (p := ⟨g, 11, none⟩) (Ne.symm hgp) (.bool true)
  have oq2 := oq1.far (p := ⟨g, 11, none⟩) (Ne.symm hgq) (.bool true)
  have ow2 : Own ((w.setCell ⟨p, 0, none⟩ (.bool true)).setCell ⟨g, 11, none⟩ (.bool true)) g 76 (frc K n c want o d mu true fr) := by
    have := ow1.set_ 11 (.bool true)
    simpa [frc] using this
  have cq2 := oq2.cell (i := 0) (v := .pointer (some ⟨g, 0, none⟩)) rfl
  have R1 : Rest w ((w.setCell ⟨p, 0, none⟩ (.bool true)).setCell ⟨g, 11, none⟩ (.bool true)) (fun i => i = g ∨ i = p) := ((Rest.setCell w ⟨p, 0, none⟩ (.bool true)).mono (fun i h => Or.inr h)).trans (Rest.setCell _ ⟨g, 11, none⟩ (.bool true)) (fun i _ h => Or.inl h)
  have HOW := Lib.hid ow2
  have HOP := Lib.hid op2
  clear ow ow1 ow2 op op1 oq oq1 oq2
  go_enter Tryd.func31, Tryd.ntmps31
  go_wp2_with fail
  refine (fdrain_any g n c K want o d mu true fr _ HOW.out).mono ?_
  rintro e w3 ⟨rfl, ow3, R3, hs3⟩
  go_wp2
  go_end0
  have op3 := R3.own HOP.out (Ne.symm hgp)
  exact ⟨rfl, by simpa using op3, ow3, R1.trans R3 (fun i _ h => Or.inl h)⟩
set_option maxRecDepth 100000 in
set_option maxHeartbeats 3200000 in
theorem fslow_any (p q g n c : Nat) (K : Option Addr) (want : Int) (o : O6) (cl : Bool) (fr : Int) (w : World) (op : Own w p 4 #[.bool false]) (oq : Own w q 29 #[.pointer (some ⟨g, 0, none⟩)]) (ow : Own w g 76 (frc K n c want o 0 0 cl fr)) :
    Calls Tryd.prog 46 #[.pointer (some ⟨g, 8, none⟩), .func (.func 31) #[] #[.pointer (some ⟨p, 0, none⟩), .pointer (some ⟨q, 0, none⟩)]] w fun e w' => e = .returned (.tuple #[]) ∧ Own w' p 4 #[.bool true] ∧ Own w' g 76 (frc none 0 0 0 o 1 0 true fr) ∧ Rest w w' (fun i => i = g ∨ i = p) := by
  have hgp : g ≠ p := ow.typed.ne op.typed fr_types.2.2.2.1
  have hgq : g ≠ q := ow.typed.ne oq.typed fr_types.2.2.2.2.1
  have c9 := ow.cell (i := 9) (v := .int .i32 0) rfl
  have f9 := ow.frozen 9
  have ow1 : Own (w.setCell ⟨g, 9, none⟩ (.int .i32 1)) g 76 (frc K n c want o 0 1 cl fr) := by
    have := ow.set_ 9 (.int .i32 1)
    simpa [frc] using this
  have op1 := op.far (p := ⟨g, 9, none⟩) (Ne.symm hgp) (.int .i32 1)
  have oq1 := oq.far (p := ⟨g, 9, none⟩) (Ne.symm hgq) (.int .i32 1)
  have hl := run_call_load (P := Tryd.prog) Tryd.func58 (by kernel_rfl) (by kernel_rfl) (by kernel_rfl) .u32 (by kernel_rfl) (w := w.setCell ⟨g, 9, none⟩ (.int .i32 1)) (a := ⟨g, 8, none⟩) (x := 0) (ow1.cell (i := 8) rfl)
  have R1 : Rest w (w.setCell ⟨g, 9, none⟩ (.int .i32 1)) (fun i => i = g ∨ i = p) := (Rest.setCell w ⟨g, 9, none⟩ (.int .i32 1)).mono (fun i h => Or.inl h)
  have HC := Lib.hid (fclose1_any p q g n c K want o 0 1 cl fr _ op1 oq1 ow1)
  have hnot : ∀ (x : Bool) (w : World), (Op.unary .not (.bool x)).run Tryd.prog w = .ok (.bool (!x)) w := fun _ _ => rfl
  clear op oq ow op1 oq1 ow1
  go_enter_defers Tryd.func46, Tryd.ntmps46
  go_wp2_with (first | (go_at_call 59; refine (flock_free ⟨g, 9, none⟩ _ c9 f9).mono ?_; rintro e w' ⟨rfl, rfl⟩) | (go_at_call 45; go_in) | (go_at_call 31; refine HC.out.mono ?_; rintro e w3 ⟨rfl, op3, ow3, R3⟩))
  have c8 := ow3.cell (i := 8) (v := .int .u32 0) rfl
  have f8 := ow3.frozen 8
  have ow4 : Own (w3.drew.setCell ⟨g, 8, none⟩ (.int .u32 1)) g 76 (frc none 0 0 0 o 1 1 true fr) := by
    have := ow3.drew.set_ 8 (.int .u32 1)
    simpa [frc] using this
  have ow5 : Own ((w3.drew.setCell ⟨g, 8, none⟩ (.int .u32 1)).setCell ⟨g, 9, none⟩ (.int .i32 0)) g 76 (frc none 0 0 0 o 1 0 true fr) := by
    have := ow4.set_ 9 (.int .i32 0)
    simpa [frc] using this
  have op5 := (op3.drew.far (p := ⟨g, 8, none⟩) (Ne.symm hgp) (.int .u32 1)).far (p := ⟨g, 9, none⟩) (Ne.symm hgp) (.int .i32 0)
  have R3d : Rest _ w3.drew (fun i => i = g ∨ i = p) := (R1.trans R3 (fun i _ h => h)).trans ⟨rfl, rfl, rfl, Nat.le_refl _, fun _ _ _ => rfl⟩ (Q := fun _ => False) (fun _ _ h => h.elim)
  have R5 := (R3d.trans (Rest.setCell _ ⟨g, 8, none⟩ (.int .u32 1)) (fun i _ h => Or.inl h)).trans (Rest.setCell _ ⟨g, 9, none⟩ (.int .i32 0)) (fun i _ h => Or.inl h)
  have HF := Lib.hid (And.intro op5 (And.intro ow5 R5))
  have c9' := ow4.cell (i := 9) (v := .int .i32 1) rfl
  have f9' := ow4.frozen 9
  clear ow3 op3 R3 ow4 ow5 op5 R3d R5
  go_wp2
  refine leaves_cons (f := 61) (args := #[.pointer (some ⟨g, 8, none⟩), .bool true]) (by simp) (by simp [go_sem]) ?_
  refine (fstore_deferred ⟨g, 8, none⟩ (.int .u32 0) .returning _ c8 f8).mono ?_
  rintro e u' w'' ⟨rfl, rfl, rfl⟩
  refine leaves_cons (f := 60) (args := #[.pointer (some ⟨g, 9, none⟩)]) (by simp [settle]) (by simp [go_sem]) ?_
  refine (funlock_deferred ⟨g, 9, none⟩ _ _ c9' f9').mono ?_
  rintro e u' w'' ⟨rfl, rfl, rfl⟩
  have HG := HF.out
  simpa [Leaves, settle, results, Tryd.results46] using HG
set_option maxRecDepth 100000 in
set_option maxHeartbeats 1600000 in
theorem fdo_first (p q g n c : Nat) (K : Option Addr) (want : Int) (o : O6) (cl : Bool) (fr : Int) (w : World) (op : Own w p 4 #[.bool false]) (oq : Own w q 29 #[.pointer (some ⟨g, 0, none⟩)]) (ow : Own w g 76 (frc K n c want o 0 0 cl fr)) :
    Calls Tryd.prog 30 #[.pointer (some ⟨g, 8, none⟩), .func (.func 31) #[] #[.pointer (some ⟨p, 0, none⟩), .pointer (some ⟨q, 0, none⟩)]] w fun e w' => e = .returned (.tuple #[]) ∧ Own w' p 4 #[.bool true] ∧ Own w' g 76 (frc none 0 0 0 o 1 0 true fr) ∧ Rest w w' (fun i => i = g ∨ i = p) := by
  have hl := run_call_load (P := Tryd.prog) Tryd.func58 (by kernel_rfl) (by kernel_rfl) (by kernel_rfl) .u32 (by kernel_rfl) (w := w) (a := ⟨g, 8, none⟩) (x := 0) (ow.cell (i := 8) rfl)
  have hlt := ow.lt
  have hnot : ∀ (x : Bool) (w : World), (Op.unary .not (.bool x)).run Tryd.prog w = .ok (.bool (!x)) w := fun _ _ => rfl
  have HS := Lib.hid (fslow_any p q g n c K want o cl fr w op oq ow)
  clear op oq ow
  go_enter Tryd.func30, Tryd.ntmps30
  go_wp2_with (first | (go_at_call 46; refine HS.out.mono ?_; rintro e w' ⟨rfl, h1, h2, h3⟩) | (go_at_call 45; go_in))
  go_end0
  exact ⟨rfl, h1, h2, h3⟩
set_option maxRecDepth 100000 in
theorem fdo_done (g : Nat) (fv : Value) (w : World) (h0 : w.cell? ⟨g, 8, none⟩ = some (.int .u32 1)) :
    Calls Tryd.prog 30 #[.pointer (some ⟨g, 8, none⟩), fv] w fun e w' => e = .returned (.tuple #[]) ∧ w' = w := by
  have hl := run_call_load (P := Tryd.prog) Tryd.func58 (by kernel_rfl) (by kernel_rfl) (by kernel_rfl) .u32 (by kernel_rfl) h0
  have hnot : ∀ (x : Bool) (w : World), (Op.unary .not (.bool x)).run Tryd.prog w = .ok (.bool (!x)) w := fun _ _ => rfl
  go_enter Tryd.func30, Tryd.ntmps30
  go_wp2
  go_end0
  exact ⟨rfl, rfl⟩
set_option maxRecDepth 100000 in
set_option maxHeartbeats 1600000 in
theorem fclose_open (g n c : Nat) (K : Option Addr) (want : Int) (o : O6) (fr : Int) (w : World) (ow : Own w g 76 (frc K n c want o 0 0 false fr)) :
    Calls Tryd.prog 16 #[.pointer (some ⟨g, 0, none⟩)] w fun e w' => e = .returned (.bool true) ∧ Own w' g 76 (frc none 0 0 0 o 1 0 true fr) ∧ Rest w w' (fun i => i = g) := by
  have hmf : ∀ (fn : Fn) (first cap : Array Value) (w : World), (Instr.makeFunc fn first cap).run Tryd.prog w = .ok (.func fn first cap) w := fun _ _ _ _ => rfl
  have hlt := ow.lt
  have oq := (Own.new w 29 #[.pointer (some ⟨g, 0, none⟩)]).alloc (.cells #[.bool false] 4)
  have op := Own.new (w.alloc (.cells #[.pointer (some ⟨g, 0, none⟩)] 29)) 4 #[.bool false]
  rw [show (w.alloc (.cells #[.pointer (some ⟨g, 0, none⟩)] 29)).heap.size = w.heap.size + 1 by simp] at op
  have ow2 := (ow.alloc (.cells #[.pointer (some ⟨g, 0, none⟩)] 29)).alloc (.cells #[.bool false] 4)
  have cq := oq.cell (i := 0) (v := .pointer (some ⟨g, 0, none⟩)) rfl
  have R0 : Rest w ((w.alloc (.cells #[.pointer (some ⟨g, 0, none⟩)] 29)).alloc (.cells #[.bool false] 4)) (fun i => i = g) := Rest.of_below (bl_alloc (bl_alloc (bl_refl w) _) _) _
  have HD := Lib.hid (fdo_first (w.heap.size + 1) w.heap.size g n c K want o false fr _ op oq ow2)
  clear ow op oq ow2
  go_enter Tryd.func16, Tryd.ntmps16
  go_wp2_with fail
  refine HD.out.mono ?_
  rintro e w3 ⟨rfl, op3, ow3, R3⟩
  have cp3 := op3.cell (i := 0) (v := .bool true) rfl
  have R4 := R0.trans R3 (fun i hi h => by
    rcases h with h | h
    · exact h
    · omega)
  go_wp2
  go_ret
  exact ⟨rfl, ow3, R4⟩
set_option maxRecDepth 100000 in
set_option maxHeartbeats 1600000 in
theorem fclose_again (g n c : Nat) (K : Option Addr) (want : Int) (o : O6) (mu : Int) (cl : Bool) (fr : Int) (w : World) (ow : Own w g 76 (frc K n c want o 1 mu cl fr)) :
    Calls Tryd.prog 16 #[.pointer (some ⟨g, 0, none⟩)] w fun e w' => e = .returned (.bool false) ∧ Below w.heap.size w w' := by
  have hmf : ∀ (fn : Fn) (first cap : Array Value) (w : World), (Instr.makeFunc fn first cap).run Tryd.prog w = .ok (.func fn first cap) w := fun _ _ _ _ => rfl
  have hlt := ow.lt
  have oq := (Own.new w 29 #[.pointer (some ⟨g, 0, none⟩)]).alloc (.cells #[.bool false] 4)
  have ow2 := (ow.alloc (.cells #[.pointer (some ⟨g, 0, none⟩)] 29)).alloc (.cells #[.bool false] 4)
  have cq := oq.cell (i := 0) (v := .pointer (some ⟨g, 0, none⟩)) rfl
  have c8 := ow2.cell (i := 8) (v := .int .u32 1) rfl
  have hb := bl_alloc (bl_alloc (bl_refl w) (.cells #[.pointer (some ⟨g, 0, none⟩)] 29)) (.cells #[.bool false] 4)
  clear ow oq ow2
  go_enter Tryd.func16, Tryd.ntmps16
  go_wp2_with fail
  refine (fdo_done g _ _ c8).mono ?_
  rintro e w3 ⟨rfl, rfl⟩
  go_wp2
  go_ret
  exact ⟨rfl, hb⟩
set_option maxRecDepth 100000 in
theorem fclose_nil (w : World) : Calls Tryd.prog 16 #[.pointer none] w fun e w' => e = .returned (.bool false) ∧ Below w.heap.size w w' := by
  have hb := bl_alloc (bl_refl w) (.cells #[.pointer none] 29)
  go_enter Tryd.func16, Tryd.ntmps16
  go_wp2
  go_ret
  exact ⟨rfl, hb⟩
end Go.Proofs.YtgahjchngmojlabDoor

/- frame: events in memory; what a region leaves that parses a header -/
namespace Go.Proofs.YtgahjchngmojlabDoor
open Go.RowKit

/-- An event. -/
structure Ev where
  A : Option Addr
  n : Nat
  c : Nat
  xs : List Int
  k1 : Int
  k2 : Int
  k3 : Int
  D : Option Addr
  m : Nat
  e : Nat
  ds : List Int
  k5 : Int
def evc (e : Ev) : Array Value := #[.slice e.A e.n e.c, .int .i64 e.k1, .int .i64 e.k2, .int .i64 e.k3, .slice e.D e.m e.e, .int .i64 e.k5]
def Ev.p (e : Ev) : EvP := (e.xs, (e.k1, e.k2, e.k3, e.k5, e.ds))
def Ev.Ok (w : World) (B : Nat) (e : Ev) : Prop := BT w B e.A e.n e.xs ∧ BT w B e.D e.m e.ds ∧ e.n ≤ 65535
/-- Its frame lies in a row of its own between B0 and B. -/
def Ev.T (w : World) (B0 B : Nat) (e : Ev) : Prop := ∀ a, e.A = some a → B0 ≤ a.block ∧ a.block < B ∧ Typed w a.block 5
def ev0 : Ev := ⟨none, 0, 0, [], 0, 0, 0, none, 0, 0, [], 0⟩
set_option maxRecDepth 100000 in
theorem ev_desc : Tryd.prog.underlying 57 = some (.struct (Tryd.prog.fieldsOf 57)) := by kernel_rfl
set_option maxRecDepth 100000 in
theorem ev_info (a b c d e f : Value) : (Tryd.prog.info? 57).map (·.size) = some (#[a, b, c, d, e, f] : Array Value).size := by kernel_rfl
theorem ev_one (A : Option Addr) (n c : Nat) (k1 k2 k3 : Int) (D : Option Addr) (m e : Nat) (k5 : Int) : (#[Value.slice A n c, .int .i64 k1, .int .i64 k2, .int .i64 k3, .slice D m e, .int .i64 k5]).all (·.oneCell') = true := by simp [Value.oneCell']
theorem hd_oneF (a b : Int) : (#[Value.int .i64 a, .int .i64 b]).all (·.oneCell') = true := by simp [Value.oneCell']
theorem vd_oneF (a b c d : Int) (A : Option Addr) (n m : Nat) : (#[Value.int .i64 a, .int .i64 b, .int .i64 c, .slice A n m, .int .i64 d]).all (·.oneCell') = true := by simp [Value.oneCell']
theorem results_cell_tmpF {P : Program} {fn : Func} {p t : Tmp} {ty : TypeId} (h : fn.results = #[.cell p ty, .tmp t]) (tmps : Array Value) (w : World) (g : Nat) (T : TypeId) (cs : Array Value) (d : TypeDesc)
    (hp : tmps.getD p undef = .pointer (some ⟨g, 0, none⟩)) (hg : Own w g T cs) (hu : P.underlying ty = some d) (hd : (match d with | .struct _ | .array _ _ => true | _ => false) = true) (hi : (P.info? ty).map (·.size) = some cs.size) :
    (results fn tmps).run P w = .ok (.tuple #[.agg cs, tmps.getD t undef]) w := by
  have hp' : tmps[p]?.getD undef = .pointer (some ⟨g, 0, none⟩) := by simpa using hp
  simp [results, h, hp', asAddr, run_loadVar_row w g T ty cs (0, 0) d hg hu hd hi]
theorem Rest.setRowF (w : World) (g : Nat) (cs : Array Value) : Rest w (w.setRow g cs) (fun i => i = g) := ⟨rfl, rfl, rfl, by simp, fun i _ hn => setRow_other w g i _ hn⟩
theorem step_store_rowF {P : Program} {ops : Array Oper} {o : Oper} {a : Act} {w : World} {K : Act → World → Prop} {Q : Exit → Act → World → Prop} {E : Prop}
    (hg : o.guard = none) (ty : TypeId) (x y : Operand) (ho : o.op = .store ty x y) (g : Nat) (cells : Array Value) (hx : a.eval x = .pointer (some ⟨g, 0, none⟩)) (hy : a.eval y = .agg cells)
    (t : TypeId) (old : Array Value) (hgd : w.heap[g]? = some (.cells old t (0, 0))) (hi : (P.info? ty).map (·.size) = some cells.size) (hold : old.size = cells.size) (h1 : cells.all (·.oneCell') = true)
    (hK : K (a.put o.dst undef) (w.setRow g cells)) :
    if Region.wanted o (yielded ops a.tmps) = true then Oper.wp P o a w K Q else E := by
  have hw : Region.wanted o (yielded ops a.tmps) = true := by simp [Region.wanted, hg]
  rw [if_pos hw]
  unfold Oper.wp
  simp [execOp, ho, hx, hy, Instr.storeAt, Instr.sureAddr, run_storeVar_row w g t ty old cells hgd hi hold h1, Result.andThen]
  exact hK
/-- What a region has left so far that parses a header into variables of its own. -/
def GvSt (w W : World) (hb vb : Option Nat) (r : Option (Option Addr × Nat)) (d : List Int) : Prop :=
  Below w.heap.size w W ∧ (∀ b, hb = some b → w.heap.size ≤ b ∧ Own W b 94 #[.int .i64 0, .int .i64 0]) ∧ (∀ b, vb = some b → w.heap.size ≤ b ∧ Own W b 49 #[.int .i64 0, .int .i64 0, .int .i64 0, .slice none 0 0, .int .i64 0]) ∧ (∀ A m, r = some (A, m) → BT W W.heap.size A m d)
def GvR (w wx : World) (r : HR) (x y : Value) : Prop :=
  ∃ hb vb A m c, x = .pointer (some ⟨hb, 0, none⟩) ∧ y = .pointer (some ⟨vb, 0, none⟩) ∧ Own wx hb 94 #[.int .i64 r.N, .int .i64 r.K] ∧ Own wx vb 49 #[.int .i64 r.k1, .int .i64 r.k2, .int .i64 r.k3, .slice A m c, .int .i64 r.k5] ∧ BT wx wx.heap.size A m r.d ∧ Below w.heap.size w wx
theorem GvSt.start {w W : World} {d : List Int} (h : Below w.heap.size w W) : GvSt w W none none none d := ⟨h, (fun _ h => by cases h), (fun _ h => by cases h), (fun _ _ h => by cases h)⟩
theorem GvSt.hs {w W : World} {vb : Option Nat} {r : Option (Option Addr × Nat)} {d : List Int} (h : GvSt w W none vb r d) {n : Nat} (hn : W.heap.size = n) : GvSt w (W.alloc (.cells #[.int .i64 0, .int .i64 0] 94)) (some n) vb r d := by
  subst hn
  obtain ⟨h1, h2, h3, h4⟩ := h
  have hb := bl_alloc (bl_refl W) (.cells #[.int .i64 0, .int .i64 0] 94)
  exact ⟨bl_alloc h1 _, (fun b e => by cases e; exact ⟨h1.size, Own.new _ _ _⟩), (fun b e => ⟨(h3 b e).1, (h3 b e).2.step hb⟩), (fun A m e => ((h4 A m e).below hb (Nat.le_refl _)).more hb.size)⟩
theorem GvSt.vs {w W : World} {hb : Option Nat} {r : Option (Option Addr × Nat)} {d : List Int} (h : GvSt w W hb none r d) {n : Nat} (hn : W.heap.size = n) : GvSt w (W.alloc (.cells #[.int .i64 0, .int .i64 0, .int .i64 0, .slice none 0 0, .int .i64 0] 49)) hb (some n) r d := by
  subst hn
  obtain ⟨h1, h2, h3, h4⟩ := h
  have hb := bl_alloc (bl_refl W) (.cells #[.int .i64 0, .int .i64 0, .int .i64 0, .slice none 0 0, .int .i64 0] 49)
  exact ⟨bl_alloc h1 _, (fun b e => ⟨(h2 b e).1, (h2 b e).2.step hb⟩), (fun b e => by cases e; exact ⟨h1.size, Own.new _ _ _⟩), (fun A m e => ((h4 A m e).below hb (Nat.le_refl _)).more hb.size)⟩
theorem GvSt.call {w W W' : World} {hb vb : Option Nat} {A : Option Addr} {m : Nat} {d : List Int} (h : GvSt w W hb vb none d) (hB : BT W' W'.heap.size A m d) (hb' : Below W.heap.size W W') : GvSt w W' hb vb (some (A, m)) d := by
  obtain ⟨h1, h2, h3, h4⟩ := h
  exact ⟨bl_trans h1 hb', (fun b e => ⟨(h2 b e).1, (h2 b e).2.step hb'⟩), (fun b e => ⟨(h3 b e).1, (h3 b e).2.step hb'⟩), (fun A m e => by cases e; exact hB)⟩
theorem GvSt.h {w W : World} {hb : Nat} {vb : Option Nat} {r : Option (Option Addr × Nat)} {d : List Int} (st : GvSt w W (some hb) vb r d) : Own W hb 94 #[.int .i64 0, .int .i64 0] := (st.2.1 hb rfl).2
theorem gv_types : (94 : TypeId) ≠ 49 := by decide
theorem GvSt.v {w W : World} {hb vb : Nat} {r : Option (Option Addr × Nat)} {d : List Int} (st : GvSt w W (some hb) (some vb) r d) (X : Array Value) : Own (W.setRow hb X) vb 49 #[.int .i64 0, .int .i64 0, .int .i64 0, .slice none 0 0, .int .i64 0] :=
  (Rest.setRowF W hb X).own (st.2.2.1 vb rfl).2 (fun e => (st.2.2.1 vb rfl).2.typed.ne st.h.typed (Ne.symm gv_types) e)
theorem GvSt.g1 {w W : World} {g : Nat} {T : TypeId} {cs : Array Value} {hb : Nat} {vb : Option Nat} {r : Option (Option Addr × Nat)} {d : List Int} (st : GvSt w W (some hb) vb r d) (o : Own w g T cs) (X : Array Value) : Own (W.setRow hb X) g T cs :=
  (Rest.setRowF W hb X).own (o.step st.1) (fun e => by have h1 := (st.2.1 hb rfl).1; have h2 := o.lt; have h3 : g = hb := e; omega)
theorem GvSt.g2 {w W : World} {g : Nat} {T : TypeId} {cs : Array Value} {hb vb : Nat} {r : Option (Option Addr × Nat)} {d : List Int} (st : GvSt w W (some hb) (some vb) r d) (o : Own w g T cs) (X Y : Array Value) : Own ((W.setRow hb X).setRow vb Y) g T cs :=
  (Rest.setRowF (W.setRow hb X) vb Y).own (st.g1 o X) (fun e => by have h1 := (st.2.2.1 vb rfl).1; have h2 := o.lt; have h3 : g = vb := e; omega)
theorem gv_types2 : (94 : TypeId) ≠ 5 ∧ (49 : TypeId) ≠ 5 := by decide
theorem GvSt.fin {w W : World} {hb vb m c : Nat} {A : Option Addr} {r : HR} (st : GvSt w W (some hb) (some vb) (some (A, m)) r.d) :
    GvR w ((W.setRow hb #[.int .i64 r.N, .int .i64 r.K]).setRow vb #[.int .i64 r.k1, .int .i64 r.k2, .int .i64 r.k3, .slice A m c, .int .i64 r.k5]) r (.pointer (some ⟨hb, 0, none⟩)) (.pointer (some ⟨vb, 0, none⟩)) := by
  have o1 : Own (W.setRow hb #[.int .i64 r.N, .int .i64 r.K]) hb 94 #[.int .i64 r.N, .int .i64 r.K] := st.h.setRow
  have ov := st.v #[.int .i64 r.N, .int .i64 r.K]
  have R1 := Rest.setRowF W hb #[.int .i64 r.N, .int .i64 r.K]
  have R2 := Rest.setRowF (W.setRow hb #[.int .i64 r.N, .int .i64 r.K]) vb #[.int .i64 r.k1, .int .i64 r.k2, .int .i64 r.k3, .slice A m c, .int .i64 r.k5]
  have hB := st.2.2.2 A m rfl
  have hB1 := hB.rest R1 (fun i _ ht e => ht.ne st.h.typed (Ne.symm gv_types2.1) e) (Nat.le_refl _)
  have hB2 := hB1.rest R2 (fun i _ ht e => ht.ne ov.typed (Ne.symm gv_types2.2) e) (by simp)
  refine ⟨hb, vb, A, m, c, rfl, rfl, R2.own o1 (fun e => ov.typed.ne o1.typed (Ne.symm gv_types) e.symm), ov.setRow, hB2.more (by simp), ?_⟩
  exact bl_setRow (bl_setRow st.1 (st.2.1 hb rfl).1) (st.2.2.1 vb rfl).1
theorem gs_of {W : World} {g n c : Nat} {K : Option Addr} {want fr d mu : Int} {cl a0 a1 a2 a3 a4 a5 : Bool} (o : Own W g 76 (frc K n c want ⟨a0, a1, a2, a3, a4, a5⟩ d mu cl fr)) :
    W.cell? ⟨g, 0, none⟩ = some (.slice K n c) ∧ W.cell? ⟨g, 2, none⟩ = some (.bool a0) ∧ W.cell? ⟨g, 3, none⟩ = some (.bool a1) ∧ W.cell? ⟨g, 4, none⟩ = some (.bool a2) ∧ W.cell? ⟨g, 5, none⟩ = some (.bool a3) ∧ W.cell? ⟨g, 6, none⟩ = some (.bool a4) ∧ W.cell? ⟨g, 7, none⟩ = some (.bool a5) :=
  ⟨o.cell rfl, o.cell rfl, o.cell rfl, o.cell rfl, o.cell rfl, o.cell rfl, o.cell rfl⟩
theorem rest_row {W : World} {g : Nat} {T : TypeId} {cs : Array Value} (_o : Own W g T cs) (X : Array Value) : Rest W (W.setRow g X) (fun i => i = g) := Rest.setRowF W g X
theorem own_want {W : World} {g n c : Nat} {K : Option Addr} {want fr d mu : Int} {cl : Bool} {o : O6} (h : Own W g 76 (frc K n c want o d mu cl fr)) (v : Int) : Own (W.setCell ⟨g, 1, none⟩ (.int .i64 v)) g 76 (frc K n c v o d mu cl fr) := by
  have := h.set_ 1 (.int .i64 v)
  simpa [frc] using this
theorem own_fr {W : World} {g n c : Nat} {K : Option Addr} {want fr d mu : Int} {cl : Bool} {o : O6} (h : Own W g 76 (frc K n c want o d mu cl fr)) (v : Int) : Own (W.setCell ⟨g, 12, none⟩ (.int .i64 v)) g 76 (frc K n c want o d mu cl v) := by
  have := h.set_ 12 (.int .i64 v)
  simpa [frc] using this
/-- What give hands back: nothing yet; a frame; a verdict. -/
def GvNo (w : World) (g B m : Nat) (want : Int) (o : O6) (fr : Int) (ks : List Int) (v : Value) (e : Ending) (w' : World) : Prop :=
  e = .returned (.tuple #[.agg #[.slice none 0 0, .int .i64 0, .int .i64 0, .int .i64 0, .slice none 0 0, .int .i64 0], .bool false]) ∧ ∃ K' c', Own w' g 76 (frc K' m c' want o 0 0 false fr) ∧ w'.ownsRow B 5 1 (.slice K' m c') m (ks.map (Value.int .u8)) ∧ Rest w w' (Pg g v) ∧ ((Value.slice K' m c').ownBlock = v.ownBlock ∨ ∀ j, (Value.slice K' m c').ownBlock = some j → w.heap.size ≤ j)
def GvYes (w : World) (g B m : Nat) (o : O6) (fr : Int) (ks : List Int) (v : Value) (e : Ending) (w' : World) : Prop :=
  ∃ K' c', e = .returned (.tuple #[.agg #[.slice K' m c', .int .i64 0, .int .i64 0, .int .i64 0, .slice none 0 0, .int .i64 0], .bool true]) ∧ (∃ want', Own w' g 76 (frc none 0 0 want' o 0 0 false (fr + 1))) ∧ w'.ownsRow B 5 1 (.slice K' m c') m (ks.map (Value.int .u8)) ∧ Rest w w' (Pg g v)
def GvBad (w : World) (g _B : Nat) (o : O6) (fr : Int) (r : HR) (v : Value) (e : Ending) (w' : World) : Prop :=
  ∃ D dm dc, e = .returned (.tuple #[.agg #[.slice none 0 0, .int .i64 r.k1, .int .i64 r.k2, .int .i64 r.k3, .slice D dm dc, .int .i64 r.k5], .bool true]) ∧ Own w' g 76 (frc none 0 0 0 o 1 0 true fr) ∧ BT w' w'.heap.size D dm r.d ∧ Rest w w' (Pg g v)
theorem fv_types : (76 : TypeId) ≠ 49 := by decide
end Go.Proofs.YtgahjchngmojlabDoor

/- frame: lists of events -/
namespace Go.Proofs.YtgahjchngmojlabDoor
open Go.RowKit

def flatE (L : List Ev) : List Value := L.flatMap fun e => (evc e).toList
def nthE (L : List Ev) (i : Nat) : Ev := L.getD i ev0
theorem nthE_some {L : List Ev} {i : Nat} (h : i < L.length) : L[i]? = some (nthE L i) := by
  unfold nthE
  rw [List.getD_eq_getElem?_getD, List.getElem?_eq_getElem h]; rfl
theorem nthE_mem {L : List Ev} {i : Nat} (h : i < L.length) : nthE L i ∈ L := List.mem_of_getElem? (nthE_some h)
theorem flatE_append (a b : List Ev) : flatE (a ++ b) = flatE a ++ flatE b := by simp [flatE]
theorem evc_len (v : Ev) : (evc v).toList.length = 6 := rfl
theorem flatE_len {L : List Ev} : (flatE L).length = L.length * 6 := by
  induction L with
  | nil => rfl
  | cons r rs ih =>
    have e : flatE (r :: rs) = (evc r).toList ++ flatE rs := by simp [flatE]
    rw [e, List.length_append, ih, evc_len, List.length_cons]; omega
theorem evc_one (e : Ev) : ∀ u ∈ (evc e).toList, u.oneCell' = true := by
  intro u hu
  unfold evc at hu
  simp only [List.mem_cons, List.not_mem_nil, or_false] at hu
  rcases hu with rfl | rfl | rfl | rfl | rfl | rfl <;> rfl
theorem flatE_one (L : List Ev) : ∀ u ∈ flatE L, u.oneCell' = true := by
  intro u hu
  obtain ⟨r, _, hr⟩ := List.mem_flatMap.1 hu
  exact evc_one r u hr
theorem flatE_get {L : List Ev} : ∀ (i : Nat) (v : Ev), L[i]? = some v → ∀ (j : Nat) (u : Value), (evc v).toList[j]? = some u → (flatE L)[i * 6 + j]? = some u := by
  induction L with
  | nil => intro i v h; cases h
  | cons x xs ih =>
    intro i v h j u hu
    have e : flatE (x :: xs) = (evc x).toList ++ flatE xs := by simp [flatE]
    have hj : j < 6 := (List.getElem?_eq_some_iff.1 hu).1
    cases i with
    | zero =>
      obtain rfl : x = v := by simpa using h
      rw [e, Nat.zero_mul, Nat.zero_add, List.getElem?_append_left hj]
      exact hu
    | succ i =>
      rw [e, List.getElem?_append_right (by rw [evc_len]; omega), evc_len, show (i + 1) * 6 + j - 6 = i * 6 + j by omega]
      exact ih i v (by simpa using h) j u hu
theorem flatE_at {L : List Ev} {j : Nat} {u : Value} (hv : (flatE L)[j]? = some u) : ∃ v, L[j / 6]? = some v ∧ (evc v).toList[j % 6]? = some u := by
  have hj := (List.getElem?_eq_some_iff.1 hv).1
  rw [flatE_len] at hj
  have hi : j / 6 < L.length := by omega
  have hr := nthE_some hi
  have hl : j % 6 < (evc (nthE L (j / 6))).toList.length := by rw [evc_len]; omega
  refine ⟨_, hr, ?_⟩
  have h3 := flatE_get (j / 6) _ hr (j % 6) _ (List.getElem?_eq_getElem hl)
  rw [show j / 6 * 6 + j % 6 = j by omega, hv] at h3
  rw [List.getElem?_eq_getElem hl, h3]
/-- n events at A. -/
def Evs (w : World) (B : Nat) (A : Option Addr) (n : Nat) (L : List Ev) : Prop :=
  n = L.length ∧ (∀ e ∈ L, e.Ok w B) ∧ (L = [] ∨ ∃ b o, A = some ⟨b, o, none⟩ ∧ b < B ∧ ∀ i e, L[i]? = some e → w.rangeAt b (o + i * 6) (evc e).toList)
theorem Ev.Ok.below {w w' : World} {B : Nat} {e : Ev} (h : e.Ok w B) (k : Below w.heap.size w w') (hB : B ≤ w.heap.size) : e.Ok w' B := ⟨h.1.below k hB, h.2.1.below k hB, h.2.2⟩
theorem Ev.Ok.more {w : World} {B B' : Nat} {e : Ev} (h : e.Ok w B) (hB : B ≤ B') : e.Ok w B' := ⟨h.1.more hB, h.2.1.more hB, h.2.2⟩
theorem Ev.Ok.rest {w w' : World} {B : Nat} {e : Ev} {P : Nat → Prop} (h : e.Ok w B) (k : Rest w w' P) (hp : ∀ i, i < B → Typed w i 5 → ¬ P i) (hB : B ≤ w.heap.size) : e.Ok w' B := ⟨h.1.rest k hp hB, h.2.1.rest k hp hB, h.2.2⟩
theorem Ev.T.rest {w w' : World} {B0 B : Nat} {e : Ev} {P : Nat → Prop} (h : e.T w B0 B) (k : Rest w w' P) (hp : ∀ i, i < B → Typed w i 5 → ¬ P i) : e.T w' B0 B := fun a ha => ⟨(h a ha).1, (h a ha).2.1, (h a ha).2.2.rest k (hp _ (h a ha).2.1 (h a ha).2.2)⟩
theorem Ev.T.more {w : World} {B0 B B' : Nat} {e : Ev} (h : e.T w B0 B) (hB : B ≤ B') : e.T w B0 B' := fun a ha => ⟨(h a ha).1, by have := (h a ha).2.1; omega, (h a ha).2.2⟩
theorem Ev.T.low {w : World} {B0 B1 B : Nat} {e : Ev} (h : e.T w B1 B) (hB : B0 ≤ B1) : e.T w B0 B := fun a ha => ⟨by have := (h a ha).1; omega, (h a ha).2.1, (h a ha).2.2⟩
theorem Evs.below {w w' : World} {A : Option Addr} {n : Nat} {L : List Ev} (h : Evs w w.heap.size A n L) (hb : Below w.heap.size w w') : Evs w' w'.heap.size A n L := by
  obtain ⟨hn, ho, hr⟩ := h
  refine ⟨hn, fun v hv => ((ho v hv).below hb (Nat.le_refl _)).more hb.size, ?_⟩
  rcases hr with h0 | ⟨b, o, rfl, hlt, hc⟩
  · exact .inl h0
  · have hbs := hb.size
    exact .inr ⟨b, o, rfl, by omega, fun i v hi j u hu => (World.cell?_of_block (a := ⟨b, _, none⟩) (hb.block b hlt)).trans (hc i v hi j u hu)⟩
theorem range6 {w : World} {b o : Nat} {v : Ev} (h : w.rangeAt b o (evc v).toList) : w.cell? ⟨b, o, none⟩ = some (.slice v.A v.n v.c) ∧ w.cell? ⟨b, o + 1, none⟩ = some (.int .i64 v.k1) ∧ w.cell? ⟨b, o + 2, none⟩ = some (.int .i64 v.k2) ∧ w.cell? ⟨b, o + 3, none⟩ = some (.int .i64 v.k3) ∧ w.cell? ⟨b, o + 4, none⟩ = some (.slice v.D v.m v.e) ∧ w.cell? ⟨b, o + 5, none⟩ = some (.int .i64 v.k5) :=
  ⟨h 0 _ rfl, h 1 _ rfl, h 2 _ rfl, h 3 _ rfl, h 4 _ rfl, h 5 _ rfl⟩
theorem Evs.at_ {w : World} {B : Nat} {A : Option Addr} {n : Nat} {L : List Ev} (h : Evs w B A n L) {i : Nat} (hi : i < n) :
    ∃ b o, A = some ⟨b, o, none⟩ ∧ b < B ∧ (nthE L i).Ok w B ∧ w.rangeAt b (o + i * 6) (evc (nthE L i)).toList := by
  obtain ⟨hn, ho, h0 | ⟨b, o, hA, hb, hc⟩⟩ := h
  · subst h0; simp at hn; omega
  · have hi' : i < L.length := by omega
    exact ⟨b, o, hA, hb, ho _ (nthE_mem hi'), hc i _ (nthE_some hi')⟩
theorem Evs.shows {w : World} {B : Nat} {A : Option Addr} {n : Nat} {L : List Ev} (h : Evs w B A n L) : Shows w B A (flatE L) := by
  obtain ⟨hn, ho, h0 | ⟨b, o, hA, hb, hc⟩⟩ := h
  · subst h0; exact .inl rfl
  · refine .inr ⟨b, o, hA, hb, fun j v hv => ?_⟩
    obtain ⟨r, hr, hrv⟩ := flatE_at hv
    have := hc _ _ hr _ _ hrv
    rw [show o + j / 6 * 6 + j % 6 = o + j by omega] at this
    exact this
theorem own_evs {w : World} {base : Nat} {T : TypeId} {A : Option Addr} {c : Nat} {L : List Ev} (h : w.ownsRow base T 6 (.slice A L.length c) L.length (flatE L)) (ho : ∀ x ∈ L, x.Ok w w.heap.size) : Evs w w.heap.size A L.length L := by
  rcases h.2 with ⟨h1, h0⟩ | ⟨g, cap, cur, h1, hg, hc, h3, h4, h5, h6⟩
  · exact ⟨rfl, ho, .inl (List.length_eq_zero_iff.1 h0)⟩
  · injection h1 with h1 _ _
    subst h1
    refine ⟨rfl, ho, .inr ⟨g, 0, rfl, (h.lt g rfl).2, fun i x hi j u hu => ?_⟩⟩
    have := h.cells (g := g) rfl _ _ (flatE_get i x hi j u hu)
    simpa [Addr.add_lit] using this
set_option maxRecDepth 100000 in
theorem sl_evs : SliceOf Tryd.prog 40 57 6 80 := SliceOf.mk Tryd.underlying40 (z := .agg #[.slice none 0 0, .int .i64 0, .int .i64 0, .int .i64 0, .slice none 0 0, .int .i64 0]) (by kernel_rfl) rfl (by decide)
set_option maxRecDepth 100000 in
theorem sl_revs : SliceOf Tryd.prog 35 51 6 80 := SliceOf.mk Tryd.underlying35 (z := .agg #[.slice none 0 0, .int .i64 0, .int .i64 0, .int .i64 0, .slice none 0 0, .int .i64 0]) (by kernel_rfl) rfl (by decide)
theorem L6_one {e : Ev} {u : Value} (hu : u ∈ [Value.slice e.A e.n e.c, .int .i64 e.k1, .int .i64 e.k2, .int .i64 e.k3, .slice e.D e.m e.e, .int .i64 e.k5]) : u.oneCell' = true := evc_one e u hu
theorem own_formL {w : World} {base : Nat} {e : TypeId} {size n : Nat} {v : Value} {xs : List Value} (h : w.ownsRow base e size v n xs) : ∃ A c, v = .slice A n c := own_form h
end Go.Proofs.YtgahjchngmojlabDoor

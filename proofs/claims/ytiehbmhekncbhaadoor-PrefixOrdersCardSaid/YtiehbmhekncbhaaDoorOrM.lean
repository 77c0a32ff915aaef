/- the order of prefixes -/
import Derived.Test.YtiehbmhekncbhaaDoorOrB
namespace Go.Proofs.YtiehbmhekncbhaaDoor
open Go.RowKit Go.Sort

def cb (xs ys : List Int) : Int := Lib.compareBytes (Lib.bytesOf xs) (Lib.bytesOf ys)
def Byt (xs : List Int) : Prop := ∀ x ∈ xs, 0 ≤ x ∧ x ≤ 255
theorem Byt.tail {x : Int} {xs : List Int} (h : Byt (x :: xs)) : Byt xs := fun y hy => h y (List.mem_cons_of_mem _ hy)
theorem Byt.head {x : Int} {xs : List Int} (h : Byt (x :: xs)) : 0 ≤ x ∧ x ≤ 255 := h x List.mem_cons_self
theorem cb_cons {x y : Int} {xs ys : List Int} (hx : 0 ≤ x ∧ x ≤ 255) (hy : 0 ≤ y ∧ y ≤ 255) : cb (x :: xs) (y :: ys) = if x < y then -1 else if y < x then 1 else cb xs ys := by
  unfold cb Lib.bytesOf
  simp only [List.map_cons, Lib.compareBytes]
  have e : ∀ a b : Int, 0 ≤ a ∧ a ≤ 255 → 0 ≤ b ∧ b ≤ 255 → ((UInt8.ofNat a.toNat < UInt8.ofNat b.toNat) ↔ a < b) := fun a b ha hb => by
    rw [UInt8.lt_iff_toNat_lt, UInt8.toNat_ofNat', UInt8.toNat_ofNat']
    omega
  by_cases h1 : x < y
  · rw [if_pos h1, if_pos ((e x y hx hy).2 h1)]
  · rw [if_neg h1, if_neg (fun h => h1 ((e x y hx hy).1 h))]
    by_cases h2 : y < x
    · rw [if_pos h2, if_pos ((e y x hy hx).2 h2)]
    · rw [if_neg h2, if_neg (fun h => h2 ((e y x hy hx).1 h))]
theorem cb_range : ∀ (xs ys : List Int), xs.length = ys.length → Byt xs → Byt ys → cb xs ys = -1 ∨ cb xs ys = 0 ∨ cb xs ys = 1
  | [], [], _, _, _ => .inr (.inl rfl)
  | x :: xs, y :: ys, hl, hx, hy => by
    rw [cb_cons hx.head hy.head]
    have := cb_range xs ys (by simpa using hl) hx.tail hy.tail
    split
    · exact .inl rfl
    · split
      · exact .inr (.inr rfl)
      · exact this
theorem cb_neg : ∀ (xs ys : List Int), xs.length = ys.length → Byt xs → Byt ys → cb ys xs = - cb xs ys
  | [], [], _, _, _ => rfl
  | x :: xs, y :: ys, hl, hx, hy => by
    rw [cb_cons hx.head hy.head, cb_cons hy.head hx.head]
    have := cb_neg xs ys (by simpa using hl) hx.tail hy.tail
    by_cases h1 : x < y
    · rw [if_pos h1, if_neg (by omega), if_pos h1]; rfl
    · by_cases h2 : y < x
      · rw [if_pos h2, if_neg h1, if_pos h2]
      · rw [if_neg h2, if_neg h1, if_neg h1, if_neg h2, this]
theorem cb_zero : ∀ (xs ys : List Int), xs.length = ys.length → Byt xs → Byt ys → (cb xs ys = 0 ↔ xs = ys)
  | [], [], _, _, _ => ⟨fun _ => rfl, fun _ => rfl⟩
  | x :: xs, y :: ys, hl, hx, hy => by
    rw [cb_cons hx.head hy.head]
    have := cb_zero xs ys (by simpa using hl) hx.tail hy.tail
    by_cases h1 : x < y
    · rw [if_pos h1]; simp; omega
    · by_cases h2 : y < x
      · rw [if_neg h1, if_pos h2]; simp; omega
      · rw [if_neg h1, if_neg h2, this]
        have e : x = y := by omega
        subst e
        simp
/-- What an order keeps. -/
def Tri (a b c : Int) : Prop := (a ≤ 0 → b ≤ 0 → c ≤ 0) ∧ (a ≤ 0 → b ≤ 0 → (a < 0 ∨ b < 0) → c < 0) ∧ (a = 0 → b = 0 → c = 0)
theorem cb_tri : ∀ (xs ys zs : List Int), xs.length = ys.length → ys.length = zs.length → Byt xs → Byt ys → Byt zs → Tri (cb xs ys) (cb ys zs) (cb xs zs)
  | [], [], [], _, _, _, _, _ => by unfold Tri; simp [cb, Lib.bytesOf, Lib.compareBytes]
  | x :: xs, y :: ys, z :: zs, h1, h2, hx, hy, hz => by
    rw [cb_cons hx.head hy.head, cb_cons hy.head hz.head, cb_cons hx.head hz.head]
    have ih := cb_tri xs ys zs (by simpa using h1) (by simpa using h2) hx.tail hy.tail hz.tail
    unfold Tri at ih ⊢
    split
    · split
      · rw [if_pos (by omega)]; omega
      · split
        · omega
        · rw [if_pos (by omega)]; omega
    · split
      · omega
      · split
        · rw [if_pos (by omega)]; omega
        · split
          · omega
          · rw [if_neg (by omega), if_neg (by omega)]; exact ih
theorem cmpI_tri (x y z : Int) : Tri (cmpI x y) (cmpI y z) (cmpI x z) := by
  unfold Tri cmpI
  repeat' split
  all_goals omega
theorem cmpI_neg (x y : Int) : cmpI y x = - cmpI x y := by
  unfold cmpI
  repeat' split
  all_goals omega
theorem cmpI_zero (x y : Int) : cmpI x y = 0 ↔ x = y := by
  unfold cmpI
  repeat' split
  all_goals omega
theorem or3_tri {a b c a' b' c' a'' b'' c'' : Int} (h1 : Tri a a' a'') (h2 : Tri b b' b'') (h3 : Tri c c' c'') (r1 : a = -1 ∨ a = 0 ∨ a = 1) (r2 : a' = -1 ∨ a' = 0 ∨ a' = 1) (r3 : a'' = -1 ∨ a'' = 0 ∨ a'' = 1)
    (s1 : b = -1 ∨ b = 0 ∨ b = 1) (s2 : b' = -1 ∨ b' = 0 ∨ b' = 1) (s3 : b'' = -1 ∨ b'' = 0 ∨ b'' = 1) : or3 a b c ≤ 0 → or3 a' b' c' ≤ 0 → or3 a'' b'' c'' ≤ 0 := by
  unfold Tri at h1 h2 h3
  unfold or3
  intro p q
  rcases r1 with rfl | rfl | rfl <;> rcases r2 with rfl | rfl | rfl <;> rcases r3 with rfl | rfl | rfl <;> simp at h1 p q ⊢
  all_goals (rcases s1 with rfl | rfl | rfl <;> rcases s2 with rfl | rfl | rfl <;> rcases s3 with rfl | rfl | rfl <;> simp at h2 p q ⊢)
  all_goals omega
theorem addr_byt {a : List Int} (h : IsAddr a) : Byt a := h.2
theorem pcmp_neg {f l f' l' : Int} {a b : List Int} (ha : IsAddr a) (hb : IsAddr b) : pcmp f' l' b f l a = - pcmp f l a f' l' b := by
  unfold pcmp
  have h2 := cb_neg a b (by rw [ha.1, hb.1]) (addr_byt ha) (addr_byt hb)
  unfold cb at h2
  rw [cmpI_neg f f', h2, cmpI_neg l l']
  unfold or3
  repeat' split
  all_goals omega
theorem pcmp_zero {f l f' l' : Int} {a b : List Int} (ha : IsAddr a) (hb : IsAddr b) : (pcmp f l a f' l' b = 0) ↔ (f = f' ∧ l = l' ∧ a = b) := by
  unfold pcmp
  have h2 := cb_zero a b (by rw [ha.1, hb.1]) (addr_byt ha) (addr_byt hb)
  unfold cb at h2
  rw [← cmpI_zero f f', ← cmpI_zero l l', ← h2]
  unfold or3
  repeat' split
  all_goals omega
theorem pcmp_trans {f l f' l' f'' l'' : Int} {a b c : List Int} (ha : IsAddr a) (hb : IsAddr b) (hc : IsAddr c) : pcmp f l a f' l' b ≤ 0 → pcmp f' l' b f'' l'' c ≤ 0 → pcmp f l a f'' l'' c ≤ 0 :=
  or3_tri (cmpI_tri f f' f'') (cb_tri a b c (by rw [ha.1, hb.1]) (by rw [hb.1, hc.1]) (addr_byt ha) (addr_byt hb) (addr_byt hc)) (cmpI_tri l l' l'') (cmpI_range _ _) (cmpI_range _ _) (cmpI_range _ _)
    (cb_range a b (by rw [ha.1, hb.1]) (addr_byt ha) (addr_byt hb)) (cb_range b c (by rw [hb.1, hc.1]) (addr_byt hb) (addr_byt hc)) (cb_range a c (by rw [ha.1, hc.1]) (addr_byt ha) (addr_byt hc))
/-- The first place where two addresses differ. -/
theorem cb_first : ∀ (k : Nat) (xs ys : List Int), xs.length = ys.length → Byt xs → Byt ys → k < xs.length → (∀ j, j < k → nth xs j = nth ys j) → nth xs k ≠ nth ys k → cb xs ys = cmpI (nth xs k) (nth ys k)
  | 0, x :: xs, y :: ys, _, hx, hy, _, _, hne => by
    have hne' : x ≠ y := by simpa [nth] using hne
    rw [cb_cons hx.head hy.head]
    simp only [nth, List.getD_cons_zero]
    unfold cmpI
    split
    · rfl
    · rw [if_pos (by omega), if_pos (by omega)]
  | k + 1, x :: xs, y :: ys, hl, hx, hy, hk, hj, hne => by
    have h0 : x = y := by simpa [nth] using hj 0 (by omega)
    subst h0
    rw [cb_cons hx.head hy.head, if_neg (by omega), if_neg (by omega)]
    simp only [nth, List.getD_cons_succ] at hne ⊢
    exact cb_first k xs ys (by simpa using hl) hx.tail hy.tail (by simpa using hk) (fun j h => by have := hj (j + 1) (by omega); simpa [nth] using this) hne
  | _, [], _, _, _, _, hk, _, _ => by simp at hk
  | _, _ :: _, [], hl, _, _, _, _, _ => by simp at hl
end Go.Proofs.YtiehbmhekncbhaaDoor

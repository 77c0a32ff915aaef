/- Segments read from bytes -/
import Derived.Test.YtecbbjdcnlocdaaDoorSgO
import Derived.Test.YtecbbjdcnlocdaaDoorSgC
namespace Go.Proofs.YtecbbjdcnlocdaaDoor
open Go.RowKit Go.Sort

/-- Numbers of K bytes each. -/
def nums (K n : Nat) (zs : List Int) : List Int := (List.range n).map fun i => big ((zs.drop (i * K)).take K)
theorem nums_succ (K n : Nat) (zs : List Int) : nums K (n + 1) zs = nums K n zs ++ [big ((zs.drop (n * K)).take K)] := by
  unfold nums
  rw [List.range_succ, List.map_append]; rfl
theorem nums_len (K n : Nat) (zs : List Int) : (nums K n zs).length = n := by unfold nums; simp
/-- Whether some bytes begin with a segment. -/
def okS (K : Nat) (ys : List Int) : Bool := decide (2 ≤ ys.length ∧ (nth ys 0 = 1 ∨ nth ys 0 = 2) ∧ 1 ≤ nth ys 1 ∧ 2 + (nth ys 1).toNat * K ≤ ys.length)
def restS (K : Nat) (ys : List Int) : List Int := ys.drop (2 + (nth ys 1).toNat * K)
def segS (K : Nat) (ys : List Int) : Int × List Int := (nth ys 0, nums K (nth ys 1).toNat (ys.drop 2))
def readS (K : Nat) : Nat → List Int → Option (List (Int × List Int))
  | 0, _ => none
  | f + 1, ys => if ys = [] then some [] else if okS K ys = true then (readS K f (restS K ys)).map (segS K ys :: ·) else none
/-- How far a read has come: out is read, ys is left. -/
def Come (K : Nat) (xs : List Int) (out : List (Int × List Int)) (ys : List Int) : Prop := ∃ f, ys.length < f ∧ readS K (xs.length + 1) xs = (readS K f ys).map (out ++ ·)
theorem Come.start (K : Nat) (xs : List Int) : Come K xs [] xs := ⟨xs.length + 1, by omega, by cases readS K (xs.length + 1) xs <;> simp⟩
theorem Come.step {K : Nat} {xs ys : List Int} {out : List (Int × List Int)} (h : Come K xs out ys) (hn : ys ≠ []) (ho : okS K ys = true) : Come K xs (out ++ [segS K ys]) (restS K ys) := by
  obtain ⟨f, hf, he⟩ := h
  have h2 := ho
  unfold okS at h2
  have h2 := of_decide_eq_true h2
  cases f with
  | zero => omega
  | succ f =>
    refine ⟨f, ?_, ?_⟩
    · unfold restS
      rw [List.length_drop]
      omega
    · rw [he]
      rw [readS]
      rw [if_neg hn, if_pos ho]
      cases readS K f (restS K ys) <;> simp
theorem Come.done {K : Nat} {xs : List Int} {out : List (Int × List Int)} (h : Come K xs out []) : readS K (xs.length + 1) xs = some out := by
  obtain ⟨f, hf, he⟩ := h
  cases f with
  | zero => simp at hf
  | succ f => rw [he]; simp [readS]
theorem Come.fail {K : Nat} {xs ys : List Int} {out : List (Int × List Int)} (h : Come K xs out ys) (hn : ys ≠ []) (ho : okS K ys = false) : readS K (xs.length + 1) xs = none := by
  obtain ⟨f, hf, he⟩ := h
  cases f with
  | zero => omega
  | succ f =>
    rw [he]
    rw [readS]
    rw [if_neg hn, if_neg (by rw [ho]; simp)]
    rfl
def byteL (ys : List Int) : Prop := ∀ y ∈ ys, 0 ≤ y ∧ y ≤ 255
theorem byteL.drop {ys : List Int} (h : byteL ys) (k : Nat) : byteL (ys.drop k) := fun y hy => h y (List.mem_of_mem_drop hy)
theorem nth_byte {ys : List Int} (h : byteL ys) {k : Nat} (hk : k < ys.length) : 0 ≤ nth ys k ∧ nth ys k ≤ 255 := h _ (nth_mem hk)
theorem dig2 {a b : Int} (ha : 0 ≤ a ∧ a ≤ 255) (hb : 0 ≤ b ∧ b ≤ 255) : digitsOf 2 (big [a, b]) = [a, b] := by
  rw [digitsOf_2]
  simp [big]
  omega
theorem dig4 {a b c d : Int} (ha : 0 ≤ a ∧ a ≤ 255) (hb : 0 ≤ b ∧ b ≤ 255) (hc : 0 ≤ c ∧ c ≤ 255) (hd : 0 ≤ d ∧ d ≤ 255) : digitsOf 4 (big [a, b, c, d]) = [a, b, c, d] := by
  rw [digitsOf_4]
  simp [big]
  omega
theorem digK {K : Nat} (hK : K = 2 ∨ K = 4) {zs : List Int} (h : byteL zs) (hl : K ≤ zs.length) : digitsOf K (big (zs.take K)) = zs.take K := by
  rcases hK with rfl | rfl
  · match zs, hl with
    | a :: b :: r, _ => exact dig2 (h a (by simp)) (h b (by simp))
  · match zs, hl with
    | a :: b :: c :: d :: r, _ => exact dig4 (h a (by simp)) (h b (by simp)) (h c (by simp)) (h d (by simp))
theorem nums_form {K : Nat} (hK : K = 2 ∨ K = 4) : ∀ {n : Nat} {zs : List Int}, byteL zs → n * K ≤ zs.length → (nums K n zs).flatMap (digitsOf K) = zs.take (n * K)
  | 0, zs, _, _ => by simp [nums]
  | n + 1, zs, h, hl => by
    rw [Nat.succ_mul] at hl
    rw [nums_succ, List.flatMap_append, nums_form hK h (by omega)]
    simp only [List.flatMap_cons, List.flatMap_nil, List.append_nil]
    rw [digK hK (h.drop _) (by rw [List.length_drop]; omega), Nat.succ_mul, List.take_add]
/-- The form of what Same compares. -/
def kForm (K : Nat) (p : Int × List Int) : List Int := [p.1, (p.2.length : Int)] ++ p.2.flatMap (digitsOf K)
theorem segS_form {K : Nat} (hK : K = 2 ∨ K = 4) {ys : List Int} (h : byteL ys) (ho : okS K ys = true) : kForm K (segS K ys) ++ restS K ys = ys := by
  unfold okS at ho
  have h2 := of_decide_eq_true ho
  have hb := nth_byte h (k := 1) (by omega)
  unfold kForm segS restS
  dsimp only
  rw [nums_len, nums_form hK (h.drop 2) (by rw [List.length_drop]; omega), Int.toNat_of_nonneg hb.1, ← List.drop_drop]
  match ys, h2 with
  | a :: b :: r, _ =>
    show [a, b] ++ r.take _ ++ r.drop _ = a :: b :: r
    rw [List.append_assoc, List.take_append_drop]; rfl
theorem readS_form {K : Nat} (hK : K = 2 ∨ K = 4) : ∀ (f : Nat) {ys : List Int} {out : List (Int × List Int)}, byteL ys → readS K f ys = some out → out.flatMap (kForm K) = ys
  | 0, ys, out, _, h => by simp [readS] at h
  | f + 1, ys, out, hb, h => by
    rw [readS] at h
    split at h
    · rename_i e
      cases h
      rw [e]; rfl
    · split at h
      · rename_i ho
        obtain ⟨o2, h2, rfl⟩ := Option.map_eq_some_iff.1 h
        have ih := readS_form hK f (ys := restS K ys) (by unfold restS; exact hb.drop _) h2
        rw [List.flatMap_cons, ih]
        exact segS_form hK hb ho
      · cases h
theorem big_lt2 {zs : List Int} (h : byteL zs) : big (zs.take 2) ≤ 65535 := by
  match zs with
  | [] => decide
  | [a] => have := h a (by simp); simp [big]; omega
  | a :: b :: r => have h1 := h a (by simp); have h2 := h b (by simp); simp [big]; omega
theorem nums_le2 {n : Nat} {zs : List Int} (h : byteL zs) : ∀ x ∈ nums 2 n zs, x ≤ 65535 := by
  intro x hx
  unfold nums at hx
  obtain ⟨i, _, rfl⟩ := List.mem_map.1 hx
  exact big_lt2 (h.drop _)
theorem nums_range {K n : Nat} (hK : K ≤ 4) {zs : List Int} (h : byteL zs) : ∀ x ∈ nums K n zs, 0 ≤ x ∧ x < 4294967296 := by
  intro x hx
  unfold nums at hx
  obtain ⟨i, _, rfl⟩ := List.mem_map.1 hx
  have hr := big_range _ ((zs.drop (i * K)).take K) rfl (fun x hx => h x (List.mem_of_mem_drop (List.mem_of_mem_take hx)))
  have hl : ((zs.drop (i * K)).take K).length ≤ 4 := by rw [List.length_take]; omega
  generalize ((zs.drop (i * K)).take K).length = l at hr hl
  match l, hl with
  | 0, _ => simp at hr; omega
  | 1, _ => simp at hr; omega
  | 2, _ => simp at hr; omega
  | 3, _ => simp at hr; omega
  | 4, _ => simp at hr; omega
/-- What is so of segments that were read. -/
def kGood (wd : Int) (p : Int × List Int) : Prop := (p.1 = 1 ∨ p.1 = 2) ∧ 1 ≤ p.2.length ∧ p.2.length ≤ 255 ∧ (wd = 2 → ∀ x ∈ p.2, x ≤ 65535)
theorem segS_good {wd : Int} {ys : List Int} (h : byteL ys) (ho : okS wd.toNat ys = true) : kGood wd (segS wd.toNat ys) := by
  unfold okS at ho
  have h2 := of_decide_eq_true ho
  have hb := nth_byte h (k := 1) (by omega)
  refine ⟨h2.2.1, ?_, ?_, ?_⟩
  · unfold segS; rw [nums_len]; omega
  · unfold segS; rw [nums_len]; omega
  · rintro rfl
    exact nums_le2 (h.drop 2)
theorem readS_good {wd : Int} : ∀ (f : Nat) {ys : List Int} {out : List (Int × List Int)}, byteL ys → readS wd.toNat f ys = some out → ∀ p ∈ out, kGood wd p
  | 0, ys, out, _, h => by simp [readS] at h
  | f + 1, ys, out, hb, h => by
    rw [readS] at h
    split at h
    · cases h
      intro p hp
      cases hp
    · split at h
      · rename_i ho
        obtain ⟨o2, h2, rfl⟩ := Option.map_eq_some_iff.1 h
        intro p hp
        rcases List.mem_cons.1 hp with rfl | hp
        · exact segS_good hb ho
        · exact readS_good f (ys := restS wd.toNat ys) (by unfold restS; exact hb.drop _) h2 p hp
      · cases h
theorem sgsForm_k {K : Nat} : ∀ {L : List Sg}, (∀ s ∈ L, s.n = s.xs.length) → sgsForm K L = (L.map sgK).flatMap (kForm K)
  | [], _ => rfl
  | s :: L, h => by
    have ih := sgsForm_k (K := K) (L := L) (fun z hz => h z (List.mem_cons_of_mem _ hz))
    unfold sgsForm at ih ⊢
    rw [List.flatMap_cons, List.map_cons, List.flatMap_cons, ih]
    unfold sgForm kForm sgK
    rw [h s List.mem_cons_self]
theorem ok_of_good {wd : Int} {L : List Sg} (hx : ∀ s ∈ L, s.n = s.xs.length) (h : ∀ p ∈ L.map sgK, kGood wd p) : L.all (sgOk wd) = true := by
  rw [List.all_eq_true]
  intro s hs
  have := h _ (List.mem_map_of_mem hs)
  obtain ⟨h1, h2, h3, h4⟩ := this
  exact sgOk_iff.2 ⟨⟨h1, by rw [hx s hs]; exact h2, by rw [hx s hs]; exact h3⟩, h4⟩
end Go.Proofs.YtecbbjdcnlocdaaDoor

/- Forms and texts tell segments apart -/
import Derived.Test.YtecbbjdcnlocdaaDoorSgC
import Derived.Test.YtecbbjdcnlocdaaDoorSgD
import Derived.Test.YtecbbjdcnlocdaaDoorDecL
namespace Go.Proofs.YtecbbjdcnlocdaaDoor
open Go.RowKit Go.Sort

theorem big2S {x y : Int} (h : digitsOf 2 x = digitsOf 2 y) (h0 : 0 ≤ x) (h1 : x < 65536) (h2 : 0 ≤ y) (h3 : y < 65536) : x = y := by
  rw [digitsOf_2, digitsOf_2] at h
  simp only [List.cons.injEq] at h
  omega
theorem big4S {x y : Int} (h : digitsOf 4 x = digitsOf 4 y) (h0 : 0 ≤ x) (h1 : x < 4294967296) (h2 : 0 ≤ y) (h3 : y < 4294967296) : x = y := by
  rw [digitsOf_4, digitsOf_4] at h
  simp only [List.cons.injEq] at h
  omega
theorem digs_inj : ∀ {xs ys : List Int}, (∀ x ∈ xs, 0 ≤ x ∧ x < 4294967296) → (∀ x ∈ ys, 0 ≤ x ∧ x < 4294967296) → xs.length = ys.length → xs.flatMap (digitsOf 4) = ys.flatMap (digitsOf 4) → xs = ys
  | [], [], _, _, _, _ => rfl
  | [], _ :: _, _, _, h, _ => by simp at h
  | _ :: _, [], _, _, h, _ => by simp at h
  | x :: xs, y :: ys, hx, hy, hl, h => by
    rw [List.flatMap_cons, List.flatMap_cons] at h
    obtain ⟨e1, e2⟩ := List.append_inj h (by rw [digitsOf_len, digitsOf_len])
    have a := hx x List.mem_cons_self
    have b := hy y List.mem_cons_self
    rw [big4S e1 a.1 a.2 b.1 b.2, digs_inj (fun z hz => hx z (List.mem_cons_of_mem _ hz)) (fun z hz => hy z (List.mem_cons_of_mem _ hz)) (by simpa using hl) e2]
/-- What the mathematics asks of a segment. -/
def sgGood (s : Sg) : Prop := (s.k = 1 ∨ s.k = 2) ∧ 1 ≤ s.n ∧ s.n = s.xs.length ∧ ∀ x ∈ s.xs, 0 ≤ x ∧ x < 4294967296
theorem sgsForm_inj : ∀ {ss ts : List Sg}, (∀ s ∈ ss, sgGood s) → (∀ s ∈ ts, sgGood s) → sgsForm 4 ss = sgsForm 4 ts → ss.map sgK = ts.map sgK
  | [], [], _, _, _ => rfl
  | [], t :: ts, _, _, h => by simp [sgsForm, sgForm] at h
  | s :: ss, [], _, _, h => by simp [sgsForm, sgForm] at h
  | s :: ss, t :: ts, hs, ht, h => by
    obtain ⟨_, _, g3, g4⟩ := hs s List.mem_cons_self
    obtain ⟨_, _, k3, k4⟩ := ht t List.mem_cons_self
    have ih := sgsForm_inj (ss := ss) (ts := ts) (fun z hz => hs z (List.mem_cons_of_mem _ hz)) (fun z hz => ht z (List.mem_cons_of_mem _ hz))
    unfold sgsForm at h ih
    rw [List.flatMap_cons, List.flatMap_cons] at h
    unfold sgForm at h
    simp only [List.cons_append, List.nil_append, List.cons.injEq] at h
    obtain ⟨e1, e2, h⟩ := h
    have e2 : s.n = t.n := by omega
    obtain ⟨e3, e4⟩ := List.append_inj h (by rw [digs_len, digs_len]; omega)
    have e5 := digs_inj g4 k4 (by omega) e3
    rw [List.map_cons, List.map_cons, ih e4]
    unfold sgK
    rw [e1, e5]
theorem sgK_form {s t : Sg} (h : sgK s = sgK t) (hs : s.n = s.xs.length) (ht : t.n = t.xs.length) : sgForm 4 s = sgForm 4 t := by
  unfold sgK at h
  simp only [Prod.mk.injEq] at h
  unfold sgForm
  rw [hs, ht, h.1, h.2]
theorem sgsForm_eq : ∀ {ss ts : List Sg}, (∀ s ∈ ss, s.n = s.xs.length) → (∀ s ∈ ts, s.n = s.xs.length) → ss.map sgK = ts.map sgK → sgsForm 4 ss = sgsForm 4 ts
  | [], [], _, _, _ => rfl
  | [], t :: ts, _, _, h => by simp at h
  | s :: ss, [], _, _, h => by simp at h
  | s :: ss, t :: ts, hs, ht, h => by
    rw [List.map_cons, List.map_cons, List.cons.injEq] at h
    have ih := sgsForm_eq (ss := ss) (ts := ts) (fun z hz => hs z (List.mem_cons_of_mem _ hz)) (fun z hz => ht z (List.mem_cons_of_mem _ hz)) h.2
    unfold sgsForm at ih ⊢
    rw [List.flatMap_cons, List.flatMap_cons, sgK_form h.1 (hs s List.mem_cons_self) (ht t List.mem_cons_self), ih]
theorem sgsTxt_eq {ss ts : List Sg} (h : ss.map sgK = ts.map sgK) : sgsTxt ss = sgsTxt ts := by
  have e : ∀ l : List Sg, l.map sgTxt = (l.map sgK).map (fun p => if p.1 = 1 then ⟨#[123]⟩ ++ segJ p.2 ++ ⟨#[125]⟩ else ⟨#[91]⟩ ++ segJ p.2 ++ ⟨#[93]⟩) := fun l => by
    rw [List.map_map]; rfl
  unfold sgsTxt
  rw [e, e, h]
/-- Numbers with a space in front of each. -/
def numTail (xs : List Nat) : List UInt8 := (xs.map fun x => (32 : UInt8) :: Lib.decDigits x).flatten
theorem nums_inj : ∀ {xs ys : List Nat} {x y : Nat}, Lib.decDigits x ++ numTail xs = Lib.decDigits y ++ numTail ys → x = y ∧ xs = ys
  | [], [], x, y, h => by
    simp [numTail] at h
    exact ⟨dec_inj h, rfl⟩
  | [], b :: ys, x, y, h => by
    exfalso
    simp [numTail] at h
    exact dec_free (x := 32) (by decide) x (by rw [h]; simp)
  | a :: xs, [], x, y, h => by
    exfalso
    simp [numTail] at h
    exact dec_free (x := 32) (by decide) y (by rw [← h]; simp)
  | a :: xs, b :: ys, x, y, h => by
    unfold numTail at h
    simp only [List.map_cons, List.flatten_cons, List.cons_append] at h
    obtain ⟨e1, e2⟩ := split_first h (dec_free (by decide) _) (dec_free (by decide) _)
    obtain ⟨rfl, rfl⟩ := nums_inj (xs := xs) (ys := ys) e2
    exact ⟨dec_inj e1, rfl⟩
theorem numTail_free {c : UInt8} (hc : (c.toNat < 48 ∨ 57 < c.toNat) ∧ c ≠ 32) : ∀ xs : List Nat, c ∉ numTail xs
  | [] => by simp [numTail]
  | x :: xs => by
    have ih := numTail_free hc xs
    unfold numTail at ih ⊢
    rw [List.map_cons, List.flatten_cons, List.cons_append, List.mem_cons, List.mem_append]
    rintro (h | h | h)
    · exact hc.2 h
    · exact dec_free hc.1 _ h
    · exact ih h
theorem segJ_list {x : Int} {xs : List Int} : (segJ (x :: xs)).data.toList = Lib.decDigits x.toNat ++ numTail (xs.map Int.toNat) := by
  unfold segJ joinB
  simp only [List.map_cons, Lib.join_cons, Lib.joinTail]
  have e1 : (decB x).data.toList = Lib.decDigits x.toNat := by simp [decB]
  rw [e1]
  unfold numTail
  simp [decB, Function.comp_def]
theorem toNat_map_inj : ∀ {xs ys : List Int}, (∀ x ∈ xs, 0 ≤ x) → (∀ x ∈ ys, 0 ≤ x) → xs.map Int.toNat = ys.map Int.toNat → xs = ys
  | [], [], _, _, _ => rfl
  | [], _ :: _, _, _, h => by simp at h
  | _ :: _, [], _, _, h => by simp at h
  | x :: xs, y :: ys, hx, hy, h => by
    rw [List.map_cons, List.map_cons, List.cons.injEq] at h
    rw [toNat_map_inj (fun z hz => hx z (List.mem_cons_of_mem _ hz)) (fun z hz => hy z (List.mem_cons_of_mem _ hz)) h.2]
    have a := hx x List.mem_cons_self
    have b := hy y List.mem_cons_self
    have : x = y := by omega
    rw [this]
theorem segJ_inj {xs ys : List Int} (hx : ∀ x ∈ xs, 0 ≤ x) (hy : ∀ x ∈ ys, 0 ≤ x) (h1 : xs ≠ []) (h2 : ys ≠ []) (h : (segJ xs).data.toList = (segJ ys).data.toList) : xs = ys := by
  match xs, ys with
  | [], _ => exact absurd rfl h1
  | _ :: _, [] => exact absurd rfl h2
  | x :: xs, y :: ys =>
    rw [segJ_list, segJ_list] at h
    obtain ⟨e1, e2⟩ := nums_inj h
    exact toNat_map_inj hx hy (by rw [List.map_cons, List.map_cons, e1, e2])
theorem segJ_free {c : UInt8} (hc : (c.toNat < 48 ∨ 57 < c.toNat) ∧ c ≠ 32) {xs : List Int} (h1 : xs ≠ []) : c ∉ (segJ xs).data.toList := by
  match xs with
  | [] => exact absurd rfl h1
  | x :: xs =>
    rw [segJ_list, List.mem_append]
    rintro (h | h)
    · exact dec_free hc.1 _ h
    · exact numTail_free hc _ h
theorem sgTxt_list (s : Sg) : (sgTxt s).data.toList = if s.k = 1 then 123 :: ((segJ s.xs).data.toList ++ 125 :: []) else 91 :: ((segJ s.xs).data.toList ++ 93 :: []) := by
  unfold sgTxt
  split
  · simp
  · simp
/-- Texts with a space in front of each. -/
def segTail (ss : List Sg) : List UInt8 := (ss.map fun s => (32 : UInt8) :: (sgTxt s).data.toList).flatten
theorem sgsTxt_list {s : Sg} {ss : List Sg} : (sgsTxt (s :: ss)).data.toList = (sgTxt s).data.toList ++ segTail ss := by
  unfold sgsTxt joinB
  simp only [List.map_cons, Lib.join_cons, Lib.joinTail]
  unfold segTail
  simp [Function.comp_def]
theorem one_inj {s t : Sg} {a b : List UInt8} (hs : sgGood s) (ht : sgGood t) (h : (sgTxt s).data.toList ++ a = (sgTxt t).data.toList ++ b) : sgK s = sgK t ∧ a = b := by
  obtain ⟨g1, g2, g3, g4⟩ := hs
  obtain ⟨k1, k2, k3, k4⟩ := ht
  have hx : s.xs ≠ [] := by intro e; rw [e] at g3; simp at g3; omega
  have hy : t.xs ≠ [] := by intro e; rw [e] at k3; simp at k3; omega
  rw [sgTxt_list, sgTxt_list] at h
  rcases g1 with e1 | e1 <;> rcases k1 with e2 | e2
  · rw [if_pos e1, if_pos e2] at h
    simp only [List.cons_append, List.append_assoc, List.cons.injEq, true_and, List.nil_append] at h
    obtain ⟨h1, h2⟩ := split_first h (segJ_free (by decide) hx) (segJ_free (by decide) hy)
    exact ⟨by unfold sgK; rw [e1, e2, segJ_inj (fun x m => (g4 x m).1) (fun x m => (k4 x m).1) hx hy h1], h2⟩
  · rw [if_pos e1, if_neg (by omega)] at h
    simp at h
  · rw [if_neg (by omega), if_pos e2] at h
    simp at h
  · rw [if_neg (by omega), if_neg (by omega)] at h
    simp only [List.cons_append, List.append_assoc, List.cons.injEq, true_and, List.nil_append] at h
    obtain ⟨h1, h2⟩ := split_first h (segJ_free (by decide) hx) (segJ_free (by decide) hy)
    exact ⟨by unfold sgK; rw [e1, e2, segJ_inj (fun x m => (g4 x m).1) (fun x m => (k4 x m).1) hx hy h1], h2⟩
theorem segTail_inj : ∀ {ss ts : List Sg}, (∀ s ∈ ss, sgGood s) → (∀ s ∈ ts, sgGood s) → segTail ss = segTail ts → ss.map sgK = ts.map sgK
  | [], [], _, _, _ => rfl
  | [], t :: ts, _, _, h => by simp [segTail] at h
  | s :: ss, [], _, _, h => by simp [segTail] at h
  | s :: ss, t :: ts, hs, ht, h => by
    have ih := segTail_inj (ss := ss) (ts := ts) (fun z hz => hs z (List.mem_cons_of_mem _ hz)) (fun z hz => ht z (List.mem_cons_of_mem _ hz))
    unfold segTail at h ih
    simp only [List.map_cons, List.flatten_cons, List.cons_append, List.cons.injEq, true_and] at h
    obtain ⟨e1, e2⟩ := one_inj (hs s List.mem_cons_self) (ht t List.mem_cons_self) h
    rw [List.map_cons, List.map_cons, e1, ih e2]
theorem sgTxt_ne (s : Sg) : (sgTxt s).data.toList ≠ [] := by
  rw [sgTxt_list]
  split <;> simp
theorem sgsTxt_inj {ss ts : List Sg} (hs : ∀ s ∈ ss, sgGood s) (ht : ∀ s ∈ ts, sgGood s) (h : sgsTxt ss = sgsTxt ts) : ss.map sgK = ts.map sgK := by
  have e := congrArg (fun s : ByteArray => s.data.toList) h
  match ss, ts with
  | [], [] => rfl
  | [], t :: ts =>
    exfalso
    simp only [sgsTxt_list] at e
    have : (sgTxt t).data.toList = [] := by
      have h3 : (sgsTxt []).data.toList = [] := rfl
      rw [h3] at e
      exact (List.append_eq_nil_iff.1 e.symm).1
    exact sgTxt_ne t this
  | s :: ss, [] =>
    exfalso
    simp only [sgsTxt_list] at e
    have : (sgTxt s).data.toList = [] := by
      have h3 : (sgsTxt []).data.toList = [] := rfl
      rw [h3] at e
      exact (List.append_eq_nil_iff.1 e).1
    exact sgTxt_ne s this
  | s :: ss, t :: ts =>
    simp only [sgsTxt_list] at e
    obtain ⟨e1, e2⟩ := one_inj (hs s List.mem_cons_self) (ht t List.mem_cons_self) e
    have := segTail_inj (fun z hz => hs z (List.mem_cons_of_mem _ hz)) (fun z hz => ht z (List.mem_cons_of_mem _ hz)) e2
    rw [List.map_cons, List.map_cons, e1, this]
end Go.Proofs.YtecbbjdcnlocdaaDoor

/- capability: what some bytes are read to, without memory -/
import Derived.Test.YtniheakafkakhaaDoorCpA
namespace Go.Proofs.YtniheakafkakhaaDoor
open Go.RowKit

def cpOk (s : Cp) : Bool := decide (0 ≤ s.k ∧ s.k ≤ 255 ∧ s.n ≤ 255)
def cpForm (s : Cp) : List Int := s.k :: (s.n : Int) :: s.xs
def cpsForm (ss : List Cp) : List Int := ss.flatMap cpForm
def kFormC (p : Int × List Int) : List Int := p.1 :: (p.2.length : Int) :: p.2
def okC (ys : List Int) : Bool := decide (2 ≤ ys.length ∧ 2 + (nth ys 1).toNat ≤ ys.length)
def segC (ys : List Int) : Int × List Int := (nth ys 0, (ys.drop 2).take (nth ys 1).toNat)
def restC (ys : List Int) : List Int := ys.drop (2 + (nth ys 1).toNat)
def readC : Nat → List Int → Option (List (Int × List Int))
  | 0, _ => none
  | f + 1, ys => if ys = [] then some [] else if okC ys = true then (readC f (restC ys)).map (segC ys :: ·) else none
/-- How far a read has come: out is read, ys is left. -/
def ComeC (xs : List Int) (out : List (Int × List Int)) (ys : List Int) : Prop := ∃ f, ys.length < f ∧ readC (xs.length + 1) xs = (readC f ys).map (out ++ ·)
theorem ComeC.start (xs : List Int) : ComeC xs [] xs := ⟨xs.length + 1, by omega, by cases readC (xs.length + 1) xs <;> simp⟩
theorem ComeC.step {xs ys : List Int} {out : List (Int × List Int)} (h : ComeC xs out ys) (hn : ys ≠ []) (ho : okC ys = true) : ComeC xs (out ++ [segC ys]) (restC ys) := by
  obtain ⟨f, hf, he⟩ := h
  have h2 := ho
  unfold okC at h2
  have h2 := of_decide_eq_true h2
  cases f with
  | zero => omega
  | succ f =>
    refine ⟨f, ?_, ?_⟩
    · unfold restC
      rw [List.length_drop]
      omega
    · rw [he]
      rw [readC]
      rw [if_neg hn, if_pos ho]
      cases readC f (restC ys) <;> simp
theorem ComeC.done {xs : List Int} {out : List (Int × List Int)} (h : ComeC xs out []) : readC (xs.length + 1) xs = some out := by
  obtain ⟨f, hf, he⟩ := h
  cases f with
  | zero => simp at hf
  | succ f => rw [he]; simp [readC]
theorem ComeC.fail {xs ys : List Int} {out : List (Int × List Int)} (h : ComeC xs out ys) (hn : ys ≠ []) (ho : okC ys = false) : readC (xs.length + 1) xs = none := by
  obtain ⟨f, hf, he⟩ := h
  cases f with
  | zero => omega
  | succ f =>
    rw [he]
    rw [readC]
    rw [if_neg hn, if_neg (by rw [ho]; simp)]
    rfl
def byteC (ys : List Int) : Prop := ∀ y ∈ ys, 0 ≤ y ∧ y ≤ 255
theorem byteC.drop {ys : List Int} (h : byteC ys) (k : Nat) : byteC (ys.drop k) := fun y hy => h y (List.mem_of_mem_drop hy)
theorem nth_byteC {ys : List Int} (h : byteC ys) {k : Nat} (hk : k < ys.length) : 0 ≤ nth ys k ∧ nth ys k ≤ 255 := h _ (nth_mem hk)
theorem okC_len {ys : List Int} (ho : okC ys = true) : 2 ≤ ys.length ∧ 2 + (nth ys 1).toNat ≤ ys.length := by
  unfold okC at ho
  exact of_decide_eq_true ho
theorem restC_lt {ys : List Int} (h : okC ys = true) : (restC ys).length + 2 ≤ ys.length := by
  have h2 := okC_len h
  unfold restC
  rw [List.length_drop]
  omega
theorem segC_form {ys : List Int} (h : byteC ys) (ho : okC ys = true) : kFormC (segC ys) ++ restC ys = ys := by
  have h2 := okC_len ho
  have hb := nth_byteC h (k := 1) (by omega)
  unfold kFormC segC restC
  dsimp only
  rw [List.length_take, List.length_drop, Nat.min_eq_left (by omega), Int.toNat_of_nonneg hb.1, ← List.drop_drop]
  match ys, h2 with
  | a :: b :: r, _ =>
    show a :: b :: (r.take _ ++ r.drop _) = a :: b :: r
    rw [List.take_append_drop]
theorem readC_form : ∀ (f : Nat) {ys : List Int} {out : List (Int × List Int)}, byteC ys → readC f ys = some out → out.flatMap kFormC = ys
  | 0, ys, out, _, h => by simp [readC] at h
  | f + 1, ys, out, hb, h => by
    rw [readC] at h
    split at h
    · rename_i e
      cases h
      rw [e]; rfl
    · split at h
      · rename_i ho
        obtain ⟨o2, h2, rfl⟩ := Option.map_eq_some_iff.1 h
        have ih := readC_form f (ys := restC ys) (by unfold restC; exact hb.drop _) h2
        rw [List.flatMap_cons, ih]
        exact segC_form hb ho
      · cases h
def goodC (p : Int × List Int) : Prop := 0 ≤ p.1 ∧ p.1 ≤ 255 ∧ p.2.length ≤ 255
theorem segC_good {ys : List Int} (h : byteC ys) (ho : okC ys = true) : goodC (segC ys) := by
  have h2 := okC_len ho
  have hb := nth_byteC h (k := 1) (by omega)
  have ha := nth_byteC h (k := 0) (by omega)
  refine ⟨ha.1, ha.2, ?_⟩
  unfold segC
  rw [List.length_take]
  omega
theorem readC_good : ∀ (f : Nat) {ys : List Int} {out : List (Int × List Int)}, byteC ys → readC f ys = some out → ∀ p ∈ out, goodC p
  | 0, ys, out, _, h => by simp [readC] at h
  | f + 1, ys, out, hb, h => by
    rw [readC] at h
    split at h
    · cases h
      intro p hp
      cases hp
    · split at h
      · rename_i ho
        obtain ⟨o2, h2, rfl⟩ := Option.map_eq_some_iff.1 h
        intro p hp
        rcases List.mem_cons.1 hp with rfl | hp
        · exact segC_good hb ho
        · exact readC_good f (ys := restC ys) (by unfold restC; exact hb.drop _) h2 p hp
      · cases h
theorem readC_inv : ∀ (out : List (Int × List Int)) (f : Nat), (out.flatMap kFormC).length < f → (∀ p ∈ out, goodC p) → readC f (out.flatMap kFormC) = some out
  | [], f, hf, _ => by
    cases f with
    | zero => simp at hf
    | succ f => simp [readC]
  | p :: t, f, hf, hg => by
    have ep : (p :: t).flatMap kFormC = p.1 :: (p.2.length : Int) :: (p.2 ++ t.flatMap kFormC) := by rw [List.flatMap_cons]; rfl
    rw [ep] at hf ⊢
    cases f with
    | zero => simp at hf
    | succ f =>
      rw [readC, if_neg (by simp)]
      have h1 : nth (p.1 :: (p.2.length : Int) :: (p.2 ++ t.flatMap kFormC)) 1 = (p.2.length : Int) := rfl
      have ho : okC (p.1 :: (p.2.length : Int) :: (p.2 ++ t.flatMap kFormC)) = true := by
        unfold okC
        rw [decide_eq_true_iff, h1]
        simp
        omega
      have hr : restC (p.1 :: (p.2.length : Int) :: (p.2 ++ t.flatMap kFormC)) = t.flatMap kFormC := by
        unfold restC
        rw [h1, Int.toNat_natCast, ← List.drop_drop]
        show (p.2 ++ t.flatMap kFormC).drop p.2.length = _
        simp
      have hs : segC (p.1 :: (p.2.length : Int) :: (p.2 ++ t.flatMap kFormC)) = p := by
        unfold segC
        rw [h1, Int.toNat_natCast]
        show (p.1, (p.2 ++ t.flatMap kFormC).take p.2.length) = p
        simp
      rw [if_pos ho, hr, hs, readC_inv t f (by simp at hf ⊢; omega) (fun q hq => hg q (List.mem_cons_of_mem _ hq))]
      rfl
theorem cpsForm_k : ∀ {L : List Cp}, (∀ s ∈ L, s.n = s.xs.length) → cpsForm L = (L.map cpK).flatMap kFormC
  | [], _ => rfl
  | s :: L, h => by
    have ih := cpsForm_k (L := L) (fun z hz => h z (List.mem_cons_of_mem _ hz))
    unfold cpsForm at ih ⊢
    rw [List.flatMap_cons, List.map_cons, List.flatMap_cons, ih]
    unfold cpForm kFormC cpK
    rw [h s List.mem_cons_self]
theorem cpOk_iff {s : Cp} : cpOk s = true ↔ 0 ≤ s.k ∧ s.k ≤ 255 ∧ s.n ≤ 255 := by unfold cpOk; exact decide_eq_true_iff
theorem ok_of_goodC {L : List Cp} (hx : ∀ s ∈ L, s.n = s.xs.length) (h : ∀ p ∈ L.map cpK, goodC p) : L.all cpOk = true := by
  rw [List.all_eq_true]
  intro s hs
  obtain ⟨h1, h2, h3⟩ := h _ (List.mem_map_of_mem hs)
  exact cpOk_iff.2 ⟨h1, h2, by rw [hx s hs]; exact h3⟩
theorem good_of_ok {L : List Cp} (hx : ∀ s ∈ L, s.n = s.xs.length) (h : L.all cpOk = true) : ∀ p ∈ L.map cpK, goodC p := by
  intro p hp
  obtain ⟨s, hs, rfl⟩ := List.mem_map.1 hp
  obtain ⟨h1, h2, h3⟩ := cpOk_iff.1 (List.all_eq_true.1 h s hs)
  exact ⟨h1, h2, by show s.xs.length ≤ 255; rw [← hx s hs]; exact h3⟩
end Go.Proofs.YtniheakafkakhaaDoor

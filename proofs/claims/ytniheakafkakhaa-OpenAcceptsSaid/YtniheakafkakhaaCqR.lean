/- peerageref16.Family, Mode -/
import Derived.Test.YtniheakafkakhaaCqF
namespace Go.Proofs.Ytniheakafkakhaa
open Go.RowKit Go.Sort

theorem quads_any_at {code : Int} {ss : List Cp} {j : Nat} {p : Q4 → Bool} (h : j < ss.length) (hp : (quadsK code (cpK (cpth ss j))).any p = true) : (quads code (ss.map cpK)).any p = true := by
  have e : ss.map cpK = (ss.take (j + 1)).map cpK ++ (ss.drop (j + 1)).map cpK := by rw [← List.map_append, List.take_append_drop]
  have e2 : quads code (ss.map cpK) = quads code ((ss.take (j + 1)).map cpK) ++ quads code ((ss.drop (j + 1)).map cpK) := by rw [e]; unfold quads; rw [List.flatMap_append]
  rw [e2, quads_take h, List.any_append, List.any_append, hp]
  simp
theorem big_pair (a b : Int) : big [a, b] = a * 256 + b := by simp [big]
theorem four_of {xs : List Int} (h : xs.length = 4) : ∃ a b c d, xs = [a, b, c, d] := by
  match xs, h with
  | [a, b, c, d], _ => exact ⟨a, b, c, d, rfl⟩
theorem famP {k : Int} {xs : List Int} (hr : ∀ x ∈ xs, 0 ≤ x ∧ x ≤ 255) (f : Int) : (quadsK 1 (k, xs)).any (fun q => decide (famF q = f)) = (decide (k = 1) && (decide (xs.length = 4) && decide (famOf (big (xs.take 2)) (nth xs 3) = f))) := by
  by_cases h1 : k = 1
  · by_cases h2 : xs.length = 4
    · rw [quadsK_yes ⟨h1, by rw [h2], fun _ => h2⟩, decide_eq_true h1, decide_eq_true h2]
      obtain ⟨a, b, c, d, rfl⟩ := four_of h2
      have ha := by8_eq (hr a (by simp))
      have hb := by8_eq (hr b (by simp))
      have hd := by8_eq (hr d (by simp))
      have e : q4s [a, b, c, d] (([a, b, c, d] : List Int).length / 4) = [q4 [a, b, c, d] 0] := by rw [h2]; rfl
      show (q4s [a, b, c, d] (([a, b, c, d] : List Int).length / 4)).any _ = _
      rw [e]
      have e2 : famF (q4 [a, b, c, d] 0) = famOf (a * 256 + b) d := by
        show famOf (by8 (nth [a, b, c, d] 0) * 256 + by8 (nth [a, b, c, d] 1)) (by8 (nth [a, b, c, d] 3)) = _
        rw [show nth [a, b, c, d] 0 = a from rfl, show nth [a, b, c, d] 1 = b from rfl, show nth [a, b, c, d] 3 = d from rfl, ha, hb, hd]
      rw [List.any_cons, List.any_nil, e2, show ([a, b, c, d] : List Int).take 2 = [a, b] from rfl, big_pair, show nth [a, b, c, d] 3 = d from rfl]
      simp
    · rw [quadsK_no (fun h => h2 (h.2.2 rfl)), decide_eq_false h2]
      simp
  · rw [quadsK_no (fun h => h1 h.1), decide_eq_false h1]
    simp
theorem bytes_mid {w : World} {B n b o : Nat} {xs : List Int} (h : Bytes w B (some ⟨b, o, none⟩) n xs) {p g : Nat} (hp : p + g ≤ n) : Bytes w B (some ⟨b, o + p, none⟩) g ((xs.drop p).take g) := by
  refine ⟨by have := h.1; simp; omega, fun x hx => h.2.1 x (List.mem_of_mem_drop (List.mem_of_mem_take hx)), ?_⟩
  rcases h.2.2 with h0 | ⟨b', o', e, hb, hc⟩
  · left
    rw [List.map_eq_nil_iff] at h0 ⊢
    subst h0
    simp
  · right
    have hpart := bytes_part (p := p) (g := g) h
    cases e
    exact ⟨b, o + p, rfl, hb, fun i v hv => by
      have := hpart i v hv
      rwa [Addr.add_lit] at this⟩
theorem famM_at {xs : List Int} {k : Nat} (hk : k * 4 + 4 ≤ xs.length) (hr : ∀ x ∈ xs, 0 ≤ x ∧ x ≤ 255) : famM (q4 xs k) = famOf (big ((xs.drop (k * 4)).take 2)) (nth xs (k * 4 + 2)) ∧ (q4 xs k).d = nth xs (k * 4 + 3) := by
  have h0 := by8_eq (hr _ (nth_mem (k := k * 4) (by omega)))
  have h1 := by8_eq (hr _ (nth_mem (k := k * 4 + 1) (by omega)))
  have h2 := by8_eq (hr _ (nth_mem (k := k * 4 + 2) (by omega)))
  have h3 := by8_eq (hr _ (nth_mem (k := k * 4 + 3) (by omega)))
  refine ⟨?_, h3⟩
  rw [drop_nth (by omega), drop_nth (by omega)]
  show famOf (by8 _ * 256 + by8 _) (by8 _) = famOf (big [_, _]) _
  rw [h0, h1, h2, big_pair]
theorem big_two2 {a b : Int} (ha : 0 ≤ a ∧ a ≤ 255) (hb : 0 ≤ b ∧ b ≤ 255) : 0 ≤ big [a, b] ∧ big [a, b] < 4294967296 := by rw [big_pair]; omega
theorem big_lt4 {xs : List Int} (hl : xs.length = 2) (hr : ∀ x ∈ xs, 0 ≤ x ∧ x ≤ 255) : 0 ≤ big xs ∧ big xs < 4294967296 := by
  match xs, hl with
  | [a, b], _ => exact big_two2 (hr a (by simp)) (hr b (by simp))
theorem modStep_yes {f m : Int} {q : Q4} (h1 : famM q = f) (h2 : 1 ≤ q.d) (h3 : q.d ≤ 3) : modStep f m q = q.d := if_pos ⟨h1, h2, h3⟩
theorem modStep_no {f m : Int} {q : Q4} (h : ¬ (famM q = f ∧ 1 ≤ q.d ∧ q.d ≤ 3)) : modStep f m q = m := if_neg h
theorem ret_intC {a b : Int} (h : a = b) : Ending.returned (.int .i64 a) = Ending.returned (.int .i64 b) := by rw [h]
end Go.Proofs.Ytniheakafkakhaa

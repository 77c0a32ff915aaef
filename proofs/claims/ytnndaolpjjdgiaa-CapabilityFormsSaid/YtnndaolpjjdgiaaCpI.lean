/- capability: alive; CapabilityReads: the walk -/
import Derived.Test.YtnndaolpjjdgiaaCpD
import Derived.Test.YtnndaolpjjdgiaaCpH
namespace Go.Proofs.Ytnndaolpjjdgiaa
open Go.RowKit

set_option maxRecDepth 100000 in
set_option maxHeartbeats 1600000 in
theorem alive16_any (w : World) : Calls Try.prog 7 #[] w fun e w' => e = .returned (.bool true) ∧ Below w.heap.size w w' := by
  have o1 := Own.new w 42 #[.int .i64 2, .slice none 0 0]
  have hb1 := bl_alloc (bl_refl w) (.cells #[.int .i64 2, .slice none 0 0] 42)
  have hcaps : Caps (w.alloc (.cells #[.int .i64 2, .slice none 0 0] 42)) (w.alloc (.cells #[.int .i64 2, .slice none 0 0] 42)).heap.size (some ⟨w.heap.size, 0, none⟩) 1 [⟨2, none, 0, 0, []⟩] :=
    ⟨rfl, (fun s hs => by
      rw [List.mem_singleton] at hs
      subst hs
      exact ⟨Bytes.nil _ _ _, Nat.le_refl _, show 0 ≤ maxLen by unfold maxLen; omega⟩), .inr ⟨w.heap.size, 0, rfl, o1.lt, fun i s hi => by
      rcases i with _ | i
      · cases hi
        exact ⟨o1.cell (i := 0) rfl, o1.cell (i := 1) rfl⟩
      · simp at hi⟩⟩
  have HC := Lib.hid (cbytes_any (some ⟨w.heap.size, 0, none⟩) 1 1 _ _ hcaps (by omega) (by simp))
  clear o1 hcaps
  go_enter Try.func7, Try.ntmps7
  go_wp2_with fail
  refine HC.out.mono ?_
  rintro e w2 ⟨A', n', c', rfl, hB, hc, hb2⟩
  have e1 : ([⟨2, none, 0, 0, []⟩] : List Cp).all cpOk = true := by decide
  rw [if_pos e1] at hB
  have hB : Bytes w2 w2.heap.size A' n' [2, 0] := hB
  obtain rfl : n' = 2 := hB.1
  obtain ⟨b, o, rfl, hlt, h0, _, _⟩ := hB.at_ (k := 0) (by omega)
  obtain ⟨b', o', hA, _, h1, _, _⟩ := hB.at_ (k := 1) (by omega)
  cases hA
  have h0 : w2.cell? ⟨b, o, none⟩ = some (.int .u8 2) := h0
  have h1 : w2.cell? ⟨b, o + 1, none⟩ = some (.int .u8 0) := h1
  have hb3 := bl_trans hb1 hb2
  rw [e1]
  clear hB
  go_wp2
  go_ret
  exact ⟨rfl, hb3⟩
theorem kForm_len (out : List (Int × List Int)) : 2 * out.length ≤ (out.flatMap kFormC).length := by
  induction out with
  | nil => simp
  | cons p t ih =>
    rw [List.flatMap_cons, List.length_append, List.length_cons]
    have e : (kFormC p).length = p.2.length + 2 := rfl
    omega
/-- What two reads of the same bytes give. -/
theorem gotC_both {xs : List Int} {q q2 : Bool} {L L2 : List Cp} (hx : byteC xs) (hn : xs.length ≤ 600) (hl : ∀ s ∈ L, s.n = s.xs.length) (h : GotC (readC (xs.length + 1) xs) q L) (h2 : GotC (readC (xs.length + 1) xs) q2 L2) :
    q = q2 ∧ L.map cpK = L2.map cpK ∧ L.length ≤ 300 ∧ L2.length ≤ 300 ∧ (q = true → L.all cpOk = true ∧ cpsForm L = xs) := by
  rcases h.1 with ⟨h3, rfl⟩ | ⟨h3, rfl, rfl⟩
  · rcases h2.1 with ⟨h4, rfl⟩ | ⟨h4, rfl, rfl⟩
    · have e : L.map cpK = L2.map cpK := by rw [h3] at h4; exact Option.some.inj h4
      have hf := readC_form _ hx h3
      have hk := kForm_len (L.map cpK)
      rw [hf, List.length_map] at hk
      have hl2 := congrArg List.length e
      rw [List.length_map, List.length_map] at hl2
      exact ⟨rfl, e, by omega, by omega, fun _ => ⟨ok_of_goodC hl (readC_good _ hx h3), by rw [cpsForm_k hl, hf]⟩⟩
    · rw [h3] at h4; cases h4
  · rcases h2.1 with ⟨h4, rfl⟩ | ⟨h4, rfl, rfl⟩
    · rw [h3] at h4; cases h4
    · exact ⟨rfl, rfl, by simp, by simp, fun h => by cases h⟩
set_option maxRecDepth 100000 in
set_option maxHeartbeats 6400000 in
theorem creads_main (A : Option Addr) (n c : Nat) (xs : List Int) (w : World) (hx : Bytes w w.heap.size A n xs) (hc : n ≤ c) (hcm : c ≤ maxLen) :
    Calls Try.prog 4 #[.slice A n c] w fun e w' => e = .returned (.bool true) ∧ Below w.heap.size w w' := by
  have HN := Lib.hid hx.1
  have HX := Lib.hid hx
  have hcm2 := hcm
  unfold maxLen at hcm2
  by_cases hlt : 600 < n
  · have q : decide ((600 : Int) < (n : Int)) = true := by simp; omega
    clear hx hlt hcm
    go_enter Try.func4, Try.ntmps4
    go_wp2_with fail
    refine (alive16_any _).mono ?_
    rintro e w1 ⟨rfl, hb⟩
    go_wp2
    go_ret
    exact ⟨rfl, hb⟩
  · have q : decide ((600 : Int) < (n : Int)) = false := by simp; omega
    have hn600 : n ≤ 600 := by omega
    have HR := Lib.hid (cread_any A n c xs w hx (by omega))
    have HRR := Lib.hid (fun W (h : Below w.heap.size w W) => rcread_any A n c xs W ((HX.out.below h).more h.size) (by omega) hc hcm)
    clear hx hlt
    go_enter Try.func4, Try.ntmps4
    go_wp2_with fail
    refine HR.out.mono ?_
    rintro e w1 ⟨v, L, q1, rfl, hrow, hG, hb1⟩
    obtain ⟨A1, c1, rfl⟩ := hrow.form
    have hC1 := hrow.caps
    have hl1 := Lib.hid (show ∀ s ∈ L, s.n = s.xs.length from fun s m => (hrow.2 s m).2.1)
    clear hrow
    go_wp2_with fail
    refine (HRR.out w1 hb1).mono ?_
    rintro e w2 ⟨v2, L2, q2, rfl, hrow2, hG2, hb2⟩
    obtain ⟨A2, c2, rfl⟩ := hrow2.form
    have hC2 := hrow2.caps
    have hC1' := hC1.step hb2
    have hb3 := bl_trans hb1 hb2
    obtain ⟨rfl, heq, hL, hL2, hq⟩ := gotC_both HX.out.2.1 (by have := HN.out; omega) hl1.out hG.out hG2.out
    have HQ := Lib.hid hq
    have HEq := Lib.hid heq
    have HB := Lib.hid (cbytes_any A1 L.length c1 L w2 hC1' (by omega) (fun s m => hG.out.2.2 s m))
    clear hrow2 hC1 hG hG2 hq heq hb1 hb2 HR HRR
    go_wp2_with fail
    refine HB.out.mono ?_
    rintro e w3 ⟨A3, n3, c3, rfl, hB3, hc3, hb4⟩
    have hb5 := bl_trans hb3 hb4
    have HC1 := Lib.hid (hC1'.step hb4)
    have HC2 := Lib.hid (hC2.step hb4)
    have HB3 := Lib.hid hB3
    clear hC1' hC2 hB3 hb3 hb4 HB
    cases q1 with
    | false =>
      go_wp2_with fail
      refine (alive16_any _).mono ?_
      rintro e w4 ⟨rfl, hb6⟩
      have hb7 := bl_trans hb5 hb6
      have hC2 := HC2.out.step hb6
      have HBk := Lib.hid (back16_any A1 L.length c1 L w4 (HC1.out.step hb6) (by omega))
      clear hb5 hb6
      go_wp2_with fail
      refine HBk.out.mono ?_
      rintro e w5 ⟨A5, c5, rfl, hC5, hb8⟩
      have HS := Lib.hid (rcsame_any A5 A2 _ _ c5 c2 L L2 w5 hC5 (hC2.step hb8) (by omega) (by omega))
      rw [decide_eq_true HEq.out] at HS
      have hb9 := bl_trans hb7 hb8
      clear hC5 hC2 hb7 hb8
      go_wp2_with fail
      refine HS.out.mono ?_
      rintro e w6 ⟨rfl, hb10⟩
      have hb11 := bl_trans hb9 hb10
      clear hb9 hb10
      go_wp2
      go_ret
      exact ⟨rfl, hb11⟩
    | true =>
      obtain ⟨hall, hform⟩ := HQ.out rfl
      have HBy := HB3.out
      rw [if_pos hall, hform] at HBy
      have HBy := Lib.hid HBy
      rw [hall]
      clear hall hform HB3 HQ
      go_wp2_with fail
      refine (alive16_any _).mono ?_
      rintro e w4 ⟨rfl, hb6⟩
      have hb7 := bl_trans hb5 hb6
      have hC2 := HC2.out.step hb6
      have hBy4 := (HBy.out.below hb6).more hb6.size
      have HBk := Lib.hid (back16_any A1 L.length c1 L w4 (HC1.out.step hb6) (by omega))
      clear hb5 hb6
      go_wp2_with fail
      refine HBk.out.mono ?_
      rintro e w5 ⟨A5, c5, rfl, hC5, hb8⟩
      have HS := Lib.hid (rcsame_any A5 A2 _ _ c5 c2 L L2 w5 hC5 (hC2.step hb8) (by omega) (by omega))
      rw [decide_eq_true HEq.out] at HS
      have hb9 := bl_trans hb7 hb8
      have hBy5 := (hBy4.below hb8).more hb8.size
      clear hC5 hC2 hb7 hb8 hBy4
      go_wp2_with fail
      refine HS.out.mono ?_
      rintro e w6 ⟨rfl, hb10⟩
      have hb11 := bl_trans hb9 hb10
      have HE := Lib.hid (bytesEq_any A3 A n3 n c3 c xs xs w6 _ _ (hBy5.below hb10) (HX.out.below hb11) (by have := hBy5.1; have := HN.out; omega) (by omega))
      rw [decide_eq_true rfl] at HE
      clear hb9 hb10 hBy5
      go_wp2_with fail
      refine HE.out.mono ?_
      rintro e w7 ⟨rfl, m, rfl⟩
      go_wp2
      go_ret
      exact ⟨rfl, bl_drewN hb11 m⟩
end Go.Proofs.Ytnndaolpjjdgiaa

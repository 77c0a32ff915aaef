/- mp: small; the reference's bare, shaped, Valid -/
import Derived.Test.YtmlmgjdjbpipcaaDoorMpA
import Derived.Test.YtmlmgjdjbpipcaaDoorMfAQ
import Derived.Test.YtmlmgjdjbpipcaaDoorFewQ
import Derived.Test.YtmlmgjdjbpipcaaDoorNr
namespace Go.Proofs.YtmlmgjdjbpipcaaDoor
open Go.RowKit

def small12B (a : At) (ss : List Sg) : Bool := fewB ss && decide (a.n2 ≤ 200 ∧ a.n3 ≤ 600 ∧ a.n4 ≤ 100)
set_option maxRecDepth 100000 in
theorem small12_any (a : At) (ss : List Sg) (w : World) (hs : Segs w w.heap.size a.A1 a.n1 ss) (hm : a.n1 ≤ maxLen) :
    Calls Tryd.prog 7 #[.agg (atc a)] w fun e w' => e = .returned (.bool (small12B a ss)) ∧ Below w.heap.size w w' := by
  have hO : Hid (small12B a ss = (fewB ss && decide (a.n2 ≤ 200 ∧ a.n3 ≤ 600 ∧ a.n4 ≤ 100))) := Lib.hid rfl
  generalize small12B a ss = V at *
  have hF := Lib.hid (fun W hW => few_any a.A1 a.n1 a.c1 ss W hW hm)
  generalize fewB ss = Q at *
  obtain ⟨k, p, N, M, A1, n1, c1, A2, n2, c2, A3, n3, c3, f, A4, n4, c4⟩ := a
  unfold atc
  dsimp only at *
  have hb := bl_alloc (bl_refl w) (.cells #[.int .i64 k, .bool p, .int .u32 N, .int .u32 M, .slice A1 n1 c1, .slice A2 n2 c2, .slice A3 n3 c3, .int .i64 f, .slice A4 n4 c4] 30)
  have HS := Lib.hid ((hs.below hb).more hb.size)
  clear hs
  go_enter Tryd.func7, Tryd.ntmps7
  go_wp2_with fail
  refine (hF.out _ HS.out).mono ?_
  rintro e w1 ⟨rfl, rfl⟩
  cases Q
  · go_wp2
    go_ret
    exact ⟨ret_boolA (by rw [hO.out]; rfl), hb⟩
  · go_wp2
    all_goals go_ret
    all_goals refine ⟨ret_boolA ?_, hb⟩
    all_goals (rw [hO.out, Bool.true_and]; rw [Bool.eq_iff_iff]; simp only [decide_eq_true_eq, Bool.false_eq_true, false_iff] at *; omega)
/-- No other fields than those of these types. -/
def bareM (a : At) : Bool := decide (a.n1 = 0 ∧ a.n2 = 0) && (decide (a.N = 0 ∧ a.M = 0) && !a.p)
set_option maxRecDepth 100000 in
set_option maxHeartbeats 1600000 in
theorem rmbare_any (a : At) (w : World) : Calls Tryd.prog 51 #[.agg (atc a)] w fun e w' => e = .returned (.bool (bareM a)) ∧ Below w.heap.size w w' := by
  obtain ⟨k, p, N, M, A1, n1, c1, A2, n2, c2, A3, n3, c3, f, A4, n4, c4⟩ := a
  have hV : Hid (bareM ⟨k, p, N, M, A1, n1, c1, A2, n2, c2, A3, n3, c3, f, A4, n4, c4⟩ = (decide (n1 = 0 ∧ n2 = 0) && (decide (N = 0 ∧ M = 0) && !p))) := Lib.hid rfl
  generalize bareM ⟨k, p, N, M, A1, n1, c1, A2, n2, c2, A3, n3, c3, f, A4, n4, c4⟩ = V at *
  unfold atc
  dsimp only
  have o1 := Own.new w 30 #[.int .i64 k, .bool p, .int .u32 N, .int .u32 M, .slice A1 n1 c1, .slice A2 n2 c2, .slice none 0 0, .int .i64 0, .slice none 0 0]
  have hb1 := bl_alloc (bl_refl w) (.cells #[.int .i64 k, .bool p, .int .u32 N, .int .u32 M, .slice A1 n1 c1, .slice A2 n2 c2, .slice none 0 0, .int .i64 0, .slice none 0 0] 30)
  have HB := Lib.hid (rbare_any ⟨k, p, N, M, A1, n1, c1, A2, n2, c2, none, 0, 0, 0, none, 0, 0⟩ (w.alloc (.cells #[.int .i64 k, .bool p, .int .u32 N, .int .u32 M, .slice A1 n1 c1, .slice A2 n2 c2, .slice none 0 0, .int .i64 0, .slice none 0 0] 30)))
  have HV2 : Hid (bareB ⟨k, p, N, M, A1, n1, c1, A2, n2, c2, none, 0, 0, 0, none, 0, 0⟩ = decide (n1 = 0 ∧ n2 = 0)) := Lib.hid (by unfold bareB; simp)
  rw [HV2.out] at HB
  generalize decide (n1 = 0 ∧ n2 = 0) = Q at *
  clear HV2
  unfold atc at HB
  dsimp only at HB
  go_enter Tryd.func51, Tryd.ntmps51
  go_wp2_with fail
  refine HB.out.mono ?_
  rintro e w2 ⟨rfl, hb2⟩
  have o2 := o1.step hb2
  have h2 := o2.lt
  have hb3 := bl_trans hb1 hb2
  obtain ⟨e0, e1, e2, e3, e4, e5, e6, e7, e8⟩ := at_cells o2
  clear o1 o2 hb1 hb2
  cases Q
  · go_wp2
    go_ret
    exact ⟨ret_boolM (by rw [hV.out]; rfl), hb3⟩
  · cases p
    all_goals
      go_wp2
      all_goals go_ret
      all_goals refine ⟨ret_boolM ?_, hb3⟩
      all_goals (rw [hV.out, Bool.true_and]; rw [Bool.eq_iff_iff]; simp_all)
/-- Whether an attribute is valid, apart from options. -/
def shB (add : Bool) (a : At) (rs : List Rt) : Bool := hasB a.k && (decide (a.f = 1 ∨ a.f = 2) && (bareM a && (rs.all (rtOk a.f add) && if a.k = 15 then decide (a.n3 = 0) else hopB a.f a.n3)))
set_option maxRecDepth 100000 in
set_option maxHeartbeats 3200000 in
theorem rshaped_any (add : Bool) (a : At) (rs : List Rt) (w : World) (hr : Routes w w.heap.size a.A4 a.n4 rs) (hn : a.n4 ≤ 1000000000) :
    Calls Tryd.prog 38 #[.bool add, .agg (atc a)] w fun e w' => e = .returned (.bool (shB add a rs)) ∧ Below w.heap.size w w' := by
  have hH := Lib.hid (fun W => rmhas_any a.k W)
  have hBa := Lib.hid (fun W => rmbare_any a W)
  have hRv := Lib.hid (fun W (h : Below w.heap.size w W) => rvalid_any a.f add a.A4 a.n4 a.c4 rs W ((hr.below h).more h.size) hn)
  have hHp := Lib.hid (fun W => rmhop_any a.f a.n3 W)
  have hV : Hid (shB add a rs = (hasB a.k && (decide (a.f = 1 ∨ a.f = 2) && (bareM a && (rs.all (rtOk a.f add) && if a.k = 15 then decide (a.n3 = 0) else hopB a.f a.n3))))) := Lib.hid rfl
  generalize shB add a rs = V at *
  have hk15 : Hid (hasB a.k = true → a.k = 14 ∨ a.k = 15) := Lib.hid (fun h => by unfold hasB at h; exact of_decide_eq_true h)
  generalize hasB a.k = Q1 at *
  generalize bareM a = Q2 at *
  generalize rs.all (rtOk a.f add) = Q3 at *
  generalize hopB a.f a.n3 = Q4 at *
  obtain ⟨k, p, N, M, A1, n1, c1, A2, n2, c2, A3, n3, c3, f, A4, n4, c4⟩ := a
  unfold atc at *
  dsimp only at *
  have o0 := Own.new w 30 #[.int .i64 k, .bool p, .int .u32 N, .int .u32 M, .slice A1 n1 c1, .slice A2 n2 c2, .slice A3 n3 c3, .int .i64 f, .slice A4 n4 c4]
  have hb0 := bl_alloc (bl_refl w) (.cells #[.int .i64 k, .bool p, .int .u32 N, .int .u32 M, .slice A1 n1 c1, .slice A2 n2 c2, .slice A3 n3 c3, .int .i64 f, .slice A4 n4 c4] 30)
  clear hr
  go_enter Tryd.func38, Tryd.ntmps38
  go_wp2_with fail
  refine (hH.out _).mono ?_
  rintro e w1 ⟨rfl, rfl⟩
  cases Q1 with
  | false =>
    go_wp2
    go_ret
    exact ⟨ret_boolM (by rw [hV.out]; rfl), hb0⟩
  | true =>
    by_cases hf : f = 1 ∨ f = 2
    · have hk := hk15.out rfl
      have HV2 : Hid (V = (Q2 && (Q3 && if k = 15 then decide (n3 = 0) else Q4))) := Lib.hid (by rw [hV.out, decide_eq_true hf]; rfl)
      clear hV hk15
      rcases hf with rfl | rfl
      all_goals
        go_wp2_with fail
        refine (hBa.out _).mono ?_
        rintro e w2 ⟨rfl, hb2⟩
        have hb3 := bl_trans hb0 hb2
        have o2 := o0.step hb2
        cases Q2 with
        | false =>
          go_wp2
          go_ret
          exact ⟨ret_boolM (by rw [HV2.out]; rfl), hb3⟩
        | true =>
          obtain ⟨e0, e1, e2, e3, e4, e5, e6, e7, e8⟩ := at_cells o2
          have h2 := o2.lt
          clear hb2
          go_wp2_with fail
          refine (hRv.out _ hb3).mono ?_
          rintro e w3 ⟨rfl, hb4⟩
          have hb5 := bl_trans hb3 hb4
          have o3 := o2.step hb4
          clear e0 e1 e2 e3 e4 e5 e6 e7 e8 h2 hb4 o2
          obtain ⟨e0, e1, e2, e3, e4, e5, e6, e7, e8⟩ := at_cells o3
          have h3 := o3.lt
          clear o3
          cases Q3 with
          | false =>
            go_wp2
            go_ret
            exact ⟨ret_boolM (by rw [HV2.out]; rfl), hb5⟩
          | true =>
            rcases hk with rfl | rfl
            · go_wp2_with fail
              refine (hHp.out _).mono ?_
              rintro e w4 ⟨rfl, rfl⟩
              go_wp2
              go_ret
              exact ⟨ret_boolM (by rw [HV2.out]; rfl), hb5⟩
            · have hq : ((n3 : Int) == 0) = decide (n3 = 0) := by rw [Bool.eq_iff_iff]; simp
              have HQ := Lib.hid hq
              clear hq
              go_wp2
              go_ret
              exact ⟨ret_boolM (by rw [HV2.out, ← HQ.out]; rfl), hb5⟩
    · have h1 : f ≠ 1 := fun h => hf (.inl h)
      have h2 : f ≠ 2 := fun h => hf (.inr h)
      have HV2 : Hid (V = false) := Lib.hid (by rw [hV.out, decide_eq_false hf]; rfl)
      have q1 : (f != 1) = true := by simpa using h1
      have q2 : (f != 2) = true := by simpa using h2
      clear hf h1 h2
      go_wp2
      go_ret
      exact ⟨ret_boolM HV2.out.symm, hb0⟩
end Go.Proofs.YtmlmgjdjbpipcaaDoor

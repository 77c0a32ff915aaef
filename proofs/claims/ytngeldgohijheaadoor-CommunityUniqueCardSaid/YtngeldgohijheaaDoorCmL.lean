/- community.Text at invalid attributes and at the chapter's example; peeragelaw09.alive, small -/
import Derived.Test.YtngeldgohijheaaDoorCmX
namespace Go.Proofs.YtngeldgohijheaaDoor
open Go.RowKit Go.Sort

/-- An attribute of numbers. -/
def atL (k : Int) (p : Bool) (A : Option Addr) (n c : Nat) : At := ⟨k, p, 0, 0, none, 0, 0, A, n, c, none, 0, 0, 0, none, 0, 0⟩
theorem cmB_atL (k : Int) (p : Bool) (A : Option Addr) (n c : Nat) : cmB (atL k p A n c) = true := by unfold cmB atL; simp
set_option maxRecDepth 100000 in
theorem cmtext_no (a : At) (w : World) (hm : a.n2 ≤ maxLen) (hv : cmOk a = false) :
    Calls Tryd.prog 21 #[.agg (atc a)] w fun e w' => e = .returned (.string ⟨#[]⟩) ∧ Below w.heap.size w w' := by
  have hV := Lib.hid (fun W => cmvalid_any a W hm)
  rw [hv] at hV
  clear hv hm
  obtain ⟨k, p, N, M, A1, n1, c1, A2, n2, c2, A3, n3, c3, f, A4, n4, c4⟩ := a
  unfold atc at *
  dsimp only at *
  have hb0 := bl_alloc (bl_refl w) (.cells #[.int .i64 k, .bool p, .int .u32 N, .int .u32 M, .slice A1 n1 c1, .slice A2 n2 c2, .slice A3 n3 c3, .int .i64 f, .slice A4 n4 c4] 29)
  go_enter Tryd.func21, Tryd.ntmps21
  go_wp2_with fail
  refine (hV.out _).mono ?_
  rintro e w1 ⟨rfl, hb1⟩
  go_wp2
  go_ret
  exact ⟨rfl, bl_trans hb0 hb1⟩
theorem dec9_7 : Lib.decDigits 7 = [55] := by rw [Lib.decDigits_one (by omega)]; rfl
theorem dec9_65000 : Lib.decDigits 65000 = [54, 53, 48, 48, 48] := by
  rw [Lib.decDigits, dif_neg (by omega), show 65000 / 10 = 6500 from rfl, Lib.decDigits, dif_neg (by omega), show 6500 / 10 = 650 from rfl, Lib.decDigits, dif_neg (by omega), show 650 / 10 = 65 from rfl, Lib.decDigits_two (by omega) (by omega)]; rfl
theorem cm_exR : U32L [4259840007] := by intro x hx; simp only [List.mem_cons, List.not_mem_nil, or_false] at hx; subst hx; omega
theorem cm_ex : cmTxt 8 (tups 1 [4259840007] cm_exR 1) = ⟨#[99, 111, 109, 109, 117, 110, 105, 116, 105, 101, 115, 32, 54, 53, 48, 48, 48, 58, 55]⟩ := by
  have h0 : decB 65000 = ⟨#[54, 53, 48, 48, 48]⟩ := congrArg (fun l : List UInt8 => ByteArray.mk l.toArray) dec9_65000
  have h1 : decB 7 = ⟨#[55]⟩ := congrArg (fun l : List UInt8 => ByteArray.mk l.toArray) dec9_7
  have h2 : formB 8 (tupAt 1 [4259840007] cm_exR 0) = ⟨#[54, 53, 48, 48, 48, 58, 55]⟩ := by
    unfold formB
    rw [if_pos rfl]
    show colB [65000, 7] = _
    unfold colB
    show joinB [decB 65000, decB 7] [58] = _
    rw [h0, h1]
    rfl
  show joinB [cmNm 8, formB 8 (tupAt 1 [4259840007] cm_exR 0)] [32] = _
  rw [h2]
  rfl
set_option maxRecDepth 100000 in
theorem alive09_any (w : World) (ht : Tens w) : Calls Tryd.prog 9 #[] w fun e w' => e = .returned (.bool true) ∧ Below w.heap.size w w' := by
  have hb1 := bl_alloc (bl_refl w) (.cells #[.int .u32 4259840007] 24)
  have o1 := Own.new w 24 #[.int .u32 4259840007]
  have hU : U32s (w.alloc (.cells #[.int .u32 4259840007] 24)) (w.alloc (.cells #[.int .u32 4259840007] 24)).heap.size (some ⟨w.heap.size, 0, none⟩) 1 [4259840007] := ⟨rfl, Shows.of_owned o1 (by simp)⟩
  have hI : CmIn (atL 8 false (some ⟨w.heap.size, 0, none⟩) 1 1) 1 1 [4259840007] := ⟨rfl, .inl rfl, cm_exR, rfl, Nat.le_refl _, (by show 1 ≤ maxLen; unfold maxLen; omega), rfl⟩
  have hT := Lib.hid (cmtext_yes (atL 8 false (some ⟨w.heap.size, 0, none⟩) 1 1) 1 1 [4259840007] hI (by unfold cmOk cmB; simp [atL, cmG]) _ (ht.below hb1) hU (by omega))
  rw [show cmTxt (atL 8 false (some ⟨w.heap.size, 0, none⟩) 1 1).k (tups 1 [4259840007] hI.hR 1) = _ from cm_ex] at hT
  unfold atL atc at hT
  dsimp only at hT
  clear hU hI o1
  go_enter Tryd.func9, Tryd.ntmps9
  go_wp2_with fail
  refine hT.out.mono ?_
  rintro e w1 ⟨rfl, hb2⟩
  go_wp2
  go_ret
  exact ⟨rfl, bl_trans hb1 hb2⟩
def small9 (a : At) (ss : List Sg) : Bool := fewB ss && decide (a.n2 ≤ 200 ∧ a.n3 ≤ 600 ∧ a.n4 ≤ 100)
set_option maxRecDepth 100000 in
set_option maxHeartbeats 800000 in
theorem small09_any (a : At) (ss : List Sg) (w : World) (hs : Segs w w.heap.size a.A1 a.n1 ss) (hm : a.n1 ≤ maxLen) :
    Calls Tryd.prog 15 #[.agg (atc a)] w fun e w' => e = .returned (.bool (small9 a ss)) ∧ Below w.heap.size w w' := by
  have hO : Hid (small9 a ss = (fewB ss && decide (a.n2 ≤ 200 ∧ a.n3 ≤ 600 ∧ a.n4 ≤ 100))) := Lib.hid rfl
  generalize small9 a ss = V at *
  have hF := Lib.hid (fun W hW => few_any a.A1 a.n1 a.c1 ss W hW hm)
  generalize fewB ss = Q at *
  obtain ⟨k, p, N, M, A1, n1, c1, A2, n2, c2, A3, n3, c3, f, A4, n4, c4⟩ := a
  unfold atc
  dsimp only at *
  have hb := bl_alloc (bl_refl w) (.cells #[.int .i64 k, .bool p, .int .u32 N, .int .u32 M, .slice A1 n1 c1, .slice A2 n2 c2, .slice A3 n3 c3, .int .i64 f, .slice A4 n4 c4] 29)
  have HS := Lib.hid ((hs.below hb).more hb.size)
  clear hs
  go_enter Tryd.func15, Tryd.ntmps15
  go_wp2_with fail
  refine (hF.out _ HS.out).mono ?_
  rintro e w1 ⟨rfl, rfl⟩
  cases Q
  · go_wp2
    go_ret
    exact ⟨ret_boolA (by rw [hO.out]; rfl), hb⟩
  · go_wp2
    all_goals go_ret
    all_goals refine ⟨ret_boolA ?_, hb⟩
    all_goals (rw [hO.out, Bool.true_and]; rw [Bool.eq_iff_iff]; simp only [decide_eq_true_eq, Bool.false_eq_true, false_iff] at *; omega)
end Go.Proofs.YtngeldgohijheaaDoor

/- option.Parse of any text; OptionParses: the walk -/
import Derived.Test.YtmcmhljonkijjaaDoorOpP
namespace Go.Proofs.YtmcmhljonkijjaaDoor
open Go.RowKit Go.Sort

theorem pOf_dash : pOf ⟨#[45]⟩ = some [false, false, false, false, false, false] := pOf_text false false false false false false
/-- What a text's words give is the options of the text, if these have the text. -/
theorem pOf_words {s : ByteArray} (hne : s ≠ ⟨#[45]⟩) {l : List Bool} (h : pOf s = some l) : oFold [false, false, false, false, false, false] (Lib.splitB ⟨#[32]⟩ 0 (Lib.countB s ⟨#[32]⟩) s) = some l := by
  obtain ⟨a0, a1, a2, a3, a4, a5, rfl, rfl⟩ := pOf_some h
  have hz : oNone a0 a1 a2 a3 a4 a5 = false := by
    cases hz : oNone a0 a1 a2 a3 a4 a5 with
    | false => rfl
    | true => exact absurd (by unfold oTxt; rw [if_pos hz]) hne
  obtain ⟨_, s1, _, f1⟩ := otext_facts _ _ _ _ _ _ hz
  rw [s1, f1]
theorem oFoldZ_len (names : List ByteArray) : ∀ {l l' : List Bool}, oFold l names = some l' → l'.length = l.length := by
  induction names with
  | nil => intro l l' h; cases h; rfl
  | cons x r ih =>
    intro l l' h
    unfold oFold at h
    cases hs : oStep l x with
    | none => rw [hs] at h; cases h
    | some l1 => rw [hs] at h; exact (ih h).trans (oStep_len hs)
set_option maxRecDepth 100000 in
set_option maxHeartbeats 3200000 in
theorem oparse_any (S : ByteArray) (w : World) (m : Int) (hm : w.cell? ⟨4, 0, none⟩ = some (.int .i64 m)) (hs : S.size ≤ 1000) :
    Calls Tryd.prog 33 #[.string S] w fun e w' => e = .returned (oOf (pOf S)) ∧ Below w.heap.size w w' := by
  by_cases hne : S = ⟨#[45]⟩
  · subst hne
    rw [pOf_dash]
    exact oparse_none w
  · have m1 : ¬ (S.toList = [45]) := fun h => hne ((toList_iffO _ ⟨#[45]⟩).1 (h.trans (by rw [ByteArray.toList_eq])))
    have m2 : (S.toList == [45]) = false := by simpa using m1
    have hw := Lib.hid (fun l (h : pOf S = some l) => pOf_words hne h)
    have hlen := Lib.splitB_all ⟨#[32]⟩ (by decide) 0 _ S rfl
    have hlenle := Lib.hid (show Lib.countB S ⟨#[32]⟩ ≤ 1000 from Nat.le_trans (Lib.countB_le ⟨#[32]⟩ (by decide) _ S (Nat.le_refl _)) hs)
    clear hne
    have z0 := Own.new w 50 #[.bool false, .bool false, .bool false, .bool false, .bool false, .bool false]
    have hb0 := bl_alloc (bl_refl w) (.cells #[.bool false, .bool false, .bool false, .bool false, .bool false, .bool false] 50)
    have hm0 := (hb0.cell (p := ⟨4, 0, none⟩) (World.block_lt_of_cell? w _ hm)).trans hm
    have HM := Lib.hid hm0
    have HSL := Lib.hid hlen
    clear hm hm0 hlen
    go_enter Tryd.func33, Tryd.ntmps33
    go_wp2_with fail
    refine (Tryd.strings_Split S ⟨#[32]⟩ m _ (by omega) HM.out (by decide)).mono ?_
    have HC := HSL.out
    have HL1 := hlenle.out
    rw [← HC]
    generalize Lib.splitB ⟨#[32]⟩ 0 (Lib.countB S ⟨#[32]⟩) S = N at *
    have hN : N.length ≤ 1000000 := by omega
    have HNN := Lib.hid hN
    clear HC HL1 HSL hN
    rintro e w1 ⟨rfl, rfl⟩
    have z1 := z0.alloc (.cells (N.map Value.string).toArray 9)
    have hb1 := bl_alloc hb0 (.cells (N.map Value.string).toArray 9)
    have oN := Own.new (w.alloc (.cells #[.bool false, .bool false, .bool false, .bool false, .bool false, .bool false] 50)) 9 (N.map Value.string).toArray
    rw [show (w.alloc (.cells #[.bool false, .bool false, .bool false, .bool false, .bool false, .bool false] 50)).heap.size = w.heap.size + 1 by simp] at oN
    have HN := Lib.hid (Shows.of_owned oN oN.lt)
    have hlen := HNN.out
    clear z0 hb0 oN
    go_wp2_with fail
    refine (oof_any _ _ _ N _ HN.out rfl hlen).mono ?_
    cases hf : oFold [false, false, false, false, false, false] N with
    | none =>
      have hR := Lib.hid (show pOf S = none by
        cases hp : pOf S with
        | none => rfl
        | some l => have := hw.out l hp; rw [hf] at this; cases this)
      clear hf
      rw [show oOf none = .tuple #[.agg #[.bool false, .bool false, .bool false, .bool false, .bool false, .bool false], .bool false] from rfl]
      rintro e w2 ⟨rfl, hb2⟩
      have z2 := (z1.step hb2).alloc (.cells #[.bool false, .bool false, .bool false, .bool false, .bool false, .bool false] 50)
      have hb3 := bl_alloc (bl_trans hb1 hb2) (.cells #[.bool false, .bool false, .bool false, .bool false, .bool false, .bool false] 50)
      clear z1 hb1 hb2 HN
      go_wp2_with (refine wpList_store_row rfl 50 _ _ rfl w.heap.size #[.bool false, .bool false, .bool false, .bool false, .bool false, .bool false] rfl rfl 50 #[.bool false, .bool false, .bool false, .bool false, .bool false, .bool false] z2 (op_info _ _ _ _ _ _) rfl (op_oneF _ _ _ _ _ _) ?_)
      rw [hR.out]
      exact bodyPost_ret (results_cell_tmp (p := 2) (t := 3) (fn := Tryd.f33) rfl _ _ w.heap.size 50 #[.bool false, .bool false, .bool false, .bool false, .bool false, .bool false] _ rfl z2.setRow op_desc rfl (op_info _ _ _ _ _ _)) rfl ⟨rfl, bl_setRow hb3 (Nat.le_refl _)⟩
    | some l =>
      obtain ⟨a0, a1, a2, a3, a4, a5, rfl⟩ := six_bools (oFoldZ_len N hf)
      have hw2 := Lib.hid (fun l (h : pOf S = some l) => show l = [a0, a1, a2, a3, a4, a5] by have := hw.out l h; rw [hf] at this; exact (Option.some.inj this).symm)
      have hPT := Lib.hid (pOf_text a0 a1 a2 a3 a4 a5)
      have hPS := Lib.hid (fun (h : pOf S = some [a0, a1, a2, a3, a4, a5]) => show oTxt a0 a1 a2 a3 a4 a5 = S by
        obtain ⟨b0, b1, b2, b3, b4, b5, hb, ht⟩ := pOf_some h
        simp only [List.cons.injEq, and_true] at hb
        obtain ⟨rfl, rfl, rfl, rfl, rfl, rfl⟩ := hb
        exact ht)
      have HT := Lib.hid (fun W => otext_any a0 a1 a2 a3 a4 a5 W)
      clear hf hw
      rw [show oOf (some [a0, a1, a2, a3, a4, a5]) = .tuple #[.agg #[.bool a0, .bool a1, .bool a2, .bool a3, .bool a4, .bool a5], .bool true] from rfl]
      rintro e w2 ⟨rfl, hb2⟩
      have z2 := z1.step hb2
      have hb3 := bl_trans hb1 hb2
      have z3 := z2.alloc (.cells #[.bool a0, .bool a1, .bool a2, .bool a3, .bool a4, .bool a5] 50)
      have hb4 := bl_alloc hb3 (.cells #[.bool a0, .bool a1, .bool a2, .bool a3, .bool a4, .bool a5] 50)
      have o3 := Own.new w2 50 #[.bool a0, .bool a1, .bool a2, .bool a3, .bool a4, .bool a5]
      have hlt2 := z2.lt
      clear z1 hb1 hb2 hb3 HN
      generalize oTxt a0 a1 a2 a3 a4 a5 = T at *
      by_cases hq : T = S
      · have hR := Lib.hid (show pOf S = some [a0, a1, a2, a3, a4, a5] by rw [← hq]; exact hPT.out)
        subst hq
        go_wp2_with fail
        refine (HT.out _).mono ?_
        rintro e w3 ⟨rfl, hb5⟩
        have z4 := z3.step hb5
        have o4 := o3.step hb5
        have hb6 := bl_trans hb4 hb5
        obtain ⟨e0, e1, e2, e3, e4, e5⟩ := op6_rowO o4
        clear z2 z3 o3 hb4 hb5
        go_wp2_with (refine wpList_store_row rfl 50 _ _ rfl w.heap.size #[.bool a0, .bool a1, .bool a2, .bool a3, .bool a4, .bool a5] rfl rfl 50 #[.bool false, .bool false, .bool false, .bool false, .bool false, .bool false] z4 (op_info _ _ _ _ _ _) rfl (op_oneF _ _ _ _ _ _) ?_)
        rw [hR.out]
        exact bodyPost_ret (results_cell_tmp (p := 2) (t := 3) (fn := Tryd.f33) rfl _ _ w.heap.size 50 #[.bool a0, .bool a1, .bool a2, .bool a3, .bool a4, .bool a5] _ rfl z4.setRow op_desc rfl (op_info _ _ _ _ _ _)) rfl ⟨rfl, bl_setRow hb6 (Nat.le_refl _)⟩
      · obtain ⟨n1, n2, n3⟩ := ne_strs hq
        have hR := Lib.hid (show pOf S = none by
          cases hp : pOf S with
          | none => rfl
          | some l => have h1 := hw2.out l hp; subst h1; exact absurd (hPS.out hp) hq)
        clear hq
        go_wp2_with fail
        refine (HT.out _).mono ?_
        rintro e w3 ⟨rfl, hb5⟩
        have z4 := z3.step hb5
        have hb6 := bl_trans hb4 hb5
        clear z2 z3 o3 hb4 hb5
        go_wp2_with (refine wpList_store_row rfl 50 _ _ rfl w.heap.size #[.bool false, .bool false, .bool false, .bool false, .bool false, .bool false] rfl rfl 50 #[.bool false, .bool false, .bool false, .bool false, .bool false, .bool false] z4 (op_info _ _ _ _ _ _) rfl (op_oneF _ _ _ _ _ _) ?_)
        rw [hR.out]
        exact bodyPost_ret (results_cell_tmp (p := 2) (t := 3) (fn := Tryd.f33) rfl _ _ w.heap.size 50 #[.bool false, .bool false, .bool false, .bool false, .bool false, .bool false] _ rfl z4.setRow op_desc rfl (op_info _ _ _ _ _ _)) rfl ⟨rfl, bl_setRow hb6 (Nat.le_refl _)⟩
theorem pOf_form (s : ByteArray) : ∃ a0 a1 a2 a3 a4 a5 q, oOf (pOf s) = .tuple #[.agg #[.bool a0, .bool a1, .bool a2, .bool a3, .bool a4, .bool a5], .bool q] ∧ (q = true → oTxt a0 a1 a2 a3 a4 a5 = s) := by
  cases hp : pOf s with
  | none => exact ⟨_, _, _, _, _, _, _, rfl, fun h => by cases h⟩
  | some l =>
    obtain ⟨a0, a1, a2, a3, a4, a5, rfl, ht⟩ := pOf_some hp
    exact ⟨_, _, _, _, _, _, _, rfl, fun _ => ht⟩
set_option maxRecDepth 100000 in
set_option maxHeartbeats 3200000 in
theorem oparses_all (S : ByteArray) (w : World) (m : Int) (hm : w.cell? ⟨4, 0, none⟩ = some (.int .i64 m)) (hs : S.size ≤ maxLen) :
    Calls Tryd.prog 7 #[.string S] w fun e w' => e = .returned (.bool true) ∧ Below w.heap.size w w' := by
  unfold maxLen at hs
  by_cases h2 : (200 : Int) < (S.size : Int)
  · go_enter Tryd.func7, Tryd.ntmps7
    go_wp2_with fail
    refine (alive05_any _).mono ?_
    rintro e w1 ⟨rfl, hb1⟩
    go_wp2
    go_ret
    exact ⟨rfl, hb1⟩
  · have hO := Lib.hid (fun W (h : W.cell? ⟨4, 0, none⟩ = some (.int .i64 m)) => oparse_any S W m h (by omega))
    have hR := Lib.hid (fun W => rparse5_any S W)
    obtain ⟨a0, a1, a2, a3, a4, a5, q, hf, hq⟩ := pOf_form S
    rw [hf] at hO hR
    have hsame := op_same a0 a1 a2 a3 a4 a5
    have HT := Lib.hid (fun W => otext_any a0 a1 a2 a3 a4 a5 W)
    have HQ := Lib.hid hq
    have HM := Lib.hid hm
    clear hf hq hm
    generalize oTxt a0 a1 a2 a3 a4 a5 = T at *
    go_enter Tryd.func7, Tryd.ntmps7
    go_wp2_with fail
    refine (hO.out _ HM.out).mono ?_
    rintro e w1 ⟨rfl, hb1⟩
    have o1 := Own.new w1 50 #[.bool a0, .bool a1, .bool a2, .bool a3, .bool a4, .bool a5]
    have hb2 := bl_alloc hb1 (.cells #[.bool a0, .bool a1, .bool a2, .bool a3, .bool a4, .bool a5] 50)
    clear hb1
    go_wp2_with fail
    refine (hR.out _).mono ?_
    rintro e w2 ⟨rfl, hb3⟩
    have p1 := (o1.step hb3).alloc (.cells #[.bool a0, .bool a1, .bool a2, .bool a3, .bool a4, .bool a5] 50)
    have p2 := Own.new w2 50 #[.bool a0, .bool a1, .bool a2, .bool a3, .bool a4, .bool a5]
    have hb4 := bl_alloc (bl_trans hb2 hb3) (.cells #[.bool a0, .bool a1, .bool a2, .bool a3, .bool a4, .bool a5] 50)
    clear o1 hb2 hb3
    go_wp2_with fail
    refine (alive05_any _).mono ?_
    rintro e w3 ⟨rfl, hb5⟩
    obtain ⟨c0, c1, c2, c3, c4, c5⟩ := op6_rowO (p1.step hb5)
    obtain ⟨d0, d1, d2, d3, d4, d5⟩ := op6_rowO (p2.step hb5)
    have hb6 := bl_trans hb4 hb5
    clear p1 p2 hb4 hb5
    cases q
    · go_wp2
      go_ret
      exact ⟨rfl, hb6⟩
    · obtain rfl := HQ.out rfl
      go_wp2_with fail
      refine (HT.out _).mono ?_
      rintro e w4 ⟨rfl, hb7⟩
      go_wp2
      go_ret
      exact ⟨by simp, bl_trans hb6 hb7⟩
end Go.Proofs.YtmcmhljonkijjaaDoor

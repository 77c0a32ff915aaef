/- NoticeParses: the walk -/
import Derived.Test.YtalmmddmdnkifaaDoorNtF
namespace Go.Proofs.YtalmmddmdnkifaaDoor
open Go.RowKit Go.Sort

set_option maxRecDepth 100000 in
theorem ntparses_early (A : Option Addr) (n c : Nat) (w : World) (ht : Tens w) (hN : NNames w) (hm : n ≤ maxLen) (h : 600 < n) :
    Calls Tryd.prog 4 #[.slice A n c] w fun e w' => e = .returned (.bool true) ∧ Below w.heap.size w w' := by
  unfold maxLen at hm
  have h1 : (600 : Int) < (n : Int) := by omega
  go_enter Tryd.func4, Tryd.ntmps4
  go_wp2_with fail
  refine (alive18_any _ ht hN).mono ?_
  rintro e w1 ⟨rfl, hb1⟩
  go_wp2
  go_ret
  exact ⟨rfl, hb1⟩
theorem form_ex : ntForm 0 0 [] = [0, 0] := rfl
theorem bytes_len {w : World} {B g m n : Nat} {zs : List Int} (h : Bytes w B (some ⟨g, 0, none⟩) m zs) (hn : m = n) : Bytes w B (some ⟨g, 0, none⟩) n zs := hn ▸ h
theorem ntform_drop {xs : List Int} (h : 2 ≤ xs.length) : ntForm (nth xs 0) (nth xs 1) (xs.drop 2) = xs := by
  match xs, h with
  | a :: b :: r, _ => rfl
set_option maxRecDepth 100000 in
set_option maxHeartbeats 1600000 in
theorem ntparses_no (A : Option Addr) (n c : Nat) (w : World) (ht : Tens w) (hN : NNames w) (h : n < 2) :
    Calls Tryd.prog 4 #[.slice A n c] w fun e w' => e = .returned (.bool true) ∧ Below w.heap.size w w' := by
  have h1 : ¬ (600 : Int) < (n : Int) := by omega
  have hZ : Hid (∀ W : World, Bytes W W.heap.size none 0 []) := Lib.hid (fun W => Bytes.nil _ _ _)
  go_enter Tryd.func4, Tryd.ntmps4
  go_wp2_with fail
  refine (ntparse_no A n c _ (.inl h)).mono ?_
  rintro e w1 ⟨rfl, hb1⟩
  have hbA := bl_alloc hb1 (.cells #[.int .i64 0, .int .i64 0, .slice none 0 0] 29)
  have oA := Own.new w1 29 #[.int .i64 0, .int .i64 0, .slice none 0 0]
  go_wp2_with fail
  refine (rntparse_no A n c _ (.inl h)).mono ?_
  rintro e w2 ⟨rfl, hb2⟩
  have hbB := bl_alloc (bl_trans hbA hb2) (.cells #[.int .i64 0, .int .i64 0, .slice none 0 0] 24)
  have oB := (oA.step hb2).alloc (.cells #[.int .i64 0, .int .i64 0, .slice none 0 0] 24)
  have oC := Own.new w2 24 #[.int .i64 0, .int .i64 0, .slice none 0 0]
  obtain ⟨d0, d1, d2⟩ := nt_cells oB
  have l1 := oB.lt
  clear hbA hb1 hb2 oA
  go_wp2_with fail
  refine (ntbytes_yes 0 0 none 0 0 [] _ (hZ.out _) (by decide)).mono ?_
  rintro e w3 ⟨g, rfl, hg, ho3, hb3⟩
  have hb4 := bl_trans hbB hb3
  have oB3 := oB.step hb3
  have oC3 := oC.step hb3
  clear d0 d1 d2 l1 oB oC hbB
  go_wp2_with fail
  refine (alive18_any _ (ht.below hb4) (hN.below hb4)).mono ?_
  rintro e w4 ⟨rfl, hb5⟩
  obtain ⟨d0, d1, d2⟩ := nt_cells (oB3.step hb5)
  obtain ⟨f0, f1, f2⟩ := nt_cells (oC3.step hb5)
  have hb6 := bl_trans hb4 hb5
  go_wp2_with fail
  refine (rntsame_any 0 0 none 0 0 [] 0 0 none 0 0 [] _ (hZ.out _) (hZ.out _)).mono ?_
  rw [show ntSame 0 0 [] 0 0 [] = true from rfl]
  rintro e w5 ⟨rfl, hb7⟩
  go_wp2
  go_ret
  exact ⟨rfl, bl_trans hb6 hb7⟩
set_option maxRecDepth 100000 in
set_option maxHeartbeats 1600000 in
theorem ntparses_yes (A : Option Addr) (n c : Nat) (xs : List Int) (w : World) (ht : Tens w) (hN : NNames w) (hx : Bytes w w.heap.size A n xs) (h2 : 2 ≤ n) (h6 : n ≤ 600) (hnc : n ≤ c) :
    Calls Tryd.prog 4 #[.slice A n c] w fun e w' => e = .returned (.bool true) ∧ Below w.heap.size w w' := by
  have h1 : ¬ (600 : Int) < (n : Int) := by omega
  have hxl : 2 ≤ xs.length := by rw [← hx.1]; exact h2
  have r0 := hx.2.1 _ (nth_mem (xs := xs) (k := 0) (by omega))
  have r1 := hx.2.1 _ (nth_mem (xs := xs) (k := 1) (by omega))
  have hF := Lib.hid (ntform_drop (xs := xs) (by rw [← hx.1]; exact h2))
  have hzl := Lib.hid (show (xs.drop 2).length = n - 2 by rw [List.length_drop, ← hx.1])
  have hzr := Lib.hid (show ∀ x ∈ xs.drop 2, 0 ≤ x ∧ x ≤ 255 from fun x hm => hx.2.1 x (List.mem_of_mem_drop hm))
  have HX := Lib.hid hx
  have p1 := Lib.hid (fun W hW => ntparse_yes A n c xs W ((hx.below hW).more hW.size) h2 (by omega) hnc)
  have p2 := Lib.hid (fun W hW => rntparse_yes A n c xs W ((hx.below hW).more hW.size) h2 (by omega) hnc)
  have hk : ntOk (nth xs 0) (nth xs 1) (n - 2) = true := ntOk_iff.2 ⟨r0, r1, by omega⟩
  have hK := Lib.hid hk
  clear hx hk r0 r1 hxl
  generalize nth xs 0 = y0 at *
  generalize nth xs 1 = y1 at *
  generalize hz : xs.drop 2 = zs at *
  clear hz
  go_enter Tryd.func4, Tryd.ntmps4
  go_wp2_with fail
  refine (p1.out _ (bl_refl w)).mono ?_
  rintro e w1 ⟨g, rfl, hg, hog, hb1⟩
  have hbA := bl_alloc hb1 (.cells #[.int .i64 y0, .int .i64 y1, .slice (some ⟨g, 0, none⟩) (n - 2) (n - 2)] 29)
  have oA := Own.new w1 29 #[.int .i64 y0, .int .i64 y1, .slice (some ⟨g, 0, none⟩) (n - 2) (n - 2)]
  have hoA := hog.alloc (.cells #[.int .i64 y0, .int .i64 y1, .slice (some ⟨g, 0, none⟩) (n - 2) (n - 2)] 29)
  go_wp2_with fail
  refine (p2.out _ hbA).mono ?_
  rintro e w2 ⟨A2, c2, rfl, hBr, hb2⟩
  have hbT := bl_trans hbA hb2
  have hbB := bl_alloc hbT (.cells #[.int .i64 y0, .int .i64 y1, .slice A2 (n - 2) c2] 24)
  have hB2 := (hBr.more hb2.size).below (bl_alloc (bl_refl w2) (.cells #[.int .i64 y0, .int .i64 y1, .slice A2 (n - 2) c2] 24))
  have hoB := (hoA.step hb2).alloc (.cells #[.int .i64 y0, .int .i64 y1, .slice A2 (n - 2) c2] 24)
  have oB := (oA.step hb2).alloc (.cells #[.int .i64 y0, .int .i64 y1, .slice A2 (n - 2) c2] 24)
  have oC := Own.new w2 24 #[.int .i64 y0, .int .i64 y1, .slice A2 (n - 2) c2]
  have HB2 := Lib.hid (hB2.more (bl_alloc (bl_refl w2) (.cells #[.int .i64 y0, .int .i64 y1, .slice A2 (n - 2) c2] 24)).size)
  have HD := Lib.hid (bytes_len (Bytes.of_owned hoB hzr.out hoB.lt) hzl.out)
  obtain ⟨d0, d1, d2⟩ := nt_cells oB
  have l1 := oB.lt
  clear hbA hb1 hb2 oA hoA hog hbT hBr hB2 hoB
  go_wp2_with fail
  refine (ntbytes_yes y0 y1 _ (n - 2) (n - 2) zs _ HD.out hK.out).mono ?_
  rw [hF.out]
  rintro e w3 ⟨j, rfl, hj, ho3, hb3⟩
  have hb4 := bl_trans hbB hb3
  have oB3 := oB.step hb3
  have oC3 := oC.step hb3
  clear d0 d1 d2 l1 oB oC hbB
  go_wp2_with fail
  refine (alive18_any _ (ht.below hb4) (hN.below hb4)).mono ?_
  rintro e w4 ⟨rfl, hb5⟩
  obtain ⟨d0, d1, d2⟩ := nt_cells (oB3.step hb5)
  obtain ⟨f0, f1, f2⟩ := nt_cells (oC3.step hb5)
  have hb6 := bl_trans hb4 hb5
  have hbs := hb3.trans (hb5.mono hb3.size)
  have ho4 := ho3.step hb5
  have hX4 := Lib.hid ((HX.out.below hb6).more hb6.size)
  go_wp2_with fail
  refine (rntsame_any y0 y1 _ (n - 2) (n - 2) zs y0 y1 _ (n - 2) c2 zs _ ((HD.out.below hbs).more hbs.size) ((HB2.out.below hbs).more hbs.size)).mono ?_
  rw [show ntSame y0 y1 zs y0 y1 zs = true by simp [ntSame]]
  rintro e w5 ⟨rfl, hb7⟩
  have hb8 := bl_trans hb6 hb7
  have ho5 := ho4.step hb7
  have hW := Lib.hid (bytes_len (Bytes.of_owned ho5 HX.out.2.1 ho5.lt) HX.out.1.symm)
  have hX5 := Lib.hid ((hX4.out.below hb7).more hb7.size)
  go_wp2_with fail
  refine (bytesEq_same _ _ _ _ _ _ xs _ _ _ hW.out hX5.out (by omega) (by omega)).mono ?_
  rintro e w6 ⟨rfl, m, rfl⟩
  have hb9 := bl_drewN hb8 m
  go_wp2
  go_ret
  exact ⟨rfl, hb9⟩
set_option maxRecDepth 100000 in
theorem ntparses_all (A : Option Addr) (n c : Nat) (xs : List Int) (w : World) (ht : Tens w) (hN : NNames w) (hx : Bytes w w.heap.size A n xs) (hnc : n ≤ c) (hm : c ≤ maxLen) :
    Calls Tryd.prog 4 #[.slice A n c] w fun e w' => e = .returned (.bool true) ∧ Below w.heap.size w w' := by
  by_cases h6 : 600 < n
  · exact ntparses_early A n c w ht hN (Nat.le_trans hnc hm) h6
  · by_cases h2 : 2 ≤ n
    · exact ntparses_yes A n c xs w ht hN hx h2 (by omega) hnc
    · exact ntparses_no A n c w ht hN (by omega)
end Go.Proofs.YtalmmddmdnkifaaDoor

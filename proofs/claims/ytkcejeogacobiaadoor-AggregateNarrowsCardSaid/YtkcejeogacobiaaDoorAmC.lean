/- peerageref08.Merge -/
import Derived.Test.YtkcejeogacobiaaDoorAmB
namespace Go.Proofs.YtkcejeogacobiaaDoor
open Go.RowKit

set_option maxRecDepth 100000 in
set_option maxHeartbeats 6400000 in
theorem rmerge_any (A : Option Addr) (n c : Nat) (aa : List At) (w : World) (h : Ats w w.heap.size A n aa) (hm : n ≤ maxLen) (hN : ∀ a ∈ aa, 0 ≤ a.N ∧ a.N < 4294967296) :
    Calls Tryd.prog 50 #[.slice A n c] w fun e w' => ∃ y q, e = .returned (.tuple #[.agg (atc y), .bool q]) ∧ MrgR aa y q ∧ Below w.heap.size w w' := by
  have HN := Lib.hid h.1
  have HV := Lib.hid h
  have hVal := Lib.hid (fun a (ha : a ∈ aa) (W : World) => ragvalid_any 4 a W (hN a ha).2)
  have hF := Lib.hid (fun (W : World) (hb : Below w.heap.size w W) (kd : Int) => rfirst_any A n c aa W ((h.below hb).more hb.size) hm kd)
  unfold maxLen at hm
  clear h hN
  have o0 := Own.new w 29 #[.int .i64 0, .bool false, .int .u32 0, .int .u32 0, .slice none 0 0, .slice none 0 0, .slice none 0 0, .int .i64 0, .slice none 0 0]
  have hb0 := bl_alloc (bl_refl w) (.cells #[.int .i64 0, .bool false, .int .u32 0, .int .u32 0, .slice none 0 0, .slice none 0 0, .slice none 0 0, .int .i64 0, .slice none 0 0] 29)
  go_enter Tryd.func50, Tryd.ntmps50
  go_wp2_with fail
  go_loopw [4] (fun i wr => (∃ j : Nat, j ≤ n ∧ i = .int .i64 j ∧ Hid (∀ x ∈ aa.take j, agVal 4 x = true)) ∧ Own wr w.heap.size 29 #[.int .i64 0, .bool false, .int .u32 0, .int .u32 0, .slice none 0 0, .slice none 0 0, .slice none 0 0, .int .i64 0, .slice none 0 0] ∧ Below w.heap.size w wr) (fun i _ => n - (intOf i).toNat)
  case atStart => exact ⟨⟨0, Nat.zero_le _, rfl, Lib.hid (by simp)⟩, o0, hb0⟩
  case round =>
    obtain ⟨⟨j, hj, rfl, hall⟩, hor, hbw⟩ := hrel
    clear o0 hb0
    by_cases hlt : j < n
    · obtain ⟨b, o, rfl, hbB, hrg⟩ := (HV.out.below hbw).at_ hlt
      have hj' : Hid (j < aa.length) := Lib.hid (by have := HN.out; omega)
      have hst := Lib.hid (take_nthA (aa := aa) (i := j) hj'.out)
      have hmem := Lib.hid (nthA_mem hj'.out)
      have hp := Lib.hid (fun (W : World) => hVal.out _ hmem.out W)
      have hne := Lib.hid (fun (hq : agVal 4 (nthA aa j) = true) => show ∀ x ∈ aa.take (j + 1), agVal 4 x = true from fun x hx => by
        rw [hst.out] at hx
        rcases List.mem_append.1 hx with hx | hx
        · exact hall.out x hx
        · rw [List.mem_singleton] at hx; rw [hx]; exact hq)
      generalize hq : agVal 4 (nthA aa j) = q at *
      have HQ := Lib.hid hq
      clear hq hst hall
      have hbad := Lib.hid (fun (hq : q = false) => show ∃ x ∈ aa, agVal 4 x = false from ⟨_, hmem.out, HQ.out.trans hq⟩)
      clear HQ hmem
      generalize nthA aa j = a at *
      obtain ⟨k, p, N, M, A1, n1, c1, A2, n2, c2, A3, n3, c3, f, A4, n4, c4⟩ := a
      unfold atc at *
      dsimp only at *
      obtain ⟨e0, e1, e2, e3, e4, e5, e6, e7, e8⟩ := range9 hrg
      have hbs := hbw.size
      have hl := hor.lt
      clear hrg
      go_wp2_with fail
      refine (hp.out _).mono ?_
      rintro e w2 ⟨rfl, hb2⟩
      have o2 := hor.step hb2
      have hb3 := bl_trans hbw hb2
      clear e0 e1 e2 e3 e4 e5 e6 e7 e8 hor hbw hb2
      cases q
      · have hbad2 := Lib.hid (hbad.out rfl)
        clear hbad
        go_wp2_with (refine wpList_store_row rfl 29 _ _ rfl w.heap.size #[.int .i64 0, .bool false, .int .u32 0, .int .u32 0, .slice none 0 0, .slice none 0 0, .slice none 0 0, .int .i64 0, .slice none 0 0] rfl rfl 29 #[.int .i64 0, .bool false, .int .u32 0, .int .u32 0, .slice none 0 0, .slice none 0 0, .slice none 0 0, .int .i64 0, .slice none 0 0] o2 (at_info9 _ _ _ _ _ _ _ _ _) rfl (ag_one _ _ _) ?_)
        exact bodyPost_ret (results_cell_tmp (p := 2) (t := 3) (fn := Tryd.f50) rfl _ _ w.heap.size 29 #[.int .i64 0, .bool false, .int .u32 0, .int .u32 0, .slice none 0 0, .slice none 0 0, .slice none 0 0, .int .i64 0, .slice none 0 0] _ rfl o2.setRow at_desc rfl (at_info9 _ _ _ _ _ _ _ _ _)) rfl ⟨atz, false, rfl, .inl ⟨rfl, rfl, .inl hbad2.out⟩, bl_setRow hb3 (Nat.le_refl _)⟩
      · have hn2 := Lib.hid (hne.out rfl)
        go_wp2
        go_roundw
        case rel => exact ⟨⟨j + 1, by omega, by go_num, hn2⟩, o2, hb3⟩
        case measure => simp [intOf]; omega
    · obtain rfl : j = n := by omega
      have hgood := Lib.hid (show ∀ x ∈ aa, agVal 4 x = true from fun x hx => hall.out x (by rw [List.take_of_length_le (by rw [← HN.out]; exact Nat.le_refl _)]; exact hx))
      clear hall
      go_wp2_with fail
      refine (hF.out _ hbw 7).mono ?_
      rintro e w2 ⟨x2, q2, rfl, hR2, hb4⟩
      have o3 := hor.step hb4
      have hb5 := bl_trans hbw hb4
      clear hor hbw hb4
      rcases hR2 with ⟨rfl, hf2⟩ | ⟨rfl, hf2, rfl⟩
      · have HF2 := Lib.hid hf2
        have hmem := Lib.hid (List.mem_of_find?_eq_some hf2)
        have hbare := Lib.hid (agval_bare (hgood.out x2 hmem.out))
        clear hf2 hmem
        obtain ⟨k, p, N, M, A1, n1, c1, A2, n2, c2, A3, n3, c3, f, A4, n4, c4⟩ := x2
        unfold atc
        dsimp only
        have o4 := o3.alloc (.cells #[.int .i64 k, .bool p, .int .u32 N, .int .u32 M, .slice A1 n1 c1, .slice A2 n2 c2, .slice A3 n3 c3, .int .i64 f, .slice A4 n4 c4] 29)
        have oX := Own.new w2 29 #[.int .i64 k, .bool p, .int .u32 N, .int .u32 M, .slice A1 n1 c1, .slice A2 n2 c2, .slice A3 n3 c3, .int .i64 f, .slice A4 n4 c4]
        have hb6 := bl_alloc hb5 (.cells #[.int .i64 k, .bool p, .int .u32 N, .int .u32 M, .slice A1 n1 c1, .slice A2 n2 c2, .slice A3 n3 c3, .int .i64 f, .slice A4 n4 c4] 29)
        have hlt3 := o3.lt
        have hz5 := hb5.size
        clear o3 hb5
        go_wp2_with fail
        refine (hF.out _ hb6 18).mono ?_
        rintro e w3 ⟨x3, q3, rfl, hR3, hb7⟩
        have p4 := o4.step hb7
        have pX := oX.step hb7
        have hb8 := bl_trans hb6 hb7
        clear o4 oX hb6 hb7
        rcases hR3 with ⟨rfl, hf3⟩ | ⟨rfl, hf3, rfl⟩
        · have HF3 := Lib.hid hf3
          clear hf3
          obtain ⟨k', p', N', M', A1', n1', c1', A2', n2', c2', A3', n3', c3', f', A4', n4', c4'⟩ := x3
          unfold atc
          dsimp only
          have r4 := p4.alloc (.cells #[.int .i64 k', .bool p', .int .u32 N', .int .u32 M', .slice A1' n1' c1', .slice A2' n2' c2', .slice A3' n3' c3', .int .i64 f', .slice A4' n4' c4'] 29)
          have rX := pX.alloc (.cells #[.int .i64 k', .bool p', .int .u32 N', .int .u32 M', .slice A1' n1' c1', .slice A2' n2' c2', .slice A3' n3' c3', .int .i64 f', .slice A4' n4' c4'] 29)
          have rZ := Own.new w3 29 #[.int .i64 k', .bool p', .int .u32 N', .int .u32 M', .slice A1' n1' c1', .slice A2' n2' c2', .slice A3' n3' c3', .int .i64 f', .slice A4' n4' c4']
          have hb9 := bl_alloc hb8 (.cells #[.int .i64 k', .bool p', .int .u32 N', .int .u32 M', .slice A1' n1' c1', .slice A2' n2' c2', .slice A3' n3' c3', .int .i64 f', .slice A4' n4' c4'] 29)
          have hne : w3.heap.size ≠ w2.heap.size := by have := pX.lt; omega
          have hne2 : w.heap.size ≠ w2.heap.size := by omega
          obtain ⟨e0, e1, e2, e3, e4, e5, e6, e7, e8⟩ := at_cells rX
          obtain ⟨g0, g1, g2, g3, g4, g5, g6, g7, g8⟩ := at_cells rZ
          clear p4 pX hb8
          by_cases hNN : N = 23456
          · have hq : (N == 23456) = true := by simpa using hNN
            have HNN := Lib.hid hNN
            clear hNN
            have z2 := rX.frozen 2
            have z3 := rX.frozen 3
            have oM := set23 rX (.int .u32 N') (.int .u32 M')
            have rM := (r4.far (p := ⟨w2.heap.size, 2, none⟩) hne2 (.int .u32 N')).far (p := ⟨w2.heap.size, 3, none⟩) hne2 (.int .u32 M')
            have hb10 := (hb9.setCell (p := ⟨w2.heap.size, 2, none⟩) (by show w.heap.size ≤ w2.heap.size; omega) (.int .u32 N')).setCell (p := ⟨w2.heap.size, 3, none⟩) (by show w.heap.size ≤ w2.heap.size; omega) (.int .u32 M')
            have hlt2 : w2.heap.size < w3.heap.size + 1 := by have := rX.lt; simp at this; omega
            obtain ⟨f0, f1, f2, f3, f4, f5, f6, f7, f8⟩ := at_cells oM
            go_wp2_with (refine wpList_store_row rfl 29 _ _ rfl w.heap.size #[.int .i64 k, .bool p, .int .u32 N', .int .u32 M', .slice A1 n1 c1, .slice A2 n2 c2, .slice A3 n3 c3, .int .i64 f, .slice A4 n4 c4] rfl rfl 29 #[.int .i64 0, .bool false, .int .u32 0, .int .u32 0, .slice none 0 0, .slice none 0 0, .slice none 0 0, .int .i64 0, .slice none 0 0] rM (at_info9 _ _ _ _ _ _ _ _ _) rfl (atA_one _ _ _ _ _ _ _ _ _ _ _ _ _ _ _ _ _) ?_)
            exact bodyPost_ret (results_cell_tmp (p := 2) (t := 3) (fn := Tryd.f50) rfl _ _ w.heap.size 29 #[.int .i64 k, .bool p, .int .u32 N', .int .u32 M', .slice A1 n1 c1, .slice A2 n2 c2, .slice A3 n3 c3, .int .i64 f, .slice A4 n4 c4] _ rfl rM.setRow at_desc rfl (at_info9 _ _ _ _ _ _ _ _ _)) rfl ⟨⟨k, p, N', M', A1, n1, c1, A2, n2, c2, A3, n3, c3, f, A4, n4, c4⟩, true, rfl, .inr ⟨rfl, hgood.out, hbare.out, _, HF2.out, rfl, rfl, .inl ⟨_, HF3.out, HNN.out, rfl, rfl⟩⟩, bl_setRow hb10 (Nat.le_refl _)⟩
          · have hq : (N == 23456) = false := by simpa using hNN
            have HNN := Lib.hid hNN
            clear hNN
            go_wp2_with (refine wpList_store_row rfl 29 _ _ rfl w.heap.size #[.int .i64 k, .bool p, .int .u32 N, .int .u32 M, .slice A1 n1 c1, .slice A2 n2 c2, .slice A3 n3 c3, .int .i64 f, .slice A4 n4 c4] rfl rfl 29 #[.int .i64 0, .bool false, .int .u32 0, .int .u32 0, .slice none 0 0, .slice none 0 0, .slice none 0 0, .int .i64 0, .slice none 0 0] r4 (at_info9 _ _ _ _ _ _ _ _ _) rfl (atA_one _ _ _ _ _ _ _ _ _ _ _ _ _ _ _ _ _) ?_)
            exact bodyPost_ret (results_cell_tmp (p := 2) (t := 3) (fn := Tryd.f50) rfl _ _ w.heap.size 29 #[.int .i64 k, .bool p, .int .u32 N, .int .u32 M, .slice A1 n1 c1, .slice A2 n2 c2, .slice A3 n3 c3, .int .i64 f, .slice A4 n4 c4] _ rfl r4.setRow at_desc rfl (at_info9 _ _ _ _ _ _ _ _ _)) rfl ⟨⟨k, p, N, M, A1, n1, c1, A2, n2, c2, A3, n3, c3, f, A4, n4, c4⟩, true, rfl, .inr ⟨rfl, hgood.out, hbare.out, _, HF2.out, rfl, rfl, .inr ⟨.inr HNN.out, rfl, rfl⟩⟩, bl_setRow hb9 (Nat.le_refl _)⟩
        · have HF3 := Lib.hid hf3
          clear hf3
          unfold atz at0 atc
          dsimp only
          have r4 := p4.alloc (.cells #[.int .i64 0, .bool false, .int .u32 0, .int .u32 0, .slice none 0 0, .slice none 0 0, .slice none 0 0, .int .i64 0, .slice none 0 0] 29)
          have rX := pX.alloc (.cells #[.int .i64 0, .bool false, .int .u32 0, .int .u32 0, .slice none 0 0, .slice none 0 0, .slice none 0 0, .int .i64 0, .slice none 0 0] 29)
          have hb9 := bl_alloc hb8 (.cells #[.int .i64 0, .bool false, .int .u32 0, .int .u32 0, .slice none 0 0, .slice none 0 0, .slice none 0 0, .int .i64 0, .slice none 0 0] 29)
          obtain ⟨e0, e1, e2, e3, e4, e5, e6, e7, e8⟩ := at_cells rX
          clear p4 pX hb8
          go_wp2_with (refine wpList_store_row rfl 29 _ _ rfl w.heap.size #[.int .i64 k, .bool p, .int .u32 N, .int .u32 M, .slice A1 n1 c1, .slice A2 n2 c2, .slice A3 n3 c3, .int .i64 f, .slice A4 n4 c4] rfl rfl 29 #[.int .i64 0, .bool false, .int .u32 0, .int .u32 0, .slice none 0 0, .slice none 0 0, .slice none 0 0, .int .i64 0, .slice none 0 0] r4 (at_info9 _ _ _ _ _ _ _ _ _) rfl (atA_one _ _ _ _ _ _ _ _ _ _ _ _ _ _ _ _ _) ?_)
          exact bodyPost_ret (results_cell_tmp (p := 2) (t := 3) (fn := Tryd.f50) rfl _ _ w.heap.size 29 #[.int .i64 k, .bool p, .int .u32 N, .int .u32 M, .slice A1 n1 c1, .slice A2 n2 c2, .slice A3 n3 c3, .int .i64 f, .slice A4 n4 c4] _ rfl r4.setRow at_desc rfl (at_info9 _ _ _ _ _ _ _ _ _)) rfl ⟨⟨k, p, N, M, A1, n1, c1, A2, n2, c2, A3, n3, c3, f, A4, n4, c4⟩, true, rfl, .inr ⟨rfl, hgood.out, hbare.out, _, HF2.out, rfl, rfl, .inr ⟨.inl HF3.out, rfl, rfl⟩⟩, bl_setRow hb9 (Nat.le_refl _)⟩
      · have HF2 := Lib.hid hf2
        clear hf2
        unfold atz at0 atc
        dsimp only
        have o4 := o3.alloc (.cells #[.int .i64 0, .bool false, .int .u32 0, .int .u32 0, .slice none 0 0, .slice none 0 0, .slice none 0 0, .int .i64 0, .slice none 0 0] 29)
        have oX := Own.new w2 29 #[.int .i64 0, .bool false, .int .u32 0, .int .u32 0, .slice none 0 0, .slice none 0 0, .slice none 0 0, .int .i64 0, .slice none 0 0]
        have hb6 := bl_alloc hb5 (.cells #[.int .i64 0, .bool false, .int .u32 0, .int .u32 0, .slice none 0 0, .slice none 0 0, .slice none 0 0, .int .i64 0, .slice none 0 0] 29)
        clear o3 hb5
        go_wp2_with fail
        refine (hF.out _ hb6 18).mono ?_
        rintro e w3 ⟨x3, q3, rfl, hR3, hb7⟩
        clear hR3
        have hb8 := bl_trans hb6 hb7
        obtain ⟨k', p', N', M', A1', n1', c1', A2', n2', c2', A3', n3', c3', f', A4', n4', c4'⟩ := x3
        unfold atc
        dsimp only
        have r4 := (o4.step hb7).alloc (.cells #[.int .i64 k', .bool p', .int .u32 N', .int .u32 M', .slice A1' n1' c1', .slice A2' n2' c2', .slice A3' n3' c3', .int .i64 f', .slice A4' n4' c4'] 29)
        have rX := (oX.step hb7).alloc (.cells #[.int .i64 k', .bool p', .int .u32 N', .int .u32 M', .slice A1' n1' c1', .slice A2' n2' c2', .slice A3' n3' c3', .int .i64 f', .slice A4' n4' c4'] 29)
        have hb9 := bl_alloc hb8 (.cells #[.int .i64 k', .bool p', .int .u32 N', .int .u32 M', .slice A1' n1' c1', .slice A2' n2' c2', .slice A3' n3' c3', .int .i64 f', .slice A4' n4' c4'] 29)
        obtain ⟨e0, e1, e2, e3, e4, e5, e6, e7, e8⟩ := at_cells rX
        clear o4 oX hb6 hb7 hb8
        go_wp2_with (refine wpList_store_row rfl 29 _ _ rfl w.heap.size #[.int .i64 0, .bool false, .int .u32 0, .int .u32 0, .slice none 0 0, .slice none 0 0, .slice none 0 0, .int .i64 0, .slice none 0 0] rfl rfl 29 #[.int .i64 0, .bool false, .int .u32 0, .int .u32 0, .slice none 0 0, .slice none 0 0, .slice none 0 0, .int .i64 0, .slice none 0 0] r4 (at_info9 _ _ _ _ _ _ _ _ _) rfl (ag_one _ _ _) ?_)
        exact bodyPost_ret (results_cell_tmp (p := 2) (t := 3) (fn := Tryd.f50) rfl _ _ w.heap.size 29 #[.int .i64 0, .bool false, .int .u32 0, .int .u32 0, .slice none 0 0, .slice none 0 0, .slice none 0 0, .int .i64 0, .slice none 0 0] _ rfl r4.setRow at_desc rfl (at_info9 _ _ _ _ _ _ _ _ _)) rfl ⟨atz, false, rfl, .inl ⟨rfl, rfl, .inr HF2.out⟩, bl_setRow hb9 (Nat.le_refl _)⟩
end Go.Proofs.YtkcejeogacobiaaDoor

/- alive of layer 21; right; what a law of layer 21 knows of a path -/
import Derived.Test.YtniheakafkakhabDoorMgE
import Derived.Test.YtniheakafkakhabDoorSgV
namespace Go.Proofs.YtniheakafkakhabDoor
open Go.RowKit Go.Sort

theorem sg_two_of {L : List Sg} (h : L.map sgK = [(2, [1]), (2, [70000])]) (hn : ∀ s ∈ L, s.n = s.xs.length) : ∃ A1 c1 A2 c2, L = [⟨2, A1, 1, c1, [1]⟩, ⟨2, A2, 1, c2, [70000]⟩] := by
  match L, h with
  | [], h => cases h
  | [_], h => simp at h
  | _ :: _ :: _ :: _, h => simp at h
  | [⟨k1, A1, n1, c1, x1⟩, ⟨k2, A2, n2, c2, x2⟩], h =>
    have a1 := hn _ (List.mem_cons_self)
    have a2 := hn _ (List.mem_cons_of_mem _ List.mem_cons_self)
    unfold sgK at h
    simp only [List.map_cons, List.map_nil, List.cons.injEq, Prod.mk.injEq, and_true] at h
    obtain ⟨⟨rfl, rfl⟩, rfl, rfl⟩ := h
    dsimp only [List.length_cons, List.length_nil] at a1 a2
    subst a1 a2
    exact ⟨A1, c1, A2, c2, rfl⟩
theorem dd70000 : Lib.decDigits 70000 = [55, 48, 48, 48, 48] := by
  rw [Lib.decDigits, dif_neg (by omega), show 70000 / 10 = 7000 from rfl, Lib.decDigits, dif_neg (by omega), show 7000 / 10 = 700 from rfl, Lib.decDigits, dif_neg (by omega), show 700 / 10 = 70 from rfl, Lib.decDigits, dif_neg (by omega), show 70 / 10 = 7 from rfl, Lib.decDigits, dif_pos (by decide)]
  rfl
theorem ex21_txt (g1 g2 : Option Addr) (c1 c2 : Nat) : sgsTxt [⟨2, g1, 1, c1, [1]⟩, ⟨2, g2, 1, c2, [70000]⟩] = ⟨#[91, 49, 93, 32, 91, 55, 48, 48, 48, 48, 93]⟩ := by
  apply ByteArray.ext
  apply Array.ext'
  rw [sgsTxt_list, sgTxt_list, if_neg (show ¬ (2 : Int) = 1 by decide), segJ_list]
  unfold segTail
  simp only [List.map_cons, List.map_nil, List.flatten_cons, List.flatten_nil]
  rw [sgTxt_list, if_neg (show ¬ (2 : Int) = 1 by decide), segJ_list]
  unfold numTail
  simp only [List.map_nil]
  rw [show (1 : Int).toNat = 1 from rfl, show (70000 : Int).toNat = 70000 from rfl, dd1, dd70000]
  rfl
set_option maxRecDepth 100000 in
theorem seq21_any (A : Option Addr) (n c : Nat) (w : World) : Calls Tryd.prog 20 #[.slice A n c] w fun e w' => ∃ g, e = .returned (.slice (some ⟨g, 0, none⟩) 1 1) ∧ Own w' g 31 #[.int .i64 2, .slice A n c] ∧ Below w.heap.size w w' := by
  have hb := bl_alloc (bl_refl w) (.cells #[.int .i64 2, .slice A n c] 31)
  have o := Own.new w 31 #[.int .i64 2, .slice A n c]
  go_enter Tryd.func20, Tryd.ntmps20
  go_wp2
  go_ret
  exact ⟨_, rfl, o, hb⟩
theorem segs_seq {w : World} {g b n c : Nat} {xs : List Int} (h : Own w g 31 #[.int .i64 2, .slice (some ⟨b, 0, none⟩) n c]) (hu : Own w b 40 (xs.map (Value.int .u32)).toArray) (hn : n = xs.length) (hc : n ≤ c) (hm : c ≤ maxLen) (hx : ∀ x ∈ xs, 0 ≤ x ∧ x < 4294967296) :
    Segs w w.heap.size (some ⟨g, 0, none⟩) 1 [⟨2, some ⟨b, 0, none⟩, n, c, xs⟩] := by
  refine seg_one (s := ⟨2, some ⟨b, 0, none⟩, n, c, xs⟩) h ⟨hc, hm, rfl, hx, ?_⟩
  exact ⟨hn, Shows.of_owned (xs := xs.map (Value.int .u32)) (by simpa using hu) hu.lt⟩
theorem head21 : pathsK [(2, [1, 23456])] [(2, [70000])] = [(2, [1]), (2, [70000])] := by
  unfold pathsK
  rw [show lenL [(2, [1, 23456])] = 2 from rfl, show lenL [(2, [70000])] = 1 from rfl, if_neg (by decide)]
  rw [show ((2 : Nat) : Int) - ((1 : Nat) : Int) = 1 from rfl, headK_part (by decide) ⟨rfl, by decide⟩]
  rfl
set_option maxRecDepth 100000 in
set_option maxHeartbeats 1600000 in
theorem alive21_any (w : World) (ht : Tens w) (hb : Brk w) : Calls Tryd.prog 7 #[] w fun e w' => e = .returned (.bool true) ∧ Below w.heap.size w w' := by
  have HT := Lib.hid ht
  have HB := Lib.hid hb
  have hb1 := bl_alloc (bl_refl w) (.cells #[.int .u32 1, .int .u32 23456] 40)
  have o1 := Own.new w 40 #[.int .u32 1, .int .u32 23456]
  clear ht hb
  go_enter Tryd.func7, Tryd.ntmps7
  go_wp2_with fail
  go_at_call 20
  refine (seq21_any _ _ _ _).mono ?_
  rintro e w2 ⟨g1, rfl, p1, hb2⟩
  have o2 := o1.step hb2
  have hb3 := bl_trans hb1 hb2
  clear o1 hb1 hb2
  have hb4 := bl_alloc hb3 (.cells #[.int .u32 70000] 40)
  have o3 := o2.alloc (.cells #[.int .u32 70000] 40)
  have p3 := p1.alloc (.cells #[.int .u32 70000] 40)
  have q3 := Own.new w2 40 #[.int .u32 70000]
  clear o2 p1 hb3
  go_wp2_with fail
  go_at_call 20
  refine (seq21_any _ _ _ _).mono ?_
  rintro e w3 ⟨g2, rfl, p4, hb5⟩
  have hb6 := bl_trans hb4 hb5
  have s1 := Lib.hid (segs_seq (p3.step hb5) (xs := [1, 23456]) (o3.step hb5) rfl (Nat.le_refl _) (by decide) (by decide))
  have s2 := Lib.hid (segs_seq p4 (xs := [70000]) (q3.step hb5) rfl (Nat.le_refl _) (by decide) (by decide))
  have hP := Lib.hid (mpaths_any _ 1 1 _ 1 1 _ _ w3 s1.out s2.out (by omega) (by omega) (by intro s hs; rw [List.mem_singleton] at hs; subst hs; dsimp only; omega) (by intro s hs; rw [List.mem_singleton] at hs; subst hs; dsimp only; omega) rfl)
  clear o3 p3 q3 p4 hb4 hb5
  go_wp2_with fail
  refine hP.out.mono ?_
  rintro e w4 ⟨v4, L, rfl, hr, hL, hb7⟩
  obtain ⟨A4, c4, rfl, hS⟩ := hr.segs
  have hb8 := bl_trans hb6 hb7
  obtain ⟨A5, c5, A6, c6, rfl⟩ := sg_two_of (hL.out.1.trans head21) (sgn_of hS)
  have hT := Lib.hid (stext_yes _ 2 c4 _ w4 (HT.out.below hb8) (HB.out.below hb8) hS (by omega) rfl)
  rw [ex21_txt] at hT
  clear hr hS hb6 hb7 hP
  go_wp2_with fail
  refine hT.out.mono ?_
  rintro e w5 ⟨rfl, hb9⟩
  have hb10 := bl_trans hb8 hb9
  go_wp2
  go_ret
  exact ⟨rfl, hb10⟩
set_option maxRecDepth 100000 in
set_option maxHeartbeats 1600000 in
theorem right21_any (A : Option Addr) (n c : Nat) (ss : List Sg) (w : World) (h : Segs w w.heap.size A n ss) (hm : n ≤ maxLen) :
    Calls Tryd.prog 6 #[.slice A n c] w fun e w' => e = .returned (.bool (fewB ss && ss.all (sgOk 4))) ∧ Below w.heap.size w w' := by
  have h1 := Lib.hid (few_any A n c ss w h hm)
  have HV := Lib.hid h
  by_cases hf : fewB ss = true
  · have hN := h.1
    obtain ⟨f1, f2⟩ := few_lenV hf
    have h2 := Lib.hid (rvalid_any A n c ss w h (by omega) (fun s hs => Nat.le_trans (f2 s hs) (by omega)))
    rw [hf] at h1 ⊢
    rw [Bool.true_and]
    generalize ss.all (sgOk 4) = D at *
    clear h hf f1 f2 hm hN HV
    go_enter Tryd.func6, Tryd.ntmps6
    go_wp2_with fail
    refine h1.out.mono ?_
    rintro e w' ⟨rfl, rfl⟩
    go_wp2_with fail
    refine h2.out.mono ?_
    rintro e w' ⟨rfl, hb⟩
    go_wp2
    go_ret
    exact ⟨rfl, hb⟩
  · have hf' : fewB ss = false := by simpa using hf
    rw [hf'] at h1 ⊢
    rw [Bool.false_and]
    clear h hf hf' HV hm
    go_enter Tryd.func6, Tryd.ntmps6
    go_wp2_with fail
    refine h1.out.mono ?_
    rintro e w' ⟨rfl, rfl⟩
    go_wp2
    go_ret
    exact ⟨rfl, bl_refl _⟩
end Go.Proofs.YtniheakafkakhabDoor

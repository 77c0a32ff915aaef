/- NoticeSame: the walk -/
import Derived.Test.YtalmmddmdnkifaaDoorNtF
namespace Go.Proofs.YtalmmddmdnkifaaDoor
open Go.RowKit Go.Sort

theorem nt_store {w : World} {base : Nat} {e : TypeId} {n k : Nat} {v : Value} {ys : List Int} (h : w.ownsRow base e 1 v n (ys.map (Value.int .u8))) (hk : k < n) :
    ∃ b c, v = .slice (some ⟨b, 0, none⟩) n c ∧ base ≤ b ∧ b < w.heap.size ∧ w.cell? ⟨b, k, none⟩ = some (.int .u8 (nth ys k)) ∧ w.frozen? ⟨b, k, none⟩ = false ∧
      ∀ z : Int, (w.setCell ⟨b, k, none⟩ (.int .u8 z)).ownsRow base e 1 v n ((ys.set k z).map (Value.int .u8)) ∧ w.grownBy (w.setCell ⟨b, k, none⟩ (.int .u8 z)) (some b) := by
  have hlen : ys.length = n := by have := h.1; simpa using this
  have h0 := h
  rcases h.2 with ⟨_, h2⟩ | ⟨g, cap, cur, rfl, hb, hg, _⟩
  · omega
  · have hc := h0.cellAt k (by omega)
    rw [List.getElem?_map, nth_some (by omega)] at hc
    refine ⟨g, cap, rfl, hb, (Array.getElem?_eq_some_iff.1 hg).1, hc, h0.frozenAt k, fun z => ?_⟩
    have hst := h0.stored k (.int .u8 z)
    refine ⟨?_, only_setCell (p := ⟨g, k, none⟩) (World.grownBy.refl w _) rfl _⟩
    rw [List.map_set]
    exact hst.1
theorem bytes_len {w : World} {B g m n : Nat} {zs : List Int} (h : Bytes w B (some ⟨g, 0, none⟩) m zs) (hn : m = n) : Bytes w B (some ⟨g, 0, none⟩) n zs := hn ▸ h
set_option maxRecDepth 100000 in
/-- The form of a notice, or none. -/
theorem rntbytes_any (c s : Int) (A : Option Addr) (n cp : Nat) (xs : List Int) (w : World) (hx : Bytes w w.heap.size A n xs) :
    Calls Tryd.prog 16 #[.agg #[.int .i64 c, .int .i64 s, .slice A n cp]] w fun e w' => ∃ A2 m c2 F, e = .returned (.tuple #[.slice A2 m c2, .bool (ntOk c s n)]) ∧ Bytes w' w'.heap.size A2 m F ∧ m ≤ 65516 ∧ Below w.heap.size w w' := by
  cases hk : ntOk c s n with
  | false =>
    refine (rntbytes_no c s A n cp w hk).mono ?_
    rintro e w' ⟨rfl, hb⟩
    exact ⟨_, _, _, [], rfl, Bytes.nil _ _ _, by omega, hb⟩
  | true =>
    refine (rntbytes_yes c s A n cp xs w hx hk).mono ?_
    rintro e w' ⟨v, rfl, ho, hb⟩
    obtain ⟨A2, c2, rfl, _, hs⟩ := own_val ho
    obtain ⟨hc, hs2, hn⟩ := ntOk_iff.1 hk
    exact ⟨A2, _, c2, ntForm c s xs, rfl, ⟨by rw [ntForm_len, ← hx.1], ntForm_range hc hs2 hx.2.1, hs⟩, by omega, hb⟩
set_option maxRecDepth 100000 in
/-- What some bytes are parsed to: its data lie in new memory. -/
theorem ntparse_any (A : Option Addr) (n c : Nat) (xs : List Int) (w : World) (hx : Bytes w w.heap.size A n xs) (hnc : n ≤ c) :
    Calls Tryd.prog 18 #[.slice A n c] w fun e w' => ∃ y0 y1 ok, ∃ (A2 : Option Addr) (q c2 : Nat) (zs : List Int), e = .returned (.tuple #[.agg #[.int .i64 y0, .int .i64 y1, .slice A2 q c2], .bool ok]) ∧ w'.ownsRow w.heap.size 5 1 (.slice A2 q c2) q (zs.map (Value.int .u8)) ∧ q ≤ 65514 ∧ Below w.heap.size w w' := by
  by_cases h : n < 2 ∨ 65516 < n
  · refine (ntparse_no A n c w h).mono ?_
    rintro e w' ⟨rfl, hb⟩
    exact ⟨0, 0, false, none, 0, 0, [], rfl, World.ownsRow_nil _ _ _ _, by omega, hb⟩
  · refine (ntparse_yes A n c xs w hx (by omega) (by omega) hnc).mono ?_
    rintro e w' ⟨g, rfl, hg, ho, hb⟩
    refine ⟨_, _, true, some ⟨g, 0, none⟩, n - 2, n - 2, xs.drop 2, rfl, row_two ho ?_ hg (by unfold maxLen; omega), by omega, hb⟩
    rw [List.length_map, List.length_drop, ← hx.1]
set_option maxRecDepth 100000 in
set_option maxHeartbeats 800000 in
theorem ntsames_early (c s : Int) (A : Option Addr) (n cp : Nat) (c' s' : Int) (A' : Option Addr) (n' cp' : Nat) (w : World) (ht : Tens w) (hN : NNames w) (hm : n ≤ maxLen) (hm' : n' ≤ maxLen) (h : 600 < n ∨ 600 < n') :
    Calls Tryd.prog 3 #[.agg #[.int .i64 c, .int .i64 s, .slice A n cp], .agg #[.int .i64 c', .int .i64 s', .slice A' n' cp']] w fun e w' => e = .returned (.bool true) ∧ Below w.heap.size w w' := by
  unfold maxLen at hm hm'
  have hb := bl_alloc (bl_alloc (bl_refl w) (.cells #[.int .i64 c, .int .i64 s, .slice A n cp] 24)) (.cells #[.int .i64 c', .int .i64 s', .slice A' n' cp'] 24)
  by_cases h1 : 600 < n
  · have d1 : decide ((600 : Int) < (n : Int)) = true := by simp; omega
    clear h
    go_enter Tryd.func3, Tryd.ntmps3
    go_wp2_with fail
    refine (alive18_any _ (ht.below hb) (hN.below hb)).mono ?_
    rintro e w1 ⟨rfl, hb1⟩
    go_wp2
    go_ret
    exact ⟨rfl, bl_trans hb hb1⟩
  · have d1 : decide ((600 : Int) < (n : Int)) = false := by simp; omega
    have d2 : decide ((600 : Int) < (n' : Int)) = true := by simp; omega
    clear h
    go_enter Tryd.func3, Tryd.ntmps3
    go_wp2_with fail
    refine (alive18_any _ (ht.below hb) (hN.below hb)).mono ?_
    rintro e w1 ⟨rfl, hb1⟩
    go_wp2
    go_ret
    exact ⟨rfl, bl_trans hb hb1⟩
set_option maxRecDepth 100000 in
set_option maxHeartbeats 1600000 in
theorem ntsames_main (c s : Int) (A : Option Addr) (n cp : Nat) (xs : List Int) (c' s' : Int) (A' : Option Addr) (n' cp' : Nat) (ys : List Int) (w : World) (ht : Tens w) (hN : NNames w) (hx : Bytes w w.heap.size A n xs) (hy : Bytes w w.heap.size A' n' ys) (h : n ≤ 600) (h' : n' ≤ 600) :
    Calls Tryd.prog 3 #[.agg #[.int .i64 c, .int .i64 s, .slice A n cp], .agg #[.int .i64 c', .int .i64 s', .slice A' n' cp']] w fun e w' => e = .returned (.bool true) ∧ Below w.heap.size w w' := by
  have hb := bl_alloc (bl_alloc (bl_refl w) (.cells #[.int .i64 c, .int .i64 s, .slice A n cp] 24)) (.cells #[.int .i64 c', .int .i64 s', .slice A' n' cp'] 24)
  have o1 := (Own.new w 24 #[.int .i64 c, .int .i64 s, .slice A n cp]).alloc (.cells #[.int .i64 c', .int .i64 s', .slice A' n' cp'] 24)
  have o2 := Own.new (w.alloc (.cells #[.int .i64 c, .int .i64 s, .slice A n cp] 24)) 24 #[.int .i64 c', .int .i64 s', .slice A' n' cp']
  rw [show (w.alloc (.cells #[.int .i64 c, .int .i64 s, .slice A n cp] 24)).heap.size = w.heap.size + 1 by simp] at o2
  have d1 : decide ((600 : Int) < (n : Int)) = false := by simp; omega
  have d2 : decide ((600 : Int) < (n' : Int)) = false := by simp; omega
  have HX := Lib.hid hx
  have HY := Lib.hid hy
  clear hx hy
  go_enter Tryd.func3, Tryd.ntmps3
  go_wp2_with fail
  refine (rntbytes_any c s A n cp xs _ ((HX.out.below hb).more hb.size)).mono ?_
  rintro e w1 ⟨AF, m, cF, F, rfl, hF, hm, hb1⟩
  generalize ntOk c s n = q at *
  go_wp2_with fail
  refine (clone_any AF m cF F _ hF (by omega)).mono ?_
  rintro e w2 ⟨v, rfl, ho3, hb2⟩
  obtain ⟨A3, c3, rfl, hc3, hs3⟩ := own_val ho3
  have hB3 : Bytes w2 w2.heap.size A3 m F := ⟨hF.1, hF.2.1, hs3⟩
  have hF2 := (hF.below hb2).more hb2.size
  have hb3 := bl_trans (bl_trans hb hb1) hb2
  have u1 := (o1.step hb1).step hb2
  have u2 := (o2.step hb1).step hb2
  have H3 := Lib.hid hB3
  have HF := Lib.hid hF2
  clear hF hF2 hB3 hs3 ho3 o1 o2 hb hb1 hb2
  go_wp2_with fail
  refine (ntparse_any A3 m c3 F _ H3.out hc3).mono ?_
  rintro e w3 ⟨y0, y1, ok, A4, r, c4, zs, rfl, ho4, hr, hb4⟩
  have hbP := bl_alloc hb4 (.cells #[.int .i64 y0, .int .i64 y1, .slice A4 r c4] 29)
  have oP := Own.new w3 29 #[.int .i64 y0, .int .i64 y1, .slice A4 r c4]
  have hoP := ho4.alloc (.cells #[.int .i64 y0, .int .i64 y1, .slice A4 r c4] 29)
  have hob : ∀ j, (Value.slice A4 r c4).ownBlock = some j → j < w3.heap.size := fun j hj => (ho4.lt j hj).2
  have hPs := hb4.size
  have HOB := Lib.hid hob
  obtain ⟨p0, p1, p2⟩ := nt_cells oP
  clear hob ho4 hb4
  go_wp2_with fail
  go_loopw [10, 37] (fun _ i wr => ∃ (k : Nat) (ys : List Int), k ≤ r ∧ i = .int .i64 k ∧ wr.ownsRow w2.heap.size 5 1 (.slice A4 r c4) r (ys.map (Value.int .u8)) ∧ Own wr w3.heap.size 29 #[.int .i64 y0, .int .i64 y1, .slice A4 r c4] ∧ Below w2.heap.size w2 wr) (fun _ i _ => r - (intOf i).toNat)
  case atStart => exact ⟨0, zs, Nat.zero_le _, rfl, hoP, oP, hbP⟩
  case round =>
    obtain ⟨k, zs', hk, rfl, hor, oPr, hbr⟩ := hrel
    clear hoP oP hbP p0 p1 p2
    obtain ⟨p0, p1, p2⟩ := nt_cells oPr
    by_cases hlt : k < r
    · obtain ⟨b, c', hA1, hbase, hbl, hcell, hfz, hst⟩ := nt_store hor hlt
      injection hA1 with hA1 _ hcc
      subst hA1 hcc
      have hb3' := HOB.out b rfl
      have HST := Lib.hid hst
      clear hst
      go_wp2
      have h2 := HST.out ((nth zs' k + 1) % 256)
      go_roundw
      case rel => exact ⟨k + 1, _, by omega, by go_num, h2.1, oPr.grown h2.2 (by intro e; have := Option.some.inj e; omega), bl_only hbr h2.2 hbase⟩
      case measure => simp [intOf]; omega
    · have hb5 := bl_trans hb3 hbr
      have v1 := u1.step hbr
      have v2 := u2.step hbr
      have HX5 := Lib.hid ((HX.out.below hb5).more hb5.size)
      have HY5 := Lib.hid ((HY.out.below hb5).more hb5.size)
      have H35 := Lib.hid ((H3.out.below hbr).more hbr.size)
      have HF5 := Lib.hid ((HF.out.below hbr).more hbr.size)
      have ht5 := ht.below hb5
      have hN5 := hN.below hb5
      clear u1 u2 hb3 hbr oPr hor p0 p1 p2
      go_wp2_with fail
      generalize w.heap.size + 1 = g2 at *
      have a0 := Lib.hid (rg_of (w := wr) (fun W hW => alive18_any W (ht5.below hW) (hN5.below hW)))
      have a1 := Lib.hid (rg_of (w := wr) (fun W hW => ntsame_any c s A n cp xs c' s' A' n' cp' ys W ((HX5.out.below hW).more hW.size) ((HY5.out.below hW).more hW.size)))
      have a2 := Lib.hid (rg_of (w := wr) (fun W hW => rntsame_any c s A n cp xs c' s' A' n' cp' ys W ((HX5.out.below hW).more hW.size) ((HY5.out.below hW).more hW.size)))
      have a3 := Lib.hid (rg_of (w := wr) (v := .bool true) (fun W hW => (ntsame_any c s A n cp xs c s A n cp xs W ((HX5.out.below hW).more hW.size) ((HX5.out.below hW).more hW.size)).mono (fun e w' h => ⟨by rw [h.1]; simp [ntSame], h.2⟩)))
      have a4 := Lib.hid (rg_of (w := wr) (v := .bool true) (fun W hW => (bytesEq_same A3 AF m m c3 cF F W _ _ ((H35.out.below hW).more hW.size) ((HF5.out.below hW).more hW.size) (by omega) (by omega)).mono (fun e w' h => ⟨h.1, by obtain ⟨j, rfl⟩ := h.2; exact bl_drewN (bl_refl W) j⟩)))
      generalize ntSame c s xs c' s' ys = Q at *
      cases q
      · refine wp_region_quiet_below (by kernel_rfl) (by kernel_rfl) ?_
        repeat (first
          | go_big_quiet_skip
          | (refine wpQuiet_load_row (by rfl) 24 _ rfl w.heap.size rfl 24 #[.int .i64 c, .int .i64 s, .slice A n cp] (.struct (Tryd.prog.fieldsOf 24)) v1.rg (by kernel_rfl) rfl (rnt_info _ _ _) ?_; go_simp)
          | (refine wpQuiet_load_row (by rfl) 24 _ rfl g2 rfl 24 #[.int .i64 c', .int .i64 s', .slice A' n' cp'] (.struct (Tryd.prog.fieldsOf 24)) v2.rg (by kernel_rfl) rfl (rnt_info _ _ _) ?_; go_simp)
          | go_big_quiet_step (with_reducible first | exact a0.out _ _ | exact a1.out _ _ | exact a2.out _ _ | exact a3.out _ _ | exact a4.out _ _))
        refine wpQuiet_nil ?_
        rintro ⟨dq, osq⟩
        have hb6 := bl_trans hb5 (below_regrown wr dq osq)
        generalize grow (redrawn wr dq) osq = w6 at *
        go_wp2
        go_ret
        exact ⟨by simp, hb6⟩
      · refine wp_region_quiet_below (by kernel_rfl) (by kernel_rfl) ?_
        repeat (first
          | go_big_quiet_skip
          | (refine wpQuiet_load_row (by rfl) 24 _ rfl w.heap.size rfl 24 #[.int .i64 c, .int .i64 s, .slice A n cp] (.struct (Tryd.prog.fieldsOf 24)) v1.rg (by kernel_rfl) rfl (rnt_info _ _ _) ?_; go_simp)
          | (refine wpQuiet_load_row (by rfl) 24 _ rfl g2 rfl 24 #[.int .i64 c', .int .i64 s', .slice A' n' cp'] (.struct (Tryd.prog.fieldsOf 24)) v2.rg (by kernel_rfl) rfl (rnt_info _ _ _) ?_; go_simp)
          | go_big_quiet_step (with_reducible first | exact a0.out _ _ | exact a1.out _ _ | exact a2.out _ _ | exact a3.out _ _ | exact a4.out _ _))
        refine wpQuiet_nil ?_
        rintro ⟨dq, osq⟩
        have hb6 := bl_trans hb5 (below_regrown wr dq osq)
        generalize grow (redrawn wr dq) osq = w6 at *
        go_wp2
        go_ret
        exact ⟨by simp, hb6⟩
set_option maxRecDepth 100000 in
theorem ntsames_all (c s : Int) (A : Option Addr) (n cp : Nat) (xs : List Int) (c' s' : Int) (A' : Option Addr) (n' cp' : Nat) (ys : List Int) (w : World) (ht : Tens w) (hN : NNames w) (hx : Bytes w w.heap.size A n xs) (hm : n ≤ maxLen) (hy : Bytes w w.heap.size A' n' ys) (hm' : n' ≤ maxLen) :
    Calls Tryd.prog 3 #[.agg #[.int .i64 c, .int .i64 s, .slice A n cp], .agg #[.int .i64 c', .int .i64 s', .slice A' n' cp']] w fun e w' => e = .returned (.bool true) ∧ Below w.heap.size w w' := by
  by_cases h : 600 < n ∨ 600 < n'
  · exact ntsames_early c s A n cp c' s' A' n' cp' w ht hN hm hm' h
  · exact ntsames_main c s A n cp xs c' s' A' n' cp' ys w ht hN hx hy (by omega) (by omega)
end Go.Proofs.YtalmmddmdnkifaaDoor

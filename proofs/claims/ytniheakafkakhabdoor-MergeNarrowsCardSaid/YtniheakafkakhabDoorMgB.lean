/- merge.Head -/
import Derived.Test.YtniheakafkakhabDoorMgA
import Derived.ScopeJumps
namespace Go.Proofs.YtniheakafkakhabDoor
open Go.RowKit

/-- A row of segments whose numbers lie below a block. -/
def HRow (w : World) (B : Nat) (v : Value) (H : List Sg) : Prop := w.ownsRow B 31 2 v H.length (cellsS H) ∧ ∀ s ∈ H, SgE w B s
theorem HRow.push {w X w' : World} {B : Nat} {v v' : Value} {H : List Sg} {q : Sg} (h : HRow w B v H) (hB : B ≤ w.heap.size) (hX : Below w.heap.size w X) (hq : SgE X B q) (hown : w'.ownsRow B 31 2 v' (H.length + 1) (cellsS H ++ [.int .i64 q.k, .slice q.A q.n q.c])) (hg : X.grownBy w' v.ownBlock) : HRow w' B v' (H ++ [q]) := by
  have hb : Below B X w' := ⟨hg.os, hg.tape, hg.output, hg.size, fun i hi => hg.block i (Nat.lt_of_lt_of_le hi (Nat.le_trans hB hX.size)) (fun e => by have := (row_typed h.1 e.symm).2; omega)⟩
  refine ⟨?_, fun s hs => ?_⟩
  · rw [cellsS_snoc, List.length_append, List.length_singleton]
    exact hown
  · rcases List.mem_append.1 hs with hs | hs
    · exact ((h.2 s hs).below (hX.mono hB)).below hb
    · rw [List.mem_singleton] at hs
      subst hs
      exact hq.below hb
theorem u32s_front {w : World} {B n : Nat} {A : Option Addr} {xs : List Int} (h : U32s w B A n xs) {k : Nat} (hk : k ≤ n) : U32s w B A k (xs.take k) :=
  ⟨by rw [List.length_take]; have := h.1; omega, by rw [List.map_take]; exact h.2.front k⟩
theorem seg_one {w : World} {g : Nat} {s : Sg} (h : Own w g 31 #[.int .i64 s.k, .slice s.A s.n s.c]) (hs : SgE w w.heap.size s) : Segs w w.heap.size (some ⟨g, 0, none⟩) 1 [s] := by
  refine ⟨rfl, fun t ht => by rw [List.mem_singleton] at ht; subst ht; exact hs, .inr ⟨g, 0, rfl, h.lt, fun i t hi => ?_⟩⟩
  rcases i with _ | i
  · cases hi
    exact ⟨h.cell (i := 0) rfl, h.cell (i := 1) rfl⟩
  · simp at hi
theorem len_one (s : Sg) (hn : s.n = s.xs.length) : lenS [s] 1 = segLen (sgK s) := by
  rw [lenS_map (fun t ht => by rw [List.mem_singleton] at ht; subst ht; exact hn)]
  simp [lenL]
/-- What Head leaves. -/
def HeadR (w : World) (K : List (Int × List Int)) (m : Nat) (e : Ending) (w' : World) : Prop := ∃ v L, e = .returned v ∧ SRow w' w.heap.size v L ∧ Hid (L.map sgK = K ∧ L.length ≤ m ∧ ∀ s ∈ L, s.n ≤ 1000) ∧ Below w.heap.size w w'
set_option maxRecDepth 100000 in
theorem sg_desc : Tryd.prog.underlying 31 = some (.struct (Tryd.prog.fieldsOf 31)) := by kernel_rfl
set_option maxRecDepth 100000 in
theorem sg_info (a b : Value) : (Tryd.prog.info? 31).map (·.size) = some (#[a, b] : Array Value).size := by kernel_rfl
theorem headK_yes {n : Int} {p : Int × List Int} {L : List (Int × List Int)} (h : (segLen p : Int) ≤ n) : headK n (p :: L) = p :: headK (n - segLen p) L := by rw [headK, if_pos h]
theorem headK_part {n : Int} {p : Int × List Int} {L : List (Int × List Int)} (h : ¬ (segLen p : Int) ≤ n) (h2 : p.1 = 2 ∧ 0 < n) : headK n (p :: L) = [(2, p.2.take n.toNat)] := by rw [headK, if_neg h, if_pos h2]
theorem headK_end {n : Int} {p : Int × List Int} {L : List (Int × List Int)} (h : ¬ (segLen p : Int) ≤ n) (h2 : ¬ (p.1 = 2 ∧ 0 < n)) : headK n (p :: L) = [] := by rw [headK, if_neg h, if_neg h2]
theorem drop_sgth {ss : List Sg} {k : Nat} (h : k < ss.length) : ss.drop k = sgth ss k :: ss.drop (k + 1) := by
  rw [List.drop_eq_getElem_cons h]; simp [sgth, h]
set_option maxRecDepth 100000 in
set_option maxHeartbeats 6400000 in
theorem mhead_any (n : Int) (hn : n ≤ 9223372036854775807) (A : Option Addr) (N c : Nat) (ss : List Sg) (w : World) (h : Segs w w.heap.size A N ss) (hN : N ≤ 500) (hs : ∀ s ∈ ss, s.n ≤ 1000) (hv : ss.all (sgOk 4) = true) :
    Calls Tryd.prog 8 #[.int .i64 n, .slice A N c] w fun e w' => HeadR w (headK n (ss.map sgK)) 501 e w' := by
  have HN := Lib.hid h.1
  have HV := Lib.hid h
  have HS := Lib.hid hs
  by_cases h1 : n < 1
  · have hR := Lib.hid (headK_zero (n := n) (by omega) (one_all hv (sgn_of h)))
    clear h hs hv
    go_enter Tryd.func8, Tryd.ntmps8
    go_wp2_with fail
    refine wp_scope_jumps 0 (fun _ _ => False) (fun _ _ => 0) rfl ?_ ?_
    rotate_left
    · rintro a' w' h
      cases h
    go_wp2
    dsimp only [Exit.jump]
    go_ret
    exact ⟨_, [], rfl, SRow.nil _ _, Lib.hid ⟨hR.out.symm, Nat.zero_le _, fun _ h => by cases h⟩, bl_refl w⟩
  · have h1' : 1 ≤ n := by omega
    clear h hs hv h1'
    go_enter Tryd.func8, Tryd.ntmps8
    go_wp2_with fail
    refine wp_scope_jumps 0 (fun _ _ => False) (fun _ _ => 0) rfl ?_ ?_
    rotate_left
    · rintro a' w' h
      cases h
    go_wp2_with fail
    refine wp_label ?_
    dsimp only [Exit.then]
    go_wp2_with fail
    go_loopw [0, 5, 13] (fun nv hv i wr => ∃ (j : Nat) (m : Int) (H : List Sg), j ≤ N ∧ i = .int .i64 j ∧ nv = .int .i64 m ∧ 0 ≤ m ∧ m ≤ 9223372036854775807 ∧ HRow wr w.heap.size hv H ∧ Hid (headK n (ss.map sgK) = H.map sgK ++ headK m ((ss.drop j).map sgK) ∧ H.length = j ∧ ∀ s ∈ H, s.n ≤ 1000) ∧ Below w.heap.size w wr) (fun _ _ i _ => N - (intOf i).toNat)
    case atStart => exact ⟨0, n, [], Nat.zero_le _, rfl, rfl, by omega, hn, ⟨World.ownsRow_nil _ _ _ _, fun _ h => by cases h⟩, Lib.hid ⟨by rw [List.drop_zero]; rfl, rfl, fun _ h => by cases h⟩, bl_refl w⟩
    case round =>
      obtain ⟨j, m, H, hj, rfl, rfl, hm0, hm1, hrow, hH, hb⟩ := hrel
      obtain ⟨A1, c1, rfl⟩ := own_form hrow.1
      have hHl : H.length ≤ 500 := by have := hH.out.2.1; omega
      by_cases hlt : j < N
      · obtain ⟨b, o, rfl, hbB, e0, e1⟩ := (HV.out.below hb).at_ hlt
        have hj1 := Lib.hid (show j < ss.length by rw [← HN.out]; exact hlt)
        have hDr := Lib.hid (drop_sgth hj1.out)
        have hE := Lib.hid (show SgE wr w.heap.size (sgth ss j) from SgE.below (HV.out.2.1 _ (sgth_mem hj1.out)) hb)
        have hsn := HS.out _ (sgth_mem hj1.out)
        have hH1 := hH.out
        rw [hDr.out, List.map_cons] at hH1
        have hL1 := Lib.hid (len_one (sgth ss j) hE.out.2.2.2.2.1)
        generalize sgth ss j = s at *
        obtain ⟨sk, sA, sn, sc, sx⟩ := s
        rw [show sgK (⟨sk, sA, sn, sc, sx⟩ : Sg) = (sk, sx) from rfl] at hH1 hL1
        dsimp only at e0 e1 hsn
        have hsl : segLen (sk, sx) ≤ 1000 := by
          have := hE.out.2.2.2.2.1
          dsimp only at this
          unfold segLen
          split
          · omega
          · split
            · show sx.length ≤ 1000
              omega
            · omega
        have hH2 := Lib.hid hH1
        have hbs := hb.size
        have bX := bl_alloc (bl_refl wr) (.cells #[.int .i64 sk, .slice sA sn sc] 31)
        have oX := Own.new wr 31 #[.int .i64 sk, .slice sA sn sc]
        have bX2 := bl_alloc bX (.cells #[.int .i64 sk, .slice sA sn sc] 31)
        have oS := Own.new (wr.alloc (.cells #[.int .i64 sk, .slice sA sn sc] 31)) 31 #[.int .i64 sk, .slice sA sn sc]
        have oX2 := oX.alloc (.cells #[.int .i64 sk, .slice sA sn sc] 31)
        rw [World.size_alloc] at oS
        have hE2 := Lib.hid (show SgE ((wr.alloc (.cells #[.int .i64 sk, .slice sA sn sc] 31)).alloc (.cells #[.int .i64 sk, .slice sA sn sc] 31)) w.heap.size ⟨sk, sA, sn, sc, sx⟩ from hE.out.below (bX2.mono hbs))
        have hLen := Lib.hid (slength_any (some ⟨wr.heap.size + 1, 0, none⟩) 1 1 [(⟨sk, sA, sn, sc, sx⟩ : Sg)] _ (seg_one (s := ⟨sk, sA, sn, sc, sx⟩) oS (hE2.out.more (Nat.le_trans hbs bX2.size))) (by omega) (by intro t ht; rw [List.mem_singleton] at ht; subst ht; exact hsn))
        rw [hL1.out] at hLen
        have hsx : sn = sx.length := hE.out.2.2.2.2.1
        have hSX := Lib.hid hsx
        have hnc : sn ≤ sc := hE.out.1
        have hwk : Hid ((Lit.int .i64 sk).wf = true) := Lib.hid hE.out.2.2.1
        have HRw := Lib.hid hrow
        have HB := Lib.hid hb
        clear hE hH1 hrow hb hsx
        obtain ⟨z, hz⟩ : ∃ z, segLen (sk, sx) = z := ⟨_, rfl⟩
        rw [hz] at hLen hsl
        have HZ := Lib.hid hz
        clear hz
        go_wp2_with (refine wpList_load_row rfl 31 _ rfl wr.heap.size rfl 31 #[.int .i64 sk, .slice sA sn sc] (0, 0) (.struct (Tryd.prog.fieldsOf 31)) oX sg_desc rfl (sg_info _ _) ?_)
        refine hLen.out.mono ?_
        rintro e w2 ⟨rfl, hb2⟩
        have bX3 := bl_trans bX2 hb2
        have oX3 := oX2.step hb2
        have hE3 : SgE w2 w.heap.size ⟨sk, sA, sn, sc, sx⟩ := hE2.out.below (hb2.mono (Nat.le_trans hbs bX2.size))
        clear oX oX2 oS bX bX2 hE2 hLen hb2
        have q0 := oX3.cell (i := 0) (v := .int .i64 sk) rfl
        have q1 := oX3.cell (i := 1) (v := .slice sA sn sc) rfl
        by_cases hle : (z : Int) ≤ m
        · have hK := Lib.hid (headK_yes (n := m) (p := (sk, sx)) (L := (ss.drop (j + 1)).map sgK) (by rw [HZ.out]; exact hle))
          rw [HZ.out] at hK
          have bX4 := bl_alloc bX3 (.cells #[.int .i64 sk, .slice sA sn sc] 31)
          have oS4 := Own.new w2 31 #[.int .i64 sk, .slice sA sn sc]
          have hr4 := Lib.hid (own_belowG HRw.out.1 bX4)
          have hE4 := Lib.hid (hE3.below ((bl_alloc (bl_refl w2) (.cells #[.int .i64 sk, .slice sA sn sc] 31)).mono (Nat.le_trans hbs bX3.size)))
          have hbs4 := Nat.le_trans hbs bX4.size
          have hw1 : IntKind.i64.wrap (m - (z : Int)) = m - (z : Int) := IntWalk.i64_in _ (by omega)
          clear hE3
          go_wp2_with (first
            | (refine wpList_load_row rfl 31 _ rfl wr.heap.size rfl 31 #[.int .i64 sk, .slice sA sn sc] (0, 0) (.struct (Tryd.prog.fieldsOf 31)) oX3 sg_desc rfl (sg_info _ _) ?_)
            | (at_builtin; refine wpList_append_grow _ rfl _ _ rfl sl_segsM w.heap.size _ H.length _ rfl hr4.out (w2.heap.size + 1) (some ⟨w2.heap.size, 0, none⟩) 1 1 [.int .i64 sk, .slice sA sn sc] rfl rfl (Shows.of_owned (xs := [.int .i64 sk, .slice sA sn sc]) oS4 (Nat.lt_succ_self _)) (oneS _ _ _ _) (by unfold maxLen; omega) (by omega) hbs4 ?_; intro v5 w5 ho5 hg5))
          have hfin := HRw.out.push (q := ⟨sk, sA, sn, sc, sx⟩) hbs bX4 hE4.out ho5 hg5
          have hb5 := (bl_trans HB.out bX4).grown hg5 hbs4 (fun k hk => (row_typed hr4.out hk).2)
          have hF := Lib.hid (show headK n (ss.map sgK) = (H ++ [(⟨sk, sA, sn, sc, sx⟩ : Sg)]).map sgK ++ headK (m - (z : Int)) ((ss.drop (j + 1)).map sgK) ∧ (H ++ [(⟨sk, sA, sn, sc, sx⟩ : Sg)]).length = j + 1 ∧ ∀ s ∈ H ++ [(⟨sk, sA, sn, sc, sx⟩ : Sg)], s.n ≤ 1000 from ⟨by rw [hH2.out.1, hK.out, List.map_append, List.append_assoc]; rfl, by rw [List.length_append, hH2.out.2.1]; rfl, fun s hs => by
            rcases List.mem_append.1 hs with hs | hs
            · exact hH2.out.2.2 s hs
            · rw [List.mem_singleton] at hs
              subst hs
              exact hsn⟩)
          go_roundw
          case rel => exact ⟨j + 1, m - (z : Int), _, by omega, by go_num, rfl, by omega, by omega, hfin, hF, hb5⟩
          case measure => simp [intOf]; omega
        · have hle' : ¬ segLen (sk, sx) ≤ m := by rw [HZ.out]; exact hle
          by_cases hk2 : sk = 2 ∧ 0 < m
          · have hK := Lib.hid (headK_part (n := m) (p := (sk, sx)) (L := (ss.drop (j + 1)).map sgK) hle' hk2)
            have e1 : (sk == 2) = true := by simpa using hk2.1
            have e2 : decide (0 < m) = true := decide_eq_true hk2.2
            have hzn : z = sn := by
              have h0 := HZ.out
              unfold segLen at h0
              rw [if_neg (by omega), if_pos hk2.1] at h0
              rw [hSX.out]
              exact h0.symm
            have hm3 : m ≤ (sn : Int) := by omega
            have hk22 := hk2.1
            have hmn : m.toNat ≤ sn := by omega
            have hmc : m ≤ (sc : Int) := by omega
            clear hk2 hle' hzn
            subst hk22
            go_wp2_with fail
            refine wp_region_held_drew (S := fun Y => Own Y wr.heap.size 31 #[.int .i64 2, .slice sA sn sc]) (by kernel_rfl) oX3.drew (fun hHeld => ?_)
            refine wpAnyH_take (i := 0) (v := ?_) rfl (by kernel_rfl) (by kernel_rfl) (by kernel_rfl) (fun _ _ _ h => h) (Or.inl ⟨by rfl, ?_⟩) (by assumption) ?_
            rotate_left
            · (intro W hSw; have s0 : Own W wr.heap.size 31 #[.int .i64 2, .slice sA sn sc] := hSw; have q0 := s0.cell (i := 0) (v := .int .i64 2) rfl; have q1 := s0.cell (i := 1) (v := .slice sA sn sc) rfl; go_simp; try with_reducible rfl)
            simp only [Act.put, List.getElem_toArray, List.getElem_cons_zero, List.setIfInBounds_toArray, List.set_cons_zero, List.set_cons_succ]
            refine wpAnyH_take (i := 1) (v := ?_) rfl (by kernel_rfl) (by kernel_rfl) (by kernel_rfl) (fun _ _ _ h => h) (Or.inl ⟨by rfl, ?_⟩) (by assumption) ?_
            rotate_left
            · (intro W hSw; have s0 : Own W wr.heap.size 31 #[.int .i64 2, .slice sA sn sc] := hSw; have q0 := s0.cell (i := 0) (v := .int .i64 2) rfl; have q1 := s0.cell (i := 1) (v := .slice sA sn sc) rfl; go_simp; try with_reducible rfl)
            simp only [Act.put, List.getElem_toArray, List.getElem_cons_zero, List.getElem_cons_succ, List.setIfInBounds_toArray, List.set_cons_zero, List.set_cons_succ]
            refine wpAnyH_take (i := 2) (v := ?_) rfl (by kernel_rfl) (by kernel_rfl) (by kernel_rfl) (fun _ _ _ h => h) (Or.inl ⟨by rfl, ?_⟩) (by assumption) ?_
            rotate_left
            · (intro W hSw; have s0 : Own W wr.heap.size 31 #[.int .i64 2, .slice sA sn sc] := hSw; have q0 := s0.cell (i := 0) (v := .int .i64 2) rfl; have q1 := s0.cell (i := 1) (v := .slice sA sn sc) rfl; go_simp; try with_reducible rfl)
            simp only [Act.put, List.getElem_toArray, List.getElem_cons_zero, List.getElem_cons_succ, List.setIfInBounds_toArray, List.set_cons_zero, List.set_cons_succ]
            refine wpAnyH_take (i := 3) (v := ?_) rfl (by kernel_rfl) (by kernel_rfl) (by kernel_rfl) (fun _ _ _ h => h) (Or.inl ⟨by rfl, ?_⟩) (by assumption) ?_
            rotate_left
            · (intro W hSw; have s0 : Own W wr.heap.size 31 #[.int .i64 2, .slice sA sn sc] := hSw; have q0 := s0.cell (i := 0) (v := .int .i64 2) rfl; have q1 := s0.cell (i := 1) (v := .slice sA sn sc) rfl; go_simp; try with_reducible rfl)
            simp only [Act.put, List.getElem_toArray, List.getElem_cons_zero, List.getElem_cons_succ, List.setIfInBounds_toArray, List.set_cons_zero, List.set_cons_succ]
            refine wpAnyH_take (i := 4) (v := ?_) rfl (by kernel_rfl) (by kernel_rfl) (by kernel_rfl) (fun _ _ _ h => h) (Or.inl ⟨by rfl, ?_⟩) (by assumption) ?_
            rotate_left
            · (intro W hSw; have s0 : Own W wr.heap.size 31 #[.int .i64 2, .slice sA sn sc] := hSw; have q0 := s0.cell (i := 0) (v := .int .i64 2) rfl; have q1 := s0.cell (i := 1) (v := .slice sA sn sc) rfl; go_simp; try with_reducible rfl)
            simp only [Act.put, List.getElem_toArray, List.getElem_cons_zero, List.getElem_cons_succ, List.setIfInBounds_toArray, List.set_cons_zero, List.set_cons_succ]
            refine wpAnyH_take (i := 5) (v := ?_) rfl (by kernel_rfl) (by kernel_rfl) (by kernel_rfl) (fun _ _ _ h => h) (Or.inl ⟨by rfl, ?_⟩) (by assumption) ?_
            rotate_left
            · (intro W hSw; have s0 : Own W wr.heap.size 31 #[.int .i64 2, .slice sA sn sc] := hSw; have q0 := s0.cell (i := 0) (v := .int .i64 2) rfl; have q1 := s0.cell (i := 1) (v := .slice sA sn sc) rfl; go_simp; try with_reducible rfl)
            simp only [Act.put, List.getElem_toArray, List.getElem_cons_zero, List.getElem_cons_succ, List.setIfInBounds_toArray, List.set_cons_zero, List.set_cons_succ]
            refine wpAnyH_take (i := 6) (v := ?_) rfl (by kernel_rfl) (by kernel_rfl) (by kernel_rfl) (fun _ _ _ h => h) (Or.inl ⟨by rfl, ?_⟩) (by assumption) ?_
            rotate_left
            · (intro W hSw; have s0 : Own W wr.heap.size 31 #[.int .i64 2, .slice sA sn sc] := hSw; have q0 := s0.cell (i := 0) (v := .int .i64 2) rfl; have q1 := s0.cell (i := 1) (v := .slice sA sn sc) rfl; go_simp; try with_reducible rfl)
            simp only [Act.put, List.getElem_toArray, List.getElem_cons_zero, List.getElem_cons_succ, List.setIfInBounds_toArray, List.set_cons_zero, List.set_cons_succ]
            refine wpAnyH_ready (rs := [7]) (by kernel_rfl) (by simp) ?_
            refine (AllReadyH.cons rfl (fun K hK => ?_) AllReadyH.nil)
            go_simp
            refine hK.out _ _ hHeld (fun hHeld2 => ?_)
            clear hK K hHeld
            have hHeld := hHeld2
            clear hHeld2
            try simp only [Act.put, List.getElem_toArray, List.getElem_cons_zero, List.getElem_cons_succ, List.setIfInBounds_toArray, List.set_cons_zero, List.set_cons_succ]
            refine wpAnyH_ready (rs := [8]) (by kernel_rfl) (by simp) ?_
            refine (AllReadyH.cons rfl (fun K hK => ?_) AllReadyH.nil)
            go_simp
            refine hK.out _ _ ((oX3.alloc (.cells #[.int .i64 2, .slice sA m.toNat sc] 31)).drew) (fun hHeld2 => ?_)
            clear hK K hHeld
            have hHeld := hHeld2
            clear hHeld2
            try simp only [Act.put, List.getElem_toArray, List.getElem_cons_zero, List.getElem_cons_succ, List.setIfInBounds_toArray, List.set_cons_zero, List.set_cons_succ]
            have bX4 : Below wr.heap.size wr (w2.alloc (.cells #[.int .i64 2, .slice sA m.toNat sc] 31)).drew := bl_drewN (bl_alloc bX3 _) 1
            have oS4 : Own (w2.alloc (.cells #[.int .i64 2, .slice sA m.toNat sc] 31)).drew w2.heap.size 31 #[.int .i64 2, .slice sA m.toNat sc] := (Own.new w2 _ _).drew
            have hs4 : w2.heap.size < (w2.alloc (.cells #[.int .i64 2, .slice sA m.toNat sc] 31)).drew.heap.size := by simp
            have oX4 := (oX3.alloc (.cells #[.int .i64 2, .slice sA m.toNat sc] 31)).drew
            have hr4 := own_belowG HRw.out.1 bX4
            have hbs4 := Nat.le_trans hbs bX4.size
            have hE3d := hE3.below ((bl_drewN (bl_alloc (bl_refl w2) (.cells #[.int .i64 2, .slice sA m.toNat sc] 31)) 1).mono (Nat.le_trans hbs bX3.size))
            have hE4 : SgE ((w2.alloc (.cells #[.int .i64 2, .slice sA m.toNat sc] 31)).drewN 1) w.heap.size ⟨2, sA, m.toNat, sc, sx.take m.toNat⟩ := ⟨Nat.le_trans hmn hnc, hE3d.2.1, rfl, fun x hx => hE3d.2.2.2.1 x (List.mem_of_mem_take hx), u32s_front (show U32s _ w.heap.size sA sn sx from hE3d.2.2.2.2) hmn⟩
            change SgE (w2.alloc (.cells #[.int .i64 2, .slice sA m.toNat sc] 31)).drew w.heap.size _ at hE4
            clear hE3d
            generalize hg4 : (w2.alloc (.cells #[.int .i64 2, .slice sA m.toNat sc] 31)).drew = X4 at *
            clear hg4
            refine wpAnyH_ready (rs := [9]) (by kernel_rfl) (by simp) ?_
            refine (AllReadyH.cons rfl (fun K hK => ?_) AllReadyH.nil)
            refine step_append_at _ rfl _ _ rfl sl_segsM w.heap.size _ _ _ rfl hr4 _ (some ⟨w2.heap.size, 0, none⟩) 1 1 [.int .i64 2, .slice sA m.toNat sc] rfl rfl (Shows.of_owned (xs := [.int .i64 2, .slice sA m.toNat sc]) oS4 hs4) (oneS _ _ _ _) (by unfold maxLen; omega) (by omega) hbs4 ?_
            intro v5 w5 ho5 hg5 _
            have hfin := HRw.out.push (q := ⟨2, sA, m.toNat, sc, sx.take m.toNat⟩) hbs bX4 hE4 ho5 hg5
            have hb5 := (bl_trans HB.out bX4).grown hg5 hbs4 (fun k hk => (row_typed hr4 hk).2)
            have oX5 : Own w5 wr.heap.size 31 #[.int .i64 2, .slice sA sn sc] := oX4.grown hg5 (fun e => by have := (row_typed HRw.out.1 e.symm).1.lt; omega)
            refine hK.out _ _ oX5 (fun hHeld2 => ?_)
            clear hK K hHeld
            have hHeld := hHeld2
            clear hHeld2
            try simp only [Act.put, List.getElem_toArray, List.getElem_cons_zero, List.getElem_cons_succ, List.setIfInBounds_toArray, List.set_cons_zero, List.set_cons_succ]
            refine wpAnyH_ready (rs := [10]) (by kernel_rfl) (by simp) ?_
            refine (AllReadyH.cons rfl (fun K hK => ?_) AllReadyH.nil)
            go_simp
            refine hK.out _ _ oX5 (fun hHeld2 => ?_)
            clear hK K hHeld
            have hHeld := hHeld2
            clear hHeld2
            try simp only [Act.put, List.getElem_toArray, List.getElem_cons_zero, List.getElem_cons_succ, List.setIfInBounds_toArray, List.set_cons_zero, List.set_cons_succ]
            refine wpAnyH_done (by kernel_rfl) ?_ _
            have hF := Lib.hid (show (H ++ [(⟨2, sA, m.toNat, sc, sx.take m.toNat⟩ : Sg)]).map sgK = headK n (ss.map sgK) by rw [hH2.out.1, hK.out, List.map_append]; rfl)
            obtain ⟨A5, c5, rfl⟩ := own_form hfin.1
            have hSg : Segs w5 w5.heap.size A5 (H ++ [(⟨2, sA, m.toNat, sc, sx.take m.toNat⟩ : Sg)]).length (H ++ [(⟨2, sA, m.toNat, sc, sx.take m.toNat⟩ : Sg)]) := segs_row hfin.1 rfl (fun s hs => (hfin.2 s hs).more hb5.size)
            have hl5 : (H ++ [(⟨2, sA, m.toNat, sc, sx.take m.toNat⟩ : Sg)]).length ≤ 501 := by rw [List.length_append]; show H.length + 1 ≤ 501; omega
            have hC := Lib.hid (scopied_any A5 _ c5 _ w5 hSg (by omega) (fun s hs => by
              rcases List.mem_append.1 hs with hs | hs
              · exact hH2.out.2.2 s hs
              · rw [List.mem_singleton] at hs
                subst hs
                show m.toNat ≤ 1000
                omega))
            have hLq := Lib.hid hl5
            clear oX3 oX4 oX5 oS4 bX4 hr4 hg5 ho5 hE4 hSg hfin hl5 q0 q1
            generalize H ++ [(⟨2, sA, m.toNat, sc, sx.take m.toNat⟩ : Sg)] = H5 at *
            go_wp2_with fail
            refine hC.out.mono ?_
            rintro e w6 ⟨v6, L6, rfl, hr6, hL6, hb7⟩
            go_wp2
            dsimp only [Exit.jump]
            go_ret
            exact ⟨_, L6, rfl, ⟨own_leG hr6.1 hb5.size, fun s hs => (hr6.2 s hs).lift hb5.size⟩, Lib.hid ⟨hL6.out.1.trans hF.out, by rw [hL6.out.2.1]; exact hLq.out, hL6.out.2.2⟩, bl_trans hb5 hb7⟩
          · have hK := Lib.hid (headK_end (n := m) (p := (sk, sx)) (L := (ss.drop (j + 1)).map sgK) hle' hk2)
            have hR := Lib.hid (show H.map sgK = headK n (ss.map sgK) by rw [hH2.out.1, hK.out, List.append_nil])
            have hb6 := bl_trans HB.out bX3
            have hSg : Segs w2 w2.heap.size A1 H.length H := segs_row (own_belowG HRw.out.1 bX3) rfl (fun s hs => ((HRw.out.2 s hs).below (bX3.mono hbs)).more (Nat.le_trans hbs bX3.size))
            have hC := Lib.hid (scopied_any A1 H.length c1 H w2 hSg (by omega) hH2.out.2.2)
            clear hSg hK hE3
            have hcond : (sk == 2) = false ∨ ((sk == 2) = true ∧ decide (0 < m) = false) := by
              by_cases e : sk = 2
              · exact .inr ⟨by simpa using e, decide_eq_false (fun h => hk2 ⟨e, h⟩)⟩
              · exact .inl (by simpa using e)
            clear hk2 hle'
            rcases hcond with e1 | ⟨e1, e2⟩
            · go_wp2_with fail
              refine hC.out.mono ?_
              rintro e w6 ⟨v6, L6, rfl, hr6, hL6, hb7⟩
              go_wp2
              dsimp only [Exit.jump]
              go_ret
              exact ⟨_, L6, rfl, ⟨own_leG hr6.1 hb6.size, fun s hs => (hr6.2 s hs).lift hb6.size⟩, Lib.hid ⟨hL6.out.1.trans hR.out, by rw [hL6.out.2.1]; omega, hL6.out.2.2⟩, bl_trans hb6 hb7⟩
            · go_wp2_with fail
              refine hC.out.mono ?_
              rintro e w6 ⟨v6, L6, rfl, hr6, hL6, hb7⟩
              go_wp2
              dsimp only [Exit.jump]
              go_ret
              exact ⟨_, L6, rfl, ⟨own_leG hr6.1 hb6.size, fun s hs => (hr6.2 s hs).lift hb6.size⟩, Lib.hid ⟨hL6.out.1.trans hR.out, by rw [hL6.out.2.1]; omega, hL6.out.2.2⟩, bl_trans hb6 hb7⟩
      · have hjn : j = N := by omega
        have hR := Lib.hid (show H.map sgK = headK n (ss.map sgK) by rw [hH.out.1, List.drop_eq_nil_of_le (by have := HN.out; omega)]; show _ = _ ++ []; rw [List.append_nil])
        have hbs := hb.size
        have hSg : Segs wr wr.heap.size A1 H.length H := segs_row hrow.1 rfl (fun s hs => (hrow.2 s hs).more hbs)
        have hC := Lib.hid (scopied_any A1 H.length c1 H wr hSg (by omega) hH.out.2.2)
        clear hSg hrow
        go_wp2_with fail
        refine hC.out.mono ?_
        rintro e w6 ⟨v6, L6, rfl, hr6, hL6, hb7⟩
        go_wp2
        dsimp only [Exit.jump]
        go_ret
        exact ⟨_, L6, rfl, ⟨own_leG hr6.1 hb.size, fun s hs => (hr6.2 s hs).lift hb.size⟩, Lib.hid ⟨hL6.out.1.trans hR.out, by rw [hL6.out.2.1]; omega, hL6.out.2.2⟩, bl_trans hb hb7⟩
end Go.Proofs.YtniheakafkakhabDoor

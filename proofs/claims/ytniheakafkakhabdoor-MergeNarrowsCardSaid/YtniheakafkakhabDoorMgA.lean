/- merge: the words; merge.copied -/
import Derived.Test.YtniheakafkakhabDoorSgO
namespace Go.Proofs.YtniheakafkakhabDoor
open Go.RowKit

def segLen (p : Int × List Int) : Nat := if p.1 = 1 then 1 else if p.1 = 2 then p.2.length else 0
def lenL (L : List (Int × List Int)) : Nat := (L.map segLen).sum
/-- The beginning of a path. -/
def headK : Int → List (Int × List Int) → List (Int × List Int)
  | _, [] => []
  | n, p :: L => if (segLen p : Int) ≤ n then p :: headK (n - segLen p) L else if p.1 = 2 ∧ 0 < n then [(2, p.2.take n.toNat)] else []
/-- The path that two stand for. -/
def pathsK (p q : List (Int × List Int)) : List (Int × List Int) := if (lenL p : Int) - lenL q < 0 then p else headK ((lenL p : Int) - lenL q) p ++ q
theorem headK_zero {n : Int} {L : List (Int × List Int)} (hn : n ≤ 0) (h : ∀ p ∈ L, 1 ≤ segLen p) : headK n L = [] := by
  cases L with
  | nil => rfl
  | cons p L =>
    have := h p List.mem_cons_self
    unfold headK
    rw [if_neg (by omega), if_neg (by omega)]
theorem headK_len {L : List (Int × List Int)} : ∀ {n : Int}, 0 ≤ n → (lenL (headK n L) : Int) ≤ n := by
  induction L with
  | nil => intro n hn; simpa [headK, lenL] using hn
  | cons p L ih =>
    intro n hn
    unfold headK
    by_cases h : (segLen p : Int) ≤ n
    · rw [if_pos h]
      have := ih (n := n - segLen p) (by omega)
      have e : lenL (p :: headK (n - segLen p) L) = segLen p + lenL (headK (n - segLen p) L) := by simp [lenL]
      rw [e]
      omega
    · rw [if_neg h]
      by_cases h2 : p.1 = 2 ∧ 0 < n
      · rw [if_pos h2]
        have e : lenL [((2 : Int), p.2.take n.toNat)] = (p.2.take n.toNat).length := by simp [lenL, segLen]
        rw [e]
        have := List.length_take_le n.toNat p.2
        omega
      · rw [if_neg h2]
        simpa [lenL] using hn
theorem headK_seq {L : List (Int × List Int)} (h : ∀ p ∈ L, p.1 = 2) : ∀ {n : Int}, 0 ≤ n → (lenL (headK n L) : Int) = min n (lenL L) := by
  induction L with
  | nil => intro n hn; simp only [headK, lenL, List.map_nil, List.sum_nil]; omega
  | cons p L ih =>
    intro n hn
    have hp := h p List.mem_cons_self
    have hs : segLen p = p.2.length := by unfold segLen; rw [if_neg (by omega), if_pos hp]
    have e0 : lenL (p :: L) = segLen p + lenL L := by simp [lenL]
    unfold headK
    by_cases hc : (segLen p : Int) ≤ n
    · rw [if_pos hc]
      have := ih (fun q hq => h q (List.mem_cons_of_mem _ hq)) (n := n - segLen p) (by omega)
      have e : lenL (p :: headK (n - segLen p) L) = segLen p + lenL (headK (n - segLen p) L) := by simp [lenL]
      rw [e, e0]
      omega
    · rw [if_neg hc]
      by_cases h2 : 0 < n
      · rw [if_pos ⟨hp, h2⟩]
        have e : lenL [((2 : Int), p.2.take n.toNat)] = (p.2.take n.toNat).length := by simp [lenL, segLen]
        rw [e, e0, List.length_take]
        omega
      · rw [if_neg (fun h => h2 h.2)]
        rw [e0]
        simp only [lenL, List.map_nil, List.sum_nil]
        omega
theorem lenL_app (L M : List (Int × List Int)) : lenL (L ++ M) = lenL L + lenL M := by simp [lenL]
theorem paths_len (p q : List (Int × List Int)) : lenL (pathsK p q) ≤ lenL p := by
  unfold pathsK
  split
  · exact Nat.le_refl _
  · rename_i h
    rw [lenL_app]
    have := headK_len (L := p) (n := (lenL p : Int) - lenL q) (by omega)
    omega
theorem paths_self {p q : List (Int × List Int)} (h : ∀ x ∈ p, 1 ≤ segLen x) (hl : lenL p = lenL q) : pathsK p q = q := by
  unfold pathsK
  rw [if_neg (by omega), headK_zero (by omega) h, List.nil_append]
theorem lenS_map {ss : List Sg} (h : ∀ s ∈ ss, s.n = s.xs.length) : ∀ k, lenS ss k = lenL ((ss.take k).map sgK) := by
  intro k
  unfold lenS lenL
  rw [List.map_map]
  congr 1
  apply List.map_congr_left
  intro s hs
  have := h s (List.mem_of_mem_take hs)
  show (if s.k = 1 then 1 else if s.k = 2 then s.n else 0) = (if s.k = 1 then 1 else if s.k = 2 then s.xs.length else 0)
  rw [this]
theorem lenS_all {ss : List Sg} {n : Nat} (hn : n = ss.length) (h : ∀ s ∈ ss, s.n = s.xs.length) : lenS ss n = lenL (ss.map sgK) := by
  rw [lenS_map h, List.take_of_length_le (by omega)]
theorem sgn_of {w : World} {B n : Nat} {A : Option Addr} {ss : List Sg} (h : Segs w B A n ss) : ∀ s ∈ ss, s.n = s.xs.length := fun s hs => (h.2.1 s hs).2.2.2.2.1
theorem one_le {s : Sg} (h : sgOk 4 s = true) (hn : s.n = s.xs.length) : 1 ≤ segLen (sgK s) := by
  unfold sgOk at h
  simp only [Bool.and_eq_true, decide_eq_true_eq] at h
  unfold segLen sgK
  split
  · exact Nat.le_refl _
  · rename_i h1
    rw [if_pos (h.1.1.resolve_left h1)]
    show 1 ≤ s.xs.length
    omega
theorem one_all {ss : List Sg} (h : ss.all (sgOk 4) = true) (hn : ∀ s ∈ ss, s.n = s.xs.length) : ∀ p ∈ ss.map sgK, 1 ≤ segLen p := by
  intro p hp
  obtain ⟨s, hs, rfl⟩ := List.mem_map.1 hp
  exact one_le (List.all_eq_true.1 h s hs) (hn s hs)
theorem sgK_takes {ss : List Sg} {k : Nat} (h : k < ss.length) : (ss.take (k + 1)).map sgK = (ss.take k).map sgK ++ [sgK (sgth ss k)] := by
  rw [take_sgth h]; simp
/-- One element of a list of segments in memory. -/
def SgE (w : World) (B : Nat) (s : Sg) : Prop := s.n ≤ s.c ∧ s.c ≤ maxLen ∧ (Lit.int .i64 s.k).wf = true ∧ (∀ x ∈ s.xs, 0 ≤ x ∧ x < 4294967296) ∧ U32s w B s.A s.n s.xs
theorem SgE.below {w w' : World} {B : Nat} {s : Sg} (h : SgE w B s) (k : Below B w w') : SgE w' B s := ⟨h.1, h.2.1, h.2.2.1, h.2.2.2.1, h.2.2.2.2.below k⟩
theorem SgE.more {w : World} {B B' : Nat} {s : Sg} (h : SgE w B s) (k : B ≤ B') : SgE w B' s := ⟨h.1, h.2.1, h.2.2.1, h.2.2.2.1, h.2.2.2.2.more k⟩
/-- A row whose elements lie where they lie. -/
theorem segs_row {w : World} {base n c : Nat} {A : Option Addr} {ss : List Sg} (h : w.ownsRow base 31 2 (.slice A n c) n (cellsS ss)) (hn : n = ss.length) (hs : ∀ s ∈ ss, SgE w w.heap.size s) : Segs w w.heap.size A n ss := by
  refine ⟨hn, hs, ?_⟩
  rcases Shows.of_own h with h0 | ⟨b, o, hA, hb, hcell⟩
  · cases ss with
    | nil => exact .inl rfl
    | cons x r => simp [cellsS] at h0
  · exact .inr ⟨b, o, hA, hb, fun i s hi => ⟨hcell _ _ (cellsS_get hi).1, hcell _ _ (cellsS_get hi).2⟩⟩
theorem cellsS_at : ∀ {ss : List Sg} {j : Nat} {v : Value}, (cellsS ss)[j]? = some v → ∃ i s, ss[i]? = some s ∧ ((j = i * 2 ∧ v = .int .i64 s.k) ∨ (j = i * 2 + 1 ∧ v = .slice s.A s.n s.c))
  | [], j, v, h => by simp [cellsS] at h
  | x :: ss, 0, v, h => by
    have e : cellsS (x :: ss) = .int .i64 x.k :: .slice x.A x.n x.c :: cellsS ss := rfl
    rw [e] at h
    simp only [List.getElem?_cons_zero, Option.some.injEq] at h
    exact ⟨0, x, rfl, .inl ⟨rfl, h.symm⟩⟩
  | x :: ss, 1, v, h => by
    have e : cellsS (x :: ss) = .int .i64 x.k :: .slice x.A x.n x.c :: cellsS ss := rfl
    rw [e] at h
    simp only [List.getElem?_cons_succ, List.getElem?_cons_zero, Option.some.injEq] at h
    exact ⟨0, x, rfl, .inr ⟨rfl, h.symm⟩⟩
  | x :: ss, j + 2, v, h => by
    have e : cellsS (x :: ss) = .int .i64 x.k :: .slice x.A x.n x.c :: cellsS ss := rfl
    rw [e, List.getElem?_cons_succ, List.getElem?_cons_succ] at h
    obtain ⟨i, s, h1, h2⟩ := cellsS_at h
    exact ⟨i + 1, s, by rw [List.getElem?_cons_succ]; exact h1, h2.imp (fun h => ⟨by omega, h.2⟩) (fun h => ⟨by omega, h.2⟩)⟩
theorem segs_shows {w : World} {B n : Nat} {A : Option Addr} {ss : List Sg} (h : Segs w B A n ss) : Shows w B A (cellsS ss) := by
  rcases h.2.2 with h0 | ⟨b, o, hA, hb, hc⟩
  · left
    rw [h0]
    rfl
  · refine .inr ⟨b, o, hA, hb, fun j v hv => ?_⟩
    obtain ⟨i, s, hi, ⟨rfl, rfl⟩ | ⟨rfl, rfl⟩⟩ := cellsS_at hv
    · exact (hc i s hi).1
    · rw [← Nat.add_assoc]
      exact (hc i s hi).2
theorem cellsS_len (ss : List Sg) : (cellsS ss).length = ss.length * 2 := by
  induction ss with
  | nil => rfl
  | cons s ss ih =>
    have e : cellsS (s :: ss) = .int .i64 s.k :: .slice s.A s.n s.c :: cellsS ss := rfl
    rw [e, List.length_cons, List.length_cons, ih, List.length_cons]
    omega
theorem cellsS_one (ss : List Sg) : ∀ u ∈ cellsS ss, u.oneCell' = true := by
  intro u hu
  unfold cellsS at hu
  obtain ⟨s, _, hu⟩ := List.mem_flatMap.1 hu
  simp only [List.mem_cons, List.not_mem_nil, or_false] at hu
  rcases hu with rfl | rfl <;> rfl
theorem cellsS_app (ss ts : List Sg) : cellsS (ss ++ ts) = cellsS ss ++ cellsS ts := by unfold cellsS; rw [List.flatMap_append]
set_option maxRecDepth 100000 in
theorem sl_segsM : SliceOf Tryd.prog 22 31 2 32 := SliceOf.mk Tryd.underlying22 (z := .agg #[.int .i64 0, .slice none 0 0]) (by kernel_rfl) rfl (by decide)
/-- A row of a call's own grows by a segment of its own. -/
theorem SRow.pushX {w X w' : World} {base : Nat} {v v' : Value} {ss : List Sg} {q : Sg} (h : SRow w base v ss) (hX : Below w.heap.size w X) (hq : SD X base q) (hown : w'.ownsRow base 31 2 v' (ss.length + 1) (cellsS ss ++ [.int .i64 q.k, .slice q.A q.n q.c])) (hg : X.grownBy w' v.ownBlock) : SRow w' base v' (ss ++ [q]) := by
  have h1 := h.below hX
  have key : ∀ s, SD X base s → SD w' base s := fun s hs => ⟨row_rest hs.1 (Rest.of_grown hg (P := fun j => v.ownBlock = some j) (fun j hj => hj)) (fun j hj e => ((row_typed h1.1 e).1.ne (row_typed hs.1 hj).1 seg_types) rfl), hs.2⟩
  refine ⟨?_, fun s hs => ?_⟩
  · rw [cellsS_snoc, List.length_append, List.length_singleton]
    exact hown
  · rcases List.mem_append.1 hs with hs | hs
    · exact key s (h1.2 s hs)
    · rw [List.mem_singleton] at hs
      subst hs
      exact key _ hq
set_option maxRecDepth 100000 in
set_option maxHeartbeats 6400000 in
theorem scopied_any (A : Option Addr) (n c : Nat) (ss : List Sg) (w : World) (h : Segs w w.heap.size A n ss) (hn : n ≤ 1000) (hs : ∀ s ∈ ss, s.n ≤ 1000) :
    Calls Tryd.prog 22 #[.slice A n c] w fun e w' => ∃ v L, e = .returned v ∧ SRow w' w.heap.size v L ∧ Hid (L.map sgK = ss.map sgK ∧ L.length = n ∧ ∀ s ∈ L, s.n ≤ 1000) ∧ Below w.heap.size w w' := by
  have HV := Lib.hid h
  have HN := Lib.hid h.1
  have HS := Lib.hid hs
  clear h hs
  go_enter Tryd.func22, Tryd.ntmps22
  go_wp2_with fail
  go_loopw [3, 8] (fun v i wr => ∃ (j : Nat) (L : List Sg), j ≤ n ∧ i = .int .i64 j ∧ SRow wr w.heap.size v L ∧ Hid (L.map sgK = (ss.take j).map sgK ∧ L.length = j ∧ ∀ s ∈ L, s.n ≤ 1000) ∧ Below w.heap.size w wr) (fun _ i _ => n - (intOf i).toNat)
  case atStart => exact ⟨0, [], Nat.zero_le _, rfl, SRow.nil _ _, Lib.hid ⟨rfl, rfl, (fun _ h => by cases h)⟩, bl_refl w⟩
  case round =>
    obtain ⟨j, L, hj, rfl, hrow, hL, hbw⟩ := hrel
    by_cases hlt : j < n
    · obtain ⟨b, o, rfl, hbB, e0, e1⟩ := (HV.out.below hbw).at_ hlt
      have hj1 := Lib.hid (show j < ss.length by rw [← HN.out]; exact hlt)
      have hSt := Lib.hid (sgK_takes hj1.out)
      have hE := Lib.hid (HV.out.2.1 _ (sgth_mem hj1.out))
      have hsn := HS.out _ (sgth_mem hj1.out)
      obtain ⟨A1, c1, rfl⟩ := own_form hrow.1
      generalize sgth ss j = s at *
      obtain ⟨sk, sA, sn, sc, sx⟩ := s
      rw [show sgK (⟨sk, sA, sn, sc, sx⟩ : Sg) = (sk, sx) from rfl] at hSt
      dsimp only at e0 e1 hsn
      have hU : Hid (U32s w w.heap.size sA sn sx) := Lib.hid hE.out.2.2.2.2
      have hRg : Hid (∀ x ∈ sx, 0 ≤ x ∧ x < 4294967296) := Lib.hid hE.out.2.2.2.1
      have hWf : Hid ((Lit.int .i64 sk).wf = true) := Lib.hid hE.out.2.2.1
      have hbs := hbw.size
      have oX := Own.new wr 31 #[.int .i64 sk, .slice sA sn sc]
      have bX := bl_alloc (bl_refl wr) (.cells #[.int .i64 sk, .slice sA sn sc] 31)
      have HRw := Lib.hid hrow
      have hLl : L.length ≤ 1000 := by have := hL.out.2.1; omega
      clear hrow hE
      go_wp2_with fail
      generalize hgX : wr.alloc (.cells #[.int .i64 sk, .slice sA sn sc] 31) = X at *
      clear hgX
      refine wp_region_held_drew (S := fun Y => Own Y wr.heap.size 31 #[.int .i64 sk, .slice sA sn sc]) (by kernel_rfl) oX.drew (fun hHeld => ?_)
      refine wpAnyH_take (i := 0) (v := ?_) rfl (by kernel_rfl) (by kernel_rfl) (by kernel_rfl) (fun _ _ _ h => h) (Or.inl ⟨by rfl, ?_⟩) (by assumption) ?_
      rotate_left
      · (intro W hSw; have s0 : Own W wr.heap.size 31 #[.int .i64 sk, .slice sA sn sc] := hSw; have q0 := s0.cell (i := 0) (v := .int .i64 sk) rfl; have q1 := s0.cell (i := 1) (v := .slice sA sn sc) rfl; go_simp; try with_reducible rfl)
      simp only [Act.put, List.getElem_toArray, List.getElem_cons_zero, List.setIfInBounds_toArray, List.set_cons_zero, List.set_cons_succ]
      refine wpAnyH_take (i := 1) (v := ?_) rfl (by kernel_rfl) (by kernel_rfl) (by kernel_rfl) (fun _ _ _ h => h) (Or.inl ⟨by rfl, ?_⟩) (by assumption) ?_
      rotate_left
      · (intro W hSw; have s0 : Own W wr.heap.size 31 #[.int .i64 sk, .slice sA sn sc] := hSw; have q0 := s0.cell (i := 0) (v := .int .i64 sk) rfl; have q1 := s0.cell (i := 1) (v := .slice sA sn sc) rfl; go_simp; try with_reducible rfl)
      simp only [Act.put, List.getElem_toArray, List.getElem_cons_zero, List.getElem_cons_succ, List.setIfInBounds_toArray, List.set_cons_zero, List.set_cons_succ]
      refine wpAnyH_take (i := 2) (v := ?_) rfl (by kernel_rfl) (by kernel_rfl) (by kernel_rfl) (fun _ _ _ h => h) (Or.inl ⟨by rfl, ?_⟩) (by assumption) ?_
      rotate_left
      · (intro W hSw; have s0 : Own W wr.heap.size 31 #[.int .i64 sk, .slice sA sn sc] := hSw; have q0 := s0.cell (i := 0) (v := .int .i64 sk) rfl; have q1 := s0.cell (i := 1) (v := .slice sA sn sc) rfl; go_simp; try with_reducible rfl)
      simp only [Act.put, List.getElem_toArray, List.getElem_cons_zero, List.getElem_cons_succ, List.setIfInBounds_toArray, List.set_cons_zero, List.set_cons_succ]
      refine wpAnyH_take (i := 3) (v := ?_) rfl (by kernel_rfl) (by kernel_rfl) (by kernel_rfl) (fun _ _ _ h => h) (Or.inl ⟨by rfl, ?_⟩) (by assumption) ?_
      rotate_left
      · (intro W hSw; have s0 : Own W wr.heap.size 31 #[.int .i64 sk, .slice sA sn sc] := hSw; have q0 := s0.cell (i := 0) (v := .int .i64 sk) rfl; have q1 := s0.cell (i := 1) (v := .slice sA sn sc) rfl; go_simp; try with_reducible rfl)
      simp only [Act.put, List.getElem_toArray, List.getElem_cons_zero, List.getElem_cons_succ, List.setIfInBounds_toArray, List.set_cons_zero, List.set_cons_succ]
      refine wpAnyH_take (i := 4) (v := ?_) rfl (by kernel_rfl) (by kernel_rfl) (by kernel_rfl) (fun _ _ _ h => h) (Or.inl ⟨by rfl, ?_⟩) (by assumption) ?_
      rotate_left
      · (intro W hSw; have s0 : Own W wr.heap.size 31 #[.int .i64 sk, .slice sA sn sc] := hSw; have q0 := s0.cell (i := 0) (v := .int .i64 sk) rfl; have q1 := s0.cell (i := 1) (v := .slice sA sn sc) rfl; go_simp; try with_reducible rfl)
      simp only [Act.put, List.getElem_toArray, List.getElem_cons_zero, List.getElem_cons_succ, List.setIfInBounds_toArray, List.set_cons_zero, List.set_cons_succ]
      refine wpAnyH_ready (rs := [5]) (by kernel_rfl) (by simp) ?_
      refine (AllReadyH.cons rfl (fun K hK => ?_) AllReadyH.nil)
      go_simp
      go_at_call 33
      have bXd : Below wr.heap.size wr X.drew := bl_drewN bX 1
      refine (cloneU_any sA sn sc sx X.drew ((hU.out.below (hbw.trans (bXd.mono hbs))).more (Nat.le_trans hbs bXd.size)) (by omega)).mono ?_
      rintro e w3 ⟨v3, rfl, hr3, hb3⟩
      have bX3 := bl_trans bXd hb3
      have oX3 := oX.step (bl_trans (bl_drewN (bl_refl X) 1) hb3)
      obtain ⟨A3, c3, rfl⟩ := own_form hr3
      refine hK.out _ _ oX3 (fun hHeld2 => ?_)
      clear hK K hHeld
      have hHeld := hHeld2
      clear hHeld2
      try simp only [Act.put, List.getElem_toArray, List.getElem_cons_zero, List.getElem_cons_succ, List.setIfInBounds_toArray, List.set_cons_zero, List.set_cons_succ]
      refine wpAnyH_ready (rs := [6]) (by kernel_rfl) (by simp) ?_
      refine (AllReadyH.cons rfl (fun K hK => ?_) AllReadyH.nil)
      go_simp
      refine hK.out _ _ hHeld (fun hHeld2 => ?_)
      clear hK K hHeld
      have hHeld := hHeld2
      clear hHeld2
      try simp only [Act.put, List.getElem_toArray, List.getElem_cons_zero, List.getElem_cons_succ, List.setIfInBounds_toArray, List.set_cons_zero, List.set_cons_succ]
      refine wpAnyH_ready (rs := [7]) (by kernel_rfl) (by simp) ?_
      refine (AllReadyH.cons rfl (fun K hK => ?_) AllReadyH.nil)
      go_simp
      refine hK.out _ _ (oX3.alloc (.cells #[.int .i64 sk, .slice A3 sn c3] 31)) (fun hHeld2 => ?_)
      clear hK K hHeld
      have hHeld := hHeld2
      clear hHeld2
      try simp only [Act.put, List.getElem_toArray, List.getElem_cons_zero, List.getElem_cons_succ, List.setIfInBounds_toArray, List.set_cons_zero, List.set_cons_succ]
      have bX4 := bl_alloc bX3 (.cells #[.int .i64 sk, .slice A3 sn c3] 31)
      have oS := Own.new w3 31 #[.int .i64 sk, .slice A3 sn c3]
      have hs4 : w3.heap.size < (w3.alloc (.cells #[.int .i64 sk, .slice A3 sn c3] 31)).heap.size := by simp
      have oX4 := oX3.alloc (.cells #[.int .i64 sk, .slice A3 sn c3] 31)
      have hSD : SD (w3.alloc (.cells #[.int .i64 sk, .slice A3 sn c3] 31)) w.heap.size ⟨sk, A3, sn, c3, sx⟩ := ⟨own_belowG (own_leG hr3 (Nat.le_trans hbs bXd.size)) (bl_alloc (bl_refl _) _), hU.out.1, hRg.out, hWf.out⟩
      have hr4 := own_belowG HRw.out.1 bX4
      have hbs4 := Nat.le_trans hbs bX4.size
      generalize hg4 : w3.alloc (.cells #[.int .i64 sk, .slice A3 sn c3] 31) = X4 at *
      clear hg4
      refine wpAnyH_ready (rs := [8]) (by kernel_rfl) (by simp) ?_
      refine (AllReadyH.cons rfl (fun K hK => ?_) AllReadyH.nil)
      refine step_append_at _ rfl _ _ rfl sl_segsM w.heap.size _ _ _ rfl hr4 _ (some ⟨w3.heap.size, 0, none⟩) 1 1 [.int .i64 sk, .slice A3 sn c3] rfl rfl (Shows.of_owned (xs := [.int .i64 sk, .slice A3 sn c3]) oS hs4) (oneS _ _ _ _) (by unfold maxLen; omega) (by omega) hbs4 ?_
      intro v5 w5 ho5 hg5 _
      have hfin := HRw.out.pushX (q := ⟨sk, A3, sn, c3, sx⟩) bX4 hSD ho5 hg5
      have hb5 := (bl_trans hbw bX4).grown hg5 hbs4 (fun k hk => (row_typed hr4 hk).2)
      have oX5 : Own w5 wr.heap.size 31 #[.int .i64 sk, .slice sA sn sc] := oX4.grown hg5 (fun e => by have := (row_typed HRw.out.1 e.symm).1.lt; omega)
      refine hK.out _ _ oX5 (fun hHeld2 => ?_)
      clear hK K hHeld
      have hHeld := hHeld2
      clear hHeld2
      try simp only [Act.put, List.getElem_toArray, List.getElem_cons_zero, List.getElem_cons_succ, List.setIfInBounds_toArray, List.set_cons_zero, List.set_cons_succ]
      refine wpAnyH_ready (rs := [9]) (by kernel_rfl) (by simp) ?_
      refine (AllReadyH.cons rfl (fun K hK => ?_) AllReadyH.nil)
      go_simp
      refine hK.out _ _ oX5 (fun hHeld2 => ?_)
      clear hK K hHeld
      have hHeld := hHeld2
      clear hHeld2
      try simp only [Act.put, List.getElem_toArray, List.getElem_cons_zero, List.getElem_cons_succ, List.setIfInBounds_toArray, List.set_cons_zero, List.set_cons_succ]
      refine wpAnyH_done (by kernel_rfl) ?_ _
      have hF := Lib.hid (show (L ++ [(⟨sk, A3, sn, c3, sx⟩ : Sg)]).map sgK = (ss.take (j + 1)).map sgK ∧ (L ++ [(⟨sk, A3, sn, c3, sx⟩ : Sg)]).length = j + 1 ∧ ∀ s ∈ L ++ [(⟨sk, A3, sn, c3, sx⟩ : Sg)], s.n ≤ 1000 from ⟨by rw [hSt.out, List.map_append, hL.out.1]; rfl, by rw [List.length_append, hL.out.2.1]; rfl, fun s hs => by
        rcases List.mem_append.1 hs with hs | hs
        · exact hL.out.2.2 s hs
        · rw [List.mem_singleton] at hs
          subst hs
          exact hsn⟩)
      clear oX oX3 oX4 oX5 oS bX bX3 bX4 hr3 hr4 hSD hg5 ho5
      go_wp2
      go_roundw
      case rel => exact ⟨j + 1, _, by omega, by go_num, hfin, hF, hb5⟩
      case measure => simp [intOf]; omega
    · have hjn : j = n := by omega
      have hF := Lib.hid (show L.map sgK = ss.map sgK ∧ L.length = n ∧ ∀ s ∈ L, s.n ≤ 1000 by
        have := hL.out
        rw [List.take_of_length_le (by have := HN.out; omega)] at this
        exact ⟨this.1, this.2.1.trans hjn, this.2.2⟩)
      go_wp2
      go_ret
      exact ⟨_, L, rfl, hrow, hF, hbw⟩
end Go.Proofs.YtniheakafkakhabDoor

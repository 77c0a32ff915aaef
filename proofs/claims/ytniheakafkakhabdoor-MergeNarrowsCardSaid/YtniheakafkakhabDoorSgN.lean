/- Rows of segments that a walk makes; segment.Narrow; slices.Clone at numbers -/
import Derived.Test.YtniheakafkakhabDoorSgB
import Derived.Test.YtniheakafkakhabDoorApAt
import Derived.WalkSpells
namespace Go.Proofs.YtniheakafkakhabDoor
open Go.RowKit Go.Sort

def nar (x : Int) : Int := if 65535 < x then 23456 else x
set_option maxRecDepth 100000 in
theorem sl_u32 : SliceOf Tryd.prog 29 40 1 4 := SliceOf.mk Tryd.underlying29 (z := .int .u32 0) (by kernel_rfl) rfl (by decide)
def cellsS (ss : List Sg) : List Value := ss.flatMap fun s => [.int .i64 s.k, .slice s.A s.n s.c]
theorem cellsS_get : ∀ {ss : List Sg} {i : Nat} {s : Sg}, ss[i]? = some s → (cellsS ss)[i * 2]? = some (.int .i64 s.k) ∧ (cellsS ss)[i * 2 + 1]? = some (.slice s.A s.n s.c)
  | [], i, s, h => by simp at h
  | x :: ss, 0, s, h => by
    simp only [List.getElem?_cons_zero, Option.some.injEq] at h
    subst h
    exact ⟨rfl, rfl⟩
  | x :: ss, i + 1, s, h => by
    rw [List.getElem?_cons_succ] at h
    obtain ⟨h1, h2⟩ := cellsS_get h
    have e : cellsS (x :: ss) = .int .i64 x.k :: .slice x.A x.n x.c :: cellsS ss := rfl
    rw [e, show (i + 1) * 2 = i * 2 + 1 + 1 by omega, List.getElem?_cons_succ, List.getElem?_cons_succ, List.getElem?_cons_succ, List.getElem?_cons_succ]
    exact ⟨h1, h2⟩
theorem cellsS_snoc (ss : List Sg) (s : Sg) : cellsS (ss ++ [s]) = cellsS ss ++ [.int .i64 s.k, .slice s.A s.n s.c] := by
  unfold cellsS
  rw [List.flatMap_append]; simp
theorem row_caps {w : World} {base : Nat} {e : TypeId} {size n c : Nat} {A : Option Addr} {xs : List Value} (h : w.ownsRow base e size (.slice A n c) n xs) : n ≤ c ∧ c ≤ maxLen := by
  rcases h.2 with ⟨h0, rfl⟩ | ⟨g, cap, cur, h0, _, _, h1, h2, _⟩
  · injection h0 with _ _ h0
    subst h0
    exact ⟨Nat.le_refl _, by unfold maxLen; omega⟩
  · injection h0 with _ _ h0
    subst h0
    exact ⟨h1, h2⟩
/-- A segment whose numbers lie in memory of the call's own. -/
def SD (w : World) (base : Nat) (s : Sg) : Prop := w.ownsRow base 40 1 (.slice s.A s.n s.c) s.n (s.xs.map (Value.int .u32)) ∧ s.n = s.xs.length ∧ (∀ x ∈ s.xs, 0 ≤ x ∧ x < 4294967296) ∧ (Lit.int .i64 s.k).wf = true
def SRow (w : World) (base : Nat) (v : Value) (ss : List Sg) : Prop := w.ownsRow base 31 2 v ss.length (cellsS ss) ∧ ∀ s ∈ ss, SD w base s
theorem SD.below {w w' : World} {base : Nat} {s : Sg} (h : SD w base s) (hb : Below w.heap.size w w') : SD w' base s := ⟨own_belowG h.1 hb, h.2⟩
theorem SD.lift {w : World} {base b : Nat} {s : Sg} (h : SD w base s) (hb : b ≤ base) : SD w b s := ⟨own_leG h.1 hb, h.2⟩
theorem SRow.below {w w' : World} {base : Nat} {v : Value} {ss : List Sg} (h : SRow w base v ss) (hb : Below w.heap.size w w') : SRow w' base v ss := ⟨own_belowG h.1 hb, fun s hs => (h.2 s hs).below hb⟩
theorem SRow.nil (w : World) (base : Nat) : SRow w base (.slice none 0 0) [] := ⟨World.ownsRow_nil _ _ _ _, fun _ h => by cases h⟩
theorem seg_types : 31 ≠ 40 := by decide
theorem SRow.push {w w' : World} {base : Nat} {v v' : Value} {ss : List Sg} {q : Sg} {o : Obj} (h : SRow w base v ss) (hq : SD w base q) (hown : w'.ownsRow base 31 2 v' (ss.length + 1) (cellsS ss ++ [.int .i64 q.k, .slice q.A q.n q.c])) (hg : (w.alloc o).grownBy w' v.ownBlock) : SRow w' base v' (ss ++ [q]) := by
  have ha := bl_alloc (bl_refl w) o
  have h1 := h.below ha
  have key : ∀ s, SD (w.alloc o) base s → SD w' base s := fun s hs => ⟨row_rest hs.1 (Rest.of_grown hg (P := fun j => v.ownBlock = some j) (fun j hj => hj)) (fun j hj e => ((row_typed h1.1 e).1.ne (row_typed hs.1 hj).1 seg_types) rfl), hs.2⟩
  refine ⟨?_, fun s hs => ?_⟩
  · rw [cellsS_snoc, List.length_append, List.length_singleton]
    exact hown
  · rcases List.mem_append.1 hs with hs | hs
    · exact key s (h1.2 s hs)
    · rw [List.mem_singleton] at hs
      subst hs
      exact key _ (hq.below ha)
theorem SD.u32s {w : World} {base : Nat} {s : Sg} (h : SD w base s) : U32s w w.heap.size s.A s.n s.xs := by
  obtain ⟨A, c, e, _, hs⟩ := own_val h.1
  injection e with e1 _ e2
  exact ⟨h.2.1, by rw [e1]; exact hs⟩
theorem SRow.segs {w : World} {base : Nat} {v : Value} {ss : List Sg} (h : SRow w base v ss) : ∃ A c, v = .slice A ss.length c ∧ Segs w w.heap.size A ss.length ss := by
  obtain ⟨A, c, rfl, hc, hs⟩ := own_val h.1
  refine ⟨A, c, rfl, rfl, fun s m => ?_, ?_⟩
  · have hd := h.2 s m
    exact ⟨(row_caps hd.1).1, (row_caps hd.1).2, hd.2.2.2, hd.2.2.1, hd.u32s⟩
  · rcases hs with h0 | ⟨b, o, hA, hb, hcell⟩
    · cases ss with
      | nil => exact .inl rfl
      | cons x r => simp [cellsS] at h0
    · exact .inr ⟨b, o, hA, hb, fun i s hi => ⟨hcell _ _ (cellsS_get hi).1, hcell _ _ (cellsS_get hi).2⟩⟩
theorem oneS (k : Int) (A : Option Addr) (n c : Nat) : ∀ u ∈ [(.int .i64 k : Value), .slice A n c], u.oneCell' = true := by
  intro u hu
  simp only [List.mem_cons, List.not_mem_nil, or_false] at hu
  rcases hu with rfl | rfl <;> rfl
set_option maxRecDepth 100000 in
theorem cloneU_any (A : Option Addr) (n c : Nat) (xs : List Int) (w : World) (h : U32s w w.heap.size A n xs) (hn : n ≤ 1000000) :
    Calls Tryd.prog 33 #[.slice A n c] w fun e w' => ∃ v, e = .returned v ∧ w'.ownsRow w.heap.size 40 1 v n (xs.map (Value.int .u32)) ∧ Below w.heap.size w w' := by
  have HL := Lib.hid h.1
  have heq : ∀ (w : World) (a : Option Addr) (n c n' c' : Nat), (binOp .eql 29 (.slice a n c) (.slice none n' c')).run Tryd.prog w = .ok (.bool a.isNone) w := fun w a n c n' c' => Lib.run_eql_slice_nil w 29 40 a n c n' c' Tryd.underlying29
  cases A with
  | none =>
    have h0 := h.2.none_
    rw [List.map_eq_nil_iff] at h0
    subst h0
    have e := HL.out
    simp at e
    subst e
    go_enter Tryd.func33, Tryd.ntmps33
    go_wp2
    go_ret
    exact ⟨_, rfl, World.ownsRow_nil _ _ _ _, bl_refl _⟩
  | some a =>
    have hb1 := bl_alloc (bl_refl w) (.cells #[] 40)
    have hr : (w.alloc (.cells #[] 40)).ownsRow w.heap.size 40 1 (.slice (some ⟨w.heap.size, 0, none⟩) 0 0) 0 ([] : List Value) := Own.row (cs := []) (Own.new w 40 #[]) rfl (Nat.le_refl _) (by unfold maxLen; omega)
    have hs := (h.2.below hb1)
    have HR := Lib.hid hr
    have HB := Lib.hid hb1
    clear hr hb1 h
    go_enter Tryd.func33, Tryd.ntmps33
    go_wp2_with (at_builtin; refine wpList_append_grow _ rfl _ _ rfl sl_u32 w.heap.size _ 0 [] rfl HR.out w.heap.size (some a) n c (xs.map (Value.int .u32)) rfl (by rw [List.length_map, ← HL.out, Nat.mul_one]) hs ints1 (by unfold maxLen; omega) (by omega) (by simp) ?_; intro v3 w3 ho3 hg3; rw [Nat.zero_add, List.nil_append] at ho3; have hb3 := HB.out.grown hg3 (by simp) (fun k hk => by cases hk; exact Nat.le_refl _))
    go_ret
    exact ⟨_, rfl, ho3, hb3⟩
def narK (s : Sg) : Int × List Int := (s.k, s.xs.map nar)
theorem nar_take {xs : List Int} {k : Nat} (h : k < xs.length) : ((xs.take (k + 1)).map nar).map (Value.int .u32) = ((xs.take k).map nar).map (Value.int .u32) ++ [.int .u32 (nar (nth xs k))] := by
  rw [take_nth h]; simp
theorem narK_take {ss : List Sg} {k : Nat} (h : k < ss.length) : (ss.take (k + 1)).map narK = (ss.take k).map narK ++ [narK (sgth ss k)] := by
  rw [take_sgth h]; simp
theorem nar_range {x : Int} (h : 0 ≤ x ∧ x < 4294967296) : 0 ≤ nar x ∧ nar x < 4294967296 := by unfold nar; split <;> omega
set_option maxRecDepth 100000 in
set_option maxHeartbeats 6400000 in
theorem snarrow_any (A : Option Addr) (n c : Nat) (ss : List Sg) (w : World) (h : Segs w w.heap.size A n ss) (hn : n ≤ 1000) (hs : ∀ s ∈ ss, s.n ≤ 1000) :
    Calls Tryd.prog 23 #[.slice A n c] w fun e w' => ∃ v L, e = .returned v ∧ SRow w' w.heap.size v L ∧ Hid (L.map sgK = ss.map narK ∧ L.length = n ∧ ∀ s ∈ L, s.n ≤ 1000) ∧ Below w.heap.size w w' := by
  have HV := Lib.hid h
  have HN := Lib.hid h.1
  have HS := Lib.hid hs
  clear h hs
  go_enter Tryd.func23, Tryd.ntmps23
  go_wp2_with fail
  go_loopw [3, 11] (fun v i wr => ∃ (j : Nat) (L : List Sg), j ≤ n ∧ i = .int .i64 j ∧ SRow wr w.heap.size v L ∧ Hid (L.map sgK = (ss.take j).map narK ∧ L.length = j ∧ ∀ s ∈ L, s.n ≤ 1000) ∧ Below w.heap.size w wr) (fun _ i _ => n - (intOf i).toNat)
  case atStart => exact ⟨0, [], Nat.zero_le _, rfl, SRow.nil _ _, Lib.hid ⟨rfl, rfl, (fun _ h => by cases h)⟩, bl_refl w⟩
  case round =>
    obtain ⟨j, L, hj, rfl, hrow, hL, hbw⟩ := hrel
    by_cases hlt : j < n
    · obtain ⟨b, o, rfl, hbB, e0, e1⟩ := (HV.out.below hbw).at_ hlt
      have hj1 := Lib.hid (show j < ss.length by rw [← HN.out]; exact hlt)
      have hSt := Lib.hid (narK_take hj1.out)
      have HU := Lib.hid ((segs_u32 HV.out hj1.out).below hbw)
      have hR := Lib.hid ((HV.out.2.1 _ (sgth_mem hj1.out)).2.2.2.1)
      have hW := Lib.hid ((HV.out.2.1 _ (sgth_mem hj1.out)).2.2.1)
      have hsn := HS.out _ (sgth_mem hj1.out)
      have hK : Hid (narK (sgth ss j) = ((sgth ss j).k, (sgth ss j).xs.map nar)) := Lib.hid rfl
      generalize narK (sgth ss j) = kq at *
      generalize sgth ss j = s at *
      obtain ⟨sk, sA, sn, sc, sx⟩ := s
      dsimp only at *
      have HL := Lib.hid HU.out.1
      have hbs := hbw.size
      obtain ⟨w0, rfl⟩ : ∃ x, x = wr := ⟨_, rfl⟩
      have HRw := Lib.hid hrow
      have HBw := Lib.hid hbw
      have oS := Own.new w0 31 #[.int .i64 sk, .slice sA sn sc]
      have hbS : Below w0.heap.size w0 _ := bl_alloc (bl_refl w0) (.cells #[.int .i64 sk, .slice sA sn sc] 31)
      clear hrow hbw
      go_wp2_with (at_make; refine wpList_make_empty _ rfl _ _ rfl sl_u32 (w0.heap.size + 1) _ _ _ sn rfl rfl rfl (by omega) (by unfold maxLen; omega) (by simp) ?_; intro w1 hown1 hgrow1; have oS1 := oS.grown hgrow1 (by simp); have hb1 := hbS.grown hgrow1 (by simp) (fun k h => by cases h); have hc0 := oS1.cell (i := 0) rfl; have hc1 := oS1.cell (i := 1) rfl; have hs1 : w0.heap.size + 1 ≤ w1.heap.size := by (have := hgrow1.size; simpa using this))
      go_loopw [6, 22] (fun v i wq => ∃ q : Nat, q ≤ sn ∧ i = .int .i64 q ∧ wq.ownsRow (w0.heap.size + 1) 40 1 v q (((sx.take q).map nar).map (Value.int .u32)) ∧ Own wq w0.heap.size 31 #[.int .i64 sk, .slice sA sn sc] ∧ Below w0.heap.size w0 wq ∧ w0.heap.size + 1 ≤ wq.heap.size) (fun _ i _ => sn - (intOf i).toNat)
      case atStart => exact ⟨0, Nat.zero_le _, rfl, by simpa using hown1, oS1, hb1, hs1⟩
      case round =>
        obtain ⟨q, hq, rfl, hoq, oq, hbq, hsq⟩ := hrel
        clear hown1 hgrow1 oS1 hb1 hs1 oS hbS hc0 hc1
        obtain ⟨A1, c1, rfl⟩ := own_form hoq
        by_cases hltq : q < sn
        · obtain ⟨b2, o2, rfl, hb2B, hc2⟩ := (HU.out.below (Joins.below_le hbq hbs)).at_ hltq
          have hq1 := Lib.hid (show q < sx.length by rw [← HL.out]; exact hltq)
          have hD := Lib.hid (nar_take hq1.out)
          generalize nth sx q = x at *
          by_cases hx : 65535 < x
          · have hxn := Lib.hid (show nar x = 23456 by unfold nar; rw [if_pos hx])
            go_wp2_with (first
              | (go_at_call 29; refine (wide_any _ _).mono ?_; rintro e w' ⟨rfl, rfl⟩)
              | (at_builtin; refine wpList_append_grow _ rfl _ _ rfl sl_u32 (w0.heap.size + 1) _ q _ rfl (hoq.alloc _) (wr.heap.size + 1) (some ⟨wr.heap.size, 0, none⟩) 1 1 [_] rfl rfl (Shows.of_owned (Own.new _ _ _) (by simp)) (one1 rfl) (by unfold maxLen; omega) (by omega) (by simp; omega) ?_; intro v3 w3 hoq2 hgrow2))
            have hbq3 : Below w0.heap.size w0 w3 := (hbq.alloc hbq.size _).grown hgrow2 (by simp; omega) (fun j hj => Nat.le_trans (by omega) (own_base hoq j hj))
            have oq3 : Own w3 w0.heap.size 31 _ := (oq.alloc _).grown hgrow2 (by intro e; have := own_base hoq _ e.symm; omega)
            have hs3 : w0.heap.size + 1 ≤ w3.heap.size := by have := hgrow2.size; simp at this; omega
            rw [← hxn.out, ← hD.out] at hoq2
            go_roundw
            case rel => exact ⟨q + 1, by omega, by go_num, hoq2, oq3, hbq3, hs3⟩
            case measure => simp [intOf]; omega
          · have hxn := Lib.hid (show nar x = x by unfold nar; rw [if_neg hx])
            go_wp2_with (first
              | (go_at_call 29; refine (wide_any _ _).mono ?_; rintro e w' ⟨rfl, rfl⟩)
              | (at_builtin; refine wpList_append_grow _ rfl _ _ rfl sl_u32 (w0.heap.size + 1) _ q _ rfl (hoq.alloc _) (wr.heap.size + 1) (some ⟨wr.heap.size, 0, none⟩) 1 1 [_] rfl rfl (Shows.of_owned (Own.new _ _ _) (by simp)) (one1 rfl) (by unfold maxLen; omega) (by omega) (by simp; omega) ?_; intro v3 w3 hoq2 hgrow2))
            have hbq3 : Below w0.heap.size w0 w3 := (hbq.alloc hbq.size _).grown hgrow2 (by simp; omega) (fun j hj => Nat.le_trans (by omega) (own_base hoq j hj))
            have oq3 : Own w3 w0.heap.size 31 _ := (oq.alloc _).grown hgrow2 (by intro e; have := own_base hoq _ e.symm; omega)
            have hs3 : w0.heap.size + 1 ≤ w3.heap.size := by have := hgrow2.size; simp at this; omega
            rw [hxn.out] at hD
            rw [← hD.out] at hoq2
            go_roundw
            case rel => exact ⟨q + 1, by omega, by go_num, hoq2, oq3, hbq3, hs3⟩
            case measure => simp [intOf]; omega
        · obtain rfl : sn = q := by omega
          have hRow := Lib.hid (HRw.out.below hbq)
          have hbx := Lib.hid (bl_trans HBw.out hbq)
          have hsz := hbx.out.size
          have hc0 := oq.cell (i := 0) rfl
          have hSD := Lib.hid (show SD wr w.heap.size ⟨sk, A1, sn, c1, sx.map nar⟩ from ⟨own_leG (by rw [List.take_of_length_le (by rw [← HL.out]; exact Nat.le_refl _)] at hoq; exact hoq) (by omega), by show sn = (sx.map nar).length; rw [List.length_map]; exact HL.out, fun x hx => by
            obtain ⟨y, hy, rfl⟩ := List.mem_map.1 hx
            exact nar_range (hR.out y hy), hW.out⟩)
          have hLl : L.length ≤ 1000 := by have := hL.out.2.1; omega
          clear hoq oq hbq
          go_wp2_with (at_builtin; refine wpList_append_grow _ rfl _ _ rfl sl_segs w.heap.size _ L.length _ rfl (hRow.out.1.alloc _) (wr.heap.size + 1) (some ⟨wr.heap.size, 0, none⟩) 1 1 [.int .i64 sk, .slice A1 sn c1] rfl rfl (Shows.of_owned (Own.new _ _ _) (by simp)) (oneS _ _ _ _) (by unfold maxLen; omega) (by omega) (by simp; omega) ?_; intro v3 w3 ho3 hg3)
          have hr3 := hRow.out.push hSD.out ho3 hg3
          have hb3 := (hbx.out.alloc hbx.out.size _).grown hg3 (by simp; omega) (own_base hRow.out.1)
          have hF := Lib.hid (show (L ++ [(⟨sk, A1, sn, c1, sx.map nar⟩ : Sg)]).map sgK = (ss.take (j + 1)).map narK ∧ (L ++ [(⟨sk, A1, sn, c1, sx.map nar⟩ : Sg)]).length = j + 1 ∧ ∀ s ∈ L ++ [(⟨sk, A1, sn, c1, sx.map nar⟩ : Sg)], s.n ≤ 1000 from ⟨by rw [hSt.out, List.map_append, hL.out.1, hK.out]; rfl, by rw [List.length_append, hL.out.2.1]; rfl, fun s hs => by
            rcases List.mem_append.1 hs with hs | hs
            · exact hL.out.2.2 s hs
            · rw [List.mem_singleton] at hs
              subst hs
              exact hsn⟩)
          go_roundw
          case rel => exact ⟨j + 1, _, by omega, by go_num, hr3, hF, hb3⟩
          case measure => simp [intOf]; omega
    · have hjn : j = n := by omega
      have hF := Lib.hid (show L.map sgK = ss.map narK ∧ L.length = n ∧ ∀ s ∈ L, s.n ≤ 1000 by
        have := hL.out
        rw [List.take_of_length_le (by have := HN.out; omega)] at this
        exact ⟨this.1, this.2.1.trans hjn, this.2.2⟩)
      go_wp2
      go_ret
      exact ⟨_, L, rfl, hrow, hF, hbw⟩
end Go.Proofs.YtniheakafkakhabDoor

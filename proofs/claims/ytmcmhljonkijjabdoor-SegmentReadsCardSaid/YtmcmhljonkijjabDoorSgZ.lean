/- segment.Read -/
import Derived.Test.YtmcmhljonkijjabDoorSgY
namespace Go.Proofs.YtmcmhljonkijjabDoor
open Go.RowKit Go.Sort

def lenOfS (v : Value) : Nat := match v with | .slice _ n _ => n | _ => 0
theorem SRow.rest {w w' : World} {base : Nat} {v : Value} {L : List Sg} {P : Nat → Prop} (h : SRow w base v L) (k : Rest w w' P) (hp : ∀ j t, t = 36 ∨ t = 38 → base ≤ j → Typed w j t → ¬ P j) : SRow w' base v L :=
  ⟨row_rest h.1 k (fun j hj => hp j _ (.inl rfl) (row_typed h.1 hj).2 (row_typed h.1 hj).1), fun s hs => ⟨row_rest (h.2 s hs).1 k (fun j hj => hp j _ (.inr rfl) (row_typed (h.2 s hs).1 hj).2 (row_typed (h.2 s hs).1 hj).1), (h.2 s hs).2⟩⟩
theorem SRow.lift {w : World} {base b : Nat} {v : Value} {L : List Sg} (h : SRow w base v L) (hb : b ≤ base) : SRow w b v L := ⟨own_leG h.1 hb, fun s hs => (h.2 s hs).lift hb⟩
theorem SRow.form {w : World} {base : Nat} {v : Value} {L : List Sg} (h : SRow w base v L) : ∃ A c, v = .slice A L.length c := own_form h.1
theorem rest_lt {K : Nat} {ys : List Int} (h : okS K ys = true) : (restS K ys).length + 2 ≤ ys.length := by
  unfold okS at h
  have h2 := of_decide_eq_true h
  unfold restS
  rw [List.length_drop]
  omega
/-- What a read gives. -/
def Got (O : Option (List (Int × List Int))) (q : Bool) (L : List Sg) : Prop := ((O = some (L.map sgK) ∧ q = true) ∨ (O = none ∧ q = false ∧ L = [])) ∧ L.length ≤ 600 ∧ ∀ s ∈ L, s.n ≤ 1000
set_option maxRecDepth 100000 in
set_option maxHeartbeats 6400000 in
theorem sread_yes (K : Nat) (hK : K = 2 ∨ K = 4) (A : Option Addr) (n c : Nat) (xs : List Int) (w : World) (h : Bytes w w.heap.size A n xs) (hn : n ≤ 600) (O : Option (List (Int × List Int))) (hO : Hid (readS K (xs.length + 1) xs = O)) :
    Calls Tryd.prog 18 #[.int .i64 (K : Int), .slice A n c] w fun e w' => ∃ v L q, e = .returned (.tuple #[v, .bool q]) ∧ SRow w' w.heap.size v L ∧ Hid (Got O q L) ∧ Below w.heap.size w w' := by
  have HW := Lib.hid (fun W => hasw_any (K : Int) W)
  rw [show decide ((K : Int) = 2 ∨ (K : Int) = 4) = true from decide_eq_true (by omega)] at HW
  have HK := Lib.hid hK
  have hX := Lib.hid (new_any A n c xs _ ((h.below (bl_alloc (bl_refl w) (.cells #[.int .i64 (K : Int)] 3))).more (by simp)) (by omega))
  have hl := h.1
  have HL := Lib.hid (show xs.length ≤ 600 by omega)
  have bB := bl_alloc (bl_refl w) (.cells #[.int .i64 (K : Int)] 3)
  have oW := Own.new w 3 #[.int .i64 (K : Int)]
  have hs0 : (w.alloc (.cells #[.int .i64 (K : Int)] 3)).heap.size = w.heap.size + 1 := by simp
  clear h hK hl
  go_enter Tryd.func18, Tryd.ntmps18
  go_wp2_with fail
  refine (HW.out _).mono ?_
  rintro e w' ⟨rfl, rfl⟩
  go_wp2_with fail
  refine hX.out.mono ?_
  rintro e w1 ⟨g, rfl, hg, hr, hb1⟩
  rw [hs0] at hg
  have oW1 := (oW.step hb1).alloc (.cells #[.pointer (some ⟨g, 0, none⟩)] 72)
  have hs1 : w.heap.size + 1 ≤ w1.heap.size := by have := hb1.size; omega
  have oC := Own.new w1 72 #[.pointer (some ⟨g, 0, none⟩)]
  have rB := hr.toB.below (bl_alloc (bl_refl w1) (.cells #[.pointer (some ⟨g, 0, none⟩)] 72))
  have bX := bl_alloc (bl_trans bB hb1) (.cells #[.pointer (some ⟨g, 0, none⟩)] 72)
  clear oW hb1 hr bB hs0
  go_wp2_with fail
  go_loopw [8] (fun v wr => ∃ (L : List Sg) (ys : List Int) (p : Nat), SRow wr w1.heap.size v L ∧ Hid (Come K xs (L.map sgK) ys ∧ L.length + ys.length ≤ xs.length ∧ ∀ s ∈ L, s.n ≤ 1000) ∧ p + ys.length ≤ 1000 ∧ RdrB w1.heap.size wr g ys p ∧ Own wr w1.heap.size 72 #[.pointer (some ⟨g, 0, none⟩)] ∧ Own wr w.heap.size 3 #[.int .i64 (K : Int)] ∧ Below w.heap.size w wr) (fun v _ => 600 - lenOfS v)
  case atStart => exact ⟨[], xs, 0, SRow.nil _ _, Lib.hid ⟨Come.start K xs, by simp, (fun _ h => by cases h)⟩, by have := HL.out; omega, rB, oC, oW1, bX⟩
  case round =>
    obtain ⟨L, ys, p, hrow, hL, hp, rr, oc, ow, hb⟩ := hrel
    clear rB oC oW1 bX
    obtain ⟨A0, c0, rfl⟩ := hrow.form
    have d0 := oc.cell (i := 0) rfl
    have hyl := Lib.hid (show ys.length ≤ 1000 by omega)
    have hlf := Lib.hid (left_any g ys p wr rr.rdr)
    by_cases hy : ys = []
    · subst hy
      have hG := Lib.hid (show Got O true L from ⟨.inl ⟨by rw [← hO.out]; exact hL.out.1.done, rfl⟩, by have := hL.out.2.1; have := HL.out; simp at this ⊢; omega, hL.out.2.2⟩)
      have hrow2 := hrow.lift (show w.heap.size ≤ w1.heap.size by omega)
      go_wp2_with fail
      refine hlf.out.mono ?_
      rintro e w' ⟨rfl, rfl⟩
      go_wp2
      go_ret2
      exact ⟨_, L, true, rfl, hrow2, hG, hb⟩
    · have hpos : 0 < ys.length := List.length_pos_iff.2 hy
      have hNx := Lib.hid (next_any K HK.out w1.heap.size w1.heap.size w.heap.size g ys p wr oc ow rr hyl.out hp hy)
      by_cases hok : okS K ys = true
      · have hCs := Lib.hid (hL.out.1.step hy hok)
        have hlt := Lib.hid (rest_lt hok)
        rw [hok] at hNx
        have hLl : L.length ≤ 600 := by have := hL.out.2.1; have := HL.out; omega
        have HRow := Lib.hid hrow
        have HR := Lib.hid rr
        have HC := Lib.hid oc
        have HWd := Lib.hid ow
        have HB := Lib.hid hb
        clear hrow rr oc ow hb
        go_wp2_with fail
        refine hlf.out.mono ?_
        rintro e w' ⟨rfl, rfl⟩
        go_wp2_with fail
        go_at_call 53
        refine hNx.out.mono ?_
        rintro e w2 ⟨k, A2, n2, c2, rfl, R2, hy2⟩
        obtain ⟨⟨p2, hp2, r2⟩, sd2, hk2, hn2⟩ := hy2 trivial
        have gty := HR.out.typed
        have row2 := HRow.out.rest R2 (fun j t ht _ hty e => by
          have e2 : j = g := e
          rcases ht with rfl | rfl
          · exact hty.ne gty rd_types.2.2.1 e2
          · exact hty.ne gty rd_types.2.2.2 e2)
        have oc2 := R2.own HC.out (HC.out.typed.ne gty rd_types.1)
        have ow2 := R2.own HWd.out (HWd.out.typed.ne gty rd_types.2.1)
        have hgB : w.heap.size + 1 ≤ g := hg
        have hs2 := R2.size
        have hb2 : Below w.heap.size w w2 := HB.out.trans (R2.to_below HB.out.size (fun i hi e => by have e2 : i = g := e; omega))
        have sd2' := sd2.lift (b := w1.heap.size) (by have := HR.out.size; omega)
        have bQ := bl_alloc (bl_refl w2) (.cells #[.int .i64 k, .slice A2 n2 c2] 36)
        have HRow3 := Lib.hid (row2.below bQ)
        have HSD3 := Lib.hid (sd2'.below bQ)
        have hB3 := bl_alloc hb2 (.cells #[.int .i64 k, .slice A2 n2 c2] 36)
        have HC3 := Lib.hid (oc2.step bQ)
        have HW3 := Lib.hid (ow2.step bQ)
        have HR3 := Lib.hid (r2.below bQ)
        have HB3 := Lib.hid hB3
        have hbs3 : w1.heap.size ≤ w2.heap.size := by have := r2.size; omega
        have HK2 := Lib.hid hk2
        clear row2 oc2 ow2 r2 sd2 sd2' hb2 hB3 bQ hy2 R2 hk2
        go_wp2_with (at_builtin; refine wpList_append_grow _ rfl _ _ rfl sl_segs w1.heap.size _ L.length _ rfl (HRow3.out.1.alloc _) (w2.heap.size + 1 + 1) (some ⟨w2.heap.size + 1, 0, none⟩) 1 1 [.int .i64 k, .slice A2 n2 c2] rfl rfl (Shows.of_owned (by have := Own.new (w2.alloc (.cells #[.int .i64 k, .slice A2 n2 c2] 36)) 36 #[.int .i64 k, .slice A2 n2 c2]; simpa using this) (by omega)) (oneS _ _ _ _) (by unfold maxLen; omega) (by omega) (by simp; omega) ?_; intro v5 w5 ho5 hg5)
        have row5 := HRow3.out.push (q := ⟨k, A2, n2, c2, (segS K ys).2⟩) HSD3.out ho5 hg5
        have hbA := bl_alloc (bl_refl (w2.alloc (.cells #[.int .i64 k, .slice A2 n2 c2] 36))) (.cells #[.int .i64 k, .slice A2 n2 c2] 36)
        have RG := Rest.of_grown hg5 (P := fun i => (Value.slice A0 L.length c0).ownBlock = some i) (fun j hj => hj)
        have oc5 := RG.own (HC3.out.step hbA) (fun e => (row_typed (HRow3.out.below hbA).1 e).1.ne (HC3.out.step hbA).typed (by decide) rfl)
        have ow5 := RG.own (HW3.out.step hbA) (fun e => (row_typed (HRow3.out.below hbA).1 e).1.ne (HW3.out.step hbA).typed (by decide) rfl)
        have rr5 := (HR3.out.below hbA).rest RG (fun i hi e => by
          rcases hi with hi | rfl
          · have := (row_typed (HRow3.out.below hbA).1 e).2; omega
          · exact (row_typed (HRow3.out.below hbA).1 e).1.ne (HR3.out.below hbA).typed rd_types.2.2.1 rfl)
        have hB5 := (HB3.out.alloc HB3.out.size (.cells #[.int .i64 k, .slice A2 n2 c2] 36)).grown hg5 (by have := HB3.out.size; simp at this ⊢; omega) (fun j hj => by have := (row_typed (HRow3.out.below hbA).1 hj).2; omega)
        have hF := Lib.hid (show Come K xs ((L ++ [(⟨k, A2, n2, c2, (segS K ys).2⟩ : Sg)]).map sgK) (restS K ys) ∧ (L ++ [(⟨k, A2, n2, c2, (segS K ys).2⟩ : Sg)]).length + (restS K ys).length ≤ xs.length ∧ ∀ s ∈ L ++ [(⟨k, A2, n2, c2, (segS K ys).2⟩ : Sg)], s.n ≤ 1000 from ⟨by
          rw [List.map_append]
          have e : [(⟨k, A2, n2, c2, (segS K ys).2⟩ : Sg)].map sgK = [segS K ys] := by
            show [(k, (segS K ys).2)] = _
            rw [HK2.out]
          rw [e]
          exact hCs.out, by rw [List.length_append, List.length_singleton]; have := hL.out.2.1; have := hlt.out; omega, fun s hs => by
          rcases List.mem_append.1 hs with hs | hs
          · exact hL.out.2.2 s hs
          · rw [List.mem_singleton] at hs
            subst hs
            show n2 ≤ 1000
            omega⟩)
        have hfin := Lib.hid (show L.length + 1 ≤ 600 by have := hL.out.2.1; have := HL.out; omega)
        obtain ⟨A5, c5, rfl⟩ := row5.form
        go_roundw
        case rel => exact ⟨_, restS K ys, p2, row5, hF, hp2, rr5, oc5, ow5, hB5⟩
        case measure =>
          have := hfin.out
          simp [lenOfS]
          omega
      · have hok2 : okS K ys = false := by simpa using hok
        have hG := Lib.hid (show Got O false [] from ⟨.inr ⟨by rw [← hO.out]; exact hL.out.1.fail hy hok2, rfl, rfl⟩, by simp, fun _ h => by cases h⟩)
        rw [hok2] at hNx
        have HB := Lib.hid hb
        clear hok hrow rr oc ow hb
        go_wp2_with fail
        refine hlf.out.mono ?_
        rintro e w' ⟨rfl, rfl⟩
        go_wp2_with fail
        go_at_call 53
        refine hNx.out.mono ?_
        rintro e w2 ⟨k, A2, n2, c2, rfl, R2, _⟩
        have hb2 : Below w.heap.size w w2 := HB.out.trans (R2.to_below HB.out.size (fun i hi e => by have e2 : i = g := e; omega))
        have hB3 := bl_alloc hb2 (.cells #[.int .i64 k, .slice A2 n2 c2] 36)
        clear R2 hb2
        go_wp2
        go_ret2
        exact ⟨_, [], false, rfl, SRow.nil _ _, hG, hB3⟩
theorem bytes_cut {w : World} {B : Nat} {b o n : Nat} {xs : List Int} (h : Bytes w B (some ⟨b, o, none⟩) n xs) {k : Nat} (hk : k ≤ n) : Bytes w B (some ⟨b, o + k, none⟩) (n - k) (xs.drop k) := by
  have := h.cut (cap := n + k + 1) hk (by omega)
  rw [if_neg (by omega), Option.map_some, Addr.add_lit] at this
  exact this
/-- What a read returns. -/
def GotR (w : World) (O : Option (List (Int × List Int))) (e : Ending) (w' : World) : Prop := ∃ v L q, e = .returned (.tuple #[v, .bool q]) ∧ SRow w' w.heap.size v L ∧ Hid (Got O q L) ∧ Below w.heap.size w w'
theorem GotR.mk {w : World} {O : Option (List (Int × List Int))} {e : Ending} {w' : World} (v : Value) (L : List Sg) (q : Bool) (he : e = .returned (.tuple #[v, .bool q])) (h1 : SRow w' w.heap.size v L) (h2 : Hid (Got O q L)) (h3 : Below w.heap.size w w') : GotR w O e w' := ⟨v, L, q, he, h1, h2, h3⟩
end Go.Proofs.YtmcmhljonkijjabDoor

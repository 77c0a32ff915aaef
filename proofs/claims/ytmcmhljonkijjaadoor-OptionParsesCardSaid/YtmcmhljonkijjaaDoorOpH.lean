/- option.Of -/
import Derived.Test.YtmcmhljonkijjaaDoorOpG
namespace Go.Proofs.YtmcmhljonkijjaaDoor
open Go.RowKit Go.Sort

theorem op6_rowO {W : World} {g : Nat} {T : TypeId} {a b c d e f : Value} (o : Own W g T #[a, b, c, d, e, f]) : W.cell? ⟨g, 0, none⟩ = some a ∧ W.cell? ⟨g, 1, none⟩ = some b ∧ W.cell? ⟨g, 2, none⟩ = some c ∧ W.cell? ⟨g, 3, none⟩ = some d ∧ W.cell? ⟨g, 4, none⟩ = some e ∧ W.cell? ⟨g, 5, none⟩ = some f := ⟨o.cell rfl, o.cell rfl, o.cell rfl, o.cell rfl, o.cell rfl, o.cell rfl⟩
/-- The options after a name, and after names: none, if one is no name or is there already. -/
def oStep (l : List Bool) (nm : ByteArray) : Option (List Bool) :=
  match fIdx nm with
  | none => none
  | some k => if l.getD k false then none else some (l.set k true)
def oFold (l : List Bool) : List ByteArray → Option (List Bool)
  | [] => some l
  | x :: r => (oStep l x).bind fun l' => oFold l' r
theorem oStep_len {l l' : List Bool} {x : ByteArray} (h : oStep l x = some l') : l'.length = l.length := by
  unfold oStep at h
  split at h
  · cases h
  · split at h
    · cases h
    · cases h
      simp
def oOf (r : Option (List Bool)) : Value :=
  match r with
  | some l => .tuple #[.agg (l.map Value.bool).toArray, .bool true]
  | none => .tuple #[.agg #[.bool false, .bool false, .bool false, .bool false, .bool false, .bool false], .bool false]
theorem six_bools {l : List Bool} (h : l.length = 6) : ∃ b0 b1 b2 b3 b4 b5, l = [b0, b1, b2, b3, b4, b5] := by
  match l, h with
  | [b0, b1, b2, b3, b4, b5], _ => exact ⟨b0, b1, b2, b3, b4, b5, rfl⟩
theorem op_oneF (a b c d e f : Bool) : (#[Value.bool a, .bool b, .bool c, .bool d, .bool e, .bool f] : Array Value).all (·.oneCell') = true := by simp [Value.oneCell']
set_option maxRecDepth 100000 in
set_option maxHeartbeats 1600000 in
theorem oof_any (A : Option Addr) (n cp : Nat) (names : List ByteArray) (w : World) (hs : Shows w w.heap.size A (names.map Value.string)) (hn : names.length = n) (hm : n ≤ 1000000) :
    Calls Tryd.prog 27 #[.slice A n cp] w fun e w' => e = .returned (oOf (oFold [false, false, false, false, false, false] names)) ∧ Below w.heap.size w w' := by
  have hb0 := bl_alloc (bl_alloc (bl_refl w) (.cells #[.bool false, .bool false, .bool false, .bool false, .bool false, .bool false] 50)) (.cells #[.bool false, .bool false, .bool false, .bool false, .bool false, .bool false] 86)
  have z0 := (Own.new w 50 #[.bool false, .bool false, .bool false, .bool false, .bool false, .bool false]).alloc (.cells #[.bool false, .bool false, .bool false, .bool false, .bool false, .bool false] 86)
  have r0 := Own.new (w.alloc (.cells #[.bool false, .bool false, .bool false, .bool false, .bool false, .bool false] 50)) 86 #[.bool false, .bool false, .bool false, .bool false, .bool false, .bool false]
  rw [show (w.alloc (.cells #[.bool false, .bool false, .bool false, .bool false, .bool false, .bool false] 50)).heap.size = w.heap.size + 1 by simp] at r0
  have HS := Lib.hid hs
  have HNm := Lib.hid hn
  clear hs hn
  go_enter Tryd.func27, Tryd.ntmps27
  go_wp2_with fail
  go_loopw [10] (fun i wr => ∃ (k : Nat) (l : List Bool), k ≤ n ∧ i = .int .i64 k ∧ l.length = 6 ∧ oFold [false, false, false, false, false, false] names = oFold l (names.drop k) ∧ Own wr w.heap.size 50 #[.bool false, .bool false, .bool false, .bool false, .bool false, .bool false] ∧ Own wr (w.heap.size + 1) 86 (l.map Value.bool).toArray ∧ Below w.heap.size w wr) (fun i _ => n - (intOf i).toNat)
  case atStart => exact ⟨0, [false, false, false, false, false, false], Nat.zero_le _, rfl, rfl, rfl, z0, r0, hb0⟩
  case round =>
    obtain ⟨k, l, hk, rfl, hl, hfo, zr, rr, hbr⟩ := hrel
    clear z0 r0 hb0
    have HF := Lib.hid hfo
    clear hfo
    by_cases hlt : k < n
    · have hkl : k < names.length := by rw [HNm.out]; exact hlt
      obtain ⟨b, o, rfl, hbl, hc⟩ := HS.out.at_ (k := k) (v := .string names[k]) (by simp [hkl])
      have hd := Lib.hid (List.drop_eq_getElem_cons hkl)
      generalize names[k] = nm at *
      have hcr := (hbr.cell (p := ⟨b, o + k, none⟩) hbl).trans hc
      have hsz := hbr.size
      go_wp2_with fail
      refine (find_any (w.heap.size + 1) nm _).mono ?_
      rintro e w1 ⟨rfl, hb1⟩
      have z1 := zr.step hb1
      have r1 := rr.step hb1
      have hb2 := bl_trans hbr hb1
      clear zr rr hbr hb1 hcr hc
      cases hfi : fIdx nm with
      | none =>
        have hR := Lib.hid (show oFold [false, false, false, false, false, false] names = none by rw [HF.out, hd.out]; unfold oFold oStep; rw [hfi]; rfl)
        clear hfi
        go_wp2_with (refine wpList_store_row rfl 50 _ _ rfl w.heap.size #[.bool false, .bool false, .bool false, .bool false, .bool false, .bool false] rfl rfl 50 #[.bool false, .bool false, .bool false, .bool false, .bool false, .bool false] z1 (op_info _ _ _ _ _ _) rfl (op_oneF _ _ _ _ _ _) ?_)
        rw [hR.out]
        exact bodyPost_ret (results_cell_tmp (p := 2) (t := 3) (fn := Tryd.f27) rfl _ _ w.heap.size 50 #[.bool false, .bool false, .bool false, .bool false, .bool false, .bool false] _ rfl z1.setRow op_desc rfl (op_info _ _ _ _ _ _)) rfl ⟨rfl, bl_setRow hb2 (Nat.le_refl _)⟩
      | some j =>
        have hj := fIdx_lt hfi
        have hjl : j < l.length := by omega
        have hcj := r1.cell (i := j) (v := .bool l[j]) (by simp [hjl])
        have hfz := r1.frozen j
        have hltr := r1.lt
        cases hb : l[j] with
        | true =>
          rw [hb] at hcj
          have hR := Lib.hid (show oFold [false, false, false, false, false, false] names = none by rw [HF.out, hd.out]; unfold oFold oStep; rw [hfi]; simp [hjl, hb])
          clear hfi hb
          go_wp2_with (refine wpList_store_row rfl 50 _ _ rfl w.heap.size #[.bool false, .bool false, .bool false, .bool false, .bool false, .bool false] rfl rfl 50 #[.bool false, .bool false, .bool false, .bool false, .bool false, .bool false] z1 (op_info _ _ _ _ _ _) rfl (op_oneF _ _ _ _ _ _) ?_)
          rw [hR.out]
          exact bodyPost_ret (results_cell_tmp (p := 2) (t := 3) (fn := Tryd.f27) rfl _ _ w.heap.size 50 #[.bool false, .bool false, .bool false, .bool false, .bool false, .bool false] _ rfl z1.setRow op_desc rfl (op_info _ _ _ _ _ _)) rfl ⟨rfl, bl_setRow hb2 (Nat.le_refl _)⟩
        | false =>
          rw [hb] at hcj
          have hst := Lib.hid (show oFold l (nm :: names.drop (k + 1)) = oFold (l.set j true) (names.drop (k + 1)) by conv => lhs; unfold oFold oStep; rw [hfi]; simp [hjl, hb])
          have r2 : Own (w1.setCell ⟨w.heap.size + 1, j, none⟩ (.bool true)) (w.heap.size + 1) 86 ((l.set j true).map Value.bool).toArray := by have := r1.set_ j (.bool true); simpa [List.map_set] using this
          have z2 := z1.far (p := ⟨w.heap.size + 1, j, none⟩) (by show w.heap.size ≠ w.heap.size + 1; omega) (.bool true)
          have hb3 := hb2.setCell (p := ⟨w.heap.size + 1, j, none⟩) (by show w.heap.size ≤ w.heap.size + 1; omega) (.bool true)
          clear hfi hb
          go_wp2
          go_roundw
          case rel => exact ⟨k + 1, l.set j true, by omega, by go_num, by rw [List.length_set]; exact hl, by rw [HF.out, hd.out]; exact hst.out, z2, r2, hb3⟩
          case measure => simp [intOf]; omega
    · have hR : oFold [false, false, false, false, false, false] names = some l := by rw [HF.out, List.drop_eq_nil_of_le (by rw [HNm.out]; omega)]; rfl
      have HR := Lib.hid hR
      clear hR
      obtain ⟨b0, b1, b2, b3, b4, b5, rfl⟩ := six_bools hl
      obtain ⟨e0, e1, e2, e3, e4, e5⟩ := op6_rowO (a := .bool b0) (b := .bool b1) (c := .bool b2) (d := .bool b3) (e := .bool b4) (f := .bool b5) rr
      go_wp2_with (refine wpList_store_row rfl 50 _ _ rfl w.heap.size #[.bool b0, .bool b1, .bool b2, .bool b3, .bool b4, .bool b5] rfl rfl 50 #[.bool false, .bool false, .bool false, .bool false, .bool false, .bool false] zr (op_info _ _ _ _ _ _) rfl (op_oneF _ _ _ _ _ _) ?_)
      rw [HR.out]
      exact bodyPost_ret (results_cell_tmp (p := 2) (t := 3) (fn := Tryd.f27) rfl _ _ w.heap.size 50 #[.bool b0, .bool b1, .bool b2, .bool b3, .bool b4, .bool b5] _ rfl zr.setRow op_desc rfl (op_info _ _ _ _ _ _)) rfl ⟨rfl, bl_setRow hbr (Nat.le_refl _)⟩
end Go.Proofs.YtmcmhljonkijjaaDoor

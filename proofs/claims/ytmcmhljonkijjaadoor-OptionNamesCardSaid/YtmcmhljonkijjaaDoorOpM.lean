/- peerageref05.Of -/
import Derived.Test.YtmcmhljonkijjaaDoorOpL
import Derived.Test.YtmcmhljonkijjaaDoorOpJ
import Derived.Test.YtmcmhljonkijjaaDoorOpC
namespace Go.Proofs.YtmcmhljonkijjaaDoor
open Go.RowKit Go.Sort

set_option maxRecDepth 100000 in
theorem rnames_ex (w : World) : Calls Tryd.prog 52 #[] w fun e w' => ∃ g, e = .returned (.slice (some ⟨g, 0, none⟩) 6 6) ∧ Own w' g 9 (nmO.map Value.string).toArray ∧ Below w.heap.size w w' :=
  (rnames_any w).mono fun _ _ h => ⟨_, h⟩
theorem and_twoO {W : World} {a b : Addr} {x y : Value} (h1 : W.cell? a = some x) (h2 : W.cell? b = some y) : W.cell? a = some x ∧ W.cell? b = some y := ⟨h1, h2⟩
theorem drew_twoO {W : World} {a b : Addr} {x y : Value} (h1 : W.cell? a = some x) (h2 : W.cell? b = some y) : W.drew.cell? a = some x ∧ W.drew.cell? b = some y := ⟨h1, h2⟩
theorem fIdx_nm {k : Nat} (h : k < 6) (nm : ByteArray) : nmO.getD k ⟨#[]⟩ = nm ↔ fIdx nm = some k := by
  have hk : k = 0 ∨ k = 1 ∨ k = 2 ∨ k = 3 ∨ k = 4 ∨ k = 5 := by omega
  constructor
  · rintro rfl
    rcases hk with rfl | rfl | rfl | rfl | rfl | rfl <;> decide
  · intro hf
    unfold fIdx at hf
    repeat' split at hf
    all_goals first
      | (cases hf; done)
      | (have e := Option.some.inj hf; subst e; subst_vars; rfl)
/-- Whether the name was found among the first k. -/
def fndO (l : List Bool) (nm : ByteArray) (k : Nat) : Bool := match fIdx nm with | some j => decide (j < k) && !l.getD j false | none => false
/-- The list of truth values behind the first k names. -/
def curO (l : List Bool) (nm : ByteArray) (k : Nat) : List Bool := match fIdx nm with | some j => if j < k then l.set j true else l | none => l
theorem fndO_zero (l : List Bool) (nm : ByteArray) : fndO l nm 0 = false := by unfold fndO; split <;> simp
theorem curO_zero (l : List Bool) (nm : ByteArray) : curO l nm 0 = l := by unfold curO; split <;> simp
theorem curO_len (l : List Bool) (nm : ByteArray) (k : Nat) : (curO l nm k).length = l.length := by
  unfold curO
  split
  · split
    · rw [List.length_set]
    · rfl
  · rfl
theorem fndO_ne {l : List Bool} {nm : ByteArray} {k : Nat} (h : fIdx nm ≠ some k) : fndO l nm (k + 1) = fndO l nm k ∧ curO l nm (k + 1) = curO l nm k := by
  unfold fndO curO
  cases hf : fIdx nm with
  | none => exact ⟨rfl, rfl⟩
  | some j =>
    have hj : j ≠ k := fun e => h (by rw [hf, e])
    have h1 : (j < k + 1) = (j < k) := by rw [eq_iff_iff]; omega
    constructor <;> simp only [h1]
theorem fndO_eq {l : List Bool} {nm : ByteArray} {k : Nat} (h : fIdx nm = some k) : fndO l nm k = false ∧ curO l nm k = l ∧ fndO l nm (k + 1) = !l.getD k false ∧ curO l nm (k + 1) = l.set k true := by
  unfold fndO curO
  simp [h]
theorem set_sameO {l : List Bool} {k : Nat} (h : l.getD k false = true) : l.set k true = l := by
  rw [List.getD_eq_getElem?_getD] at h
  apply List.ext_getElem?
  intro i
  rw [List.getElem?_set]
  split
  · rename_i e
    subst e
    split
    · cases hx : l[k]? with
      | none => rename_i hk; rw [List.getElem?_eq_none_iff] at hx; omega
      | some v => rw [hx] at h; simp at h; rw [h]
    · rename_i hk
      rw [List.getElem?_eq_none (by omega)]
  · rfl
theorem oStep_fnd (l : List Bool) (nm : ByteArray) : oStep l nm = if fndO l nm 6 then some (curO l nm 6) else none := by
  unfold oStep fndO curO
  cases hf : fIdx nm with
  | none => rfl
  | some j =>
    have hj := fIdx_lt hf
    simp only [hj, decide_true, Bool.true_and, if_true]
    cases l.getD j false <;> rfl
set_option maxRecDepth 100000 in
set_option maxHeartbeats 6400000 in
theorem rof_any (A : Option Addr) (n cp : Nat) (names : List ByteArray) (w : World) (hs : Shows w w.heap.size A (names.map Value.string)) (hn : names.length = n) (hm : n ≤ 1000000) :
    Calls Tryd.prog 28 #[.slice A n cp] w fun e w' => e = .returned (oOf (oFold [false, false, false, false, false, false] names)) ∧ Below w.heap.size w w' := by
  have hb0 := bl_alloc (bl_alloc (bl_refl w) (.cells #[.bool false, .bool false, .bool false, .bool false, .bool false, .bool false] 50)) (.cells #[.bool false, .bool false, .bool false, .bool false, .bool false, .bool false] 4)
  have z0 := (Own.new w 50 #[.bool false, .bool false, .bool false, .bool false, .bool false, .bool false]).alloc (.cells #[.bool false, .bool false, .bool false, .bool false, .bool false, .bool false] 4)
  have r0 := Own.new (w.alloc (.cells #[.bool false, .bool false, .bool false, .bool false, .bool false, .bool false] 50)) 4 #[.bool false, .bool false, .bool false, .bool false, .bool false, .bool false]
  rw [show (w.alloc (.cells #[.bool false, .bool false, .bool false, .bool false, .bool false, .bool false] 50)).heap.size = w.heap.size + 1 by simp] at r0
  have HS := Lib.hid hs
  have HNm := Lib.hid hn
  clear hs hn
  go_enter Tryd.func28, Tryd.ntmps28
  go_wp2_with fail
  go_loopw [5, 6, 7] (fun i _ _ wr => ∃ (k : Nat) (l : List Bool), k ≤ n ∧ i = .int .i64 k ∧ l.length = 6 ∧ oFold [false, false, false, false, false, false] names = oFold l (names.drop k) ∧ Own wr w.heap.size 50 #[.bool false, .bool false, .bool false, .bool false, .bool false, .bool false] ∧ Own wr (w.heap.size + 1) 4 (l.map Value.bool).toArray ∧ Below w.heap.size w wr) (fun i _ _ _ => n - (intOf i).toNat)
  case atStart => exact ⟨0, [false, false, false, false, false, false], Nat.zero_le _, rfl, rfl, rfl, z0, r0, hb0⟩
  case round =>
    obtain ⟨k, l, hk, rfl, hl, hfo, zr, rr, hbr⟩ := hrel
    clear z0 r0 hb0
    have HF := Lib.hid hfo
    have HL := Lib.hid hl
    clear hfo hl
    by_cases hlt : k < n
    · have hkl : k < names.length := by rw [HNm.out]; exact hlt
      obtain ⟨b, o, rfl, hbl, hc⟩ := HS.out.at_ (k := k) (v := .string names[k]) (by simp [hkl])
      have hd := Lib.hid (List.drop_eq_getElem_cons hkl)
      generalize names[k] = nm at *
      have hki : (k : Int) < (n : Int) := by omega
      go_wp2_with fail
      go_loopw [6, 7] (fun f q wr => ∃ m : Nat, m ≤ 6 ∧ q = .int .i64 m ∧ f = .bool (fndO l nm m) ∧ Own wr w.heap.size 50 #[.bool false, .bool false, .bool false, .bool false, .bool false, .bool false] ∧ Own wr (w.heap.size + 1) 4 ((curO l nm m).map Value.bool).toArray ∧ Below w.heap.size w wr) (fun _ q _ => 6 - (intOf q).toNat)
      case atStart => exact ⟨0, by omega, rfl, by rw [fndO_zero], zr, by rw [curO_zero]; exact rr, hbr⟩
      case round =>
        obtain ⟨m, hm6, rfl, rfl, z2, r2, hb2⟩ := hrel
        clear zr rr hbr
        have hlc := Lib.hid ((curO_len l nm m).trans HL.out)
        have hsz := hb2.size
        by_cases hlm : m < 6
        · have hmi : (m : Int) < 6 := by omega
          have hcell := Lib.hid (nmO_cell hlm)
          have hqi := Lib.hid (fIdx_nm hlm nm)
          generalize nmO.getD m ⟨#[]⟩ = q at *
          by_cases hq : q = nm
          · have hfi := hqi.out.1 hq
            obtain ⟨f0, c0, f1, c1⟩ := fndO_eq (l := l) hfi
            rw [f0]
            rw [c0] at r2
            subst hq
            cases hx : l.getD m false
            · have hlm2 := Lib.hid (show (l.map Value.bool).toArray[m]? = some (.bool false) by
                rw [List.getD_eq_getElem?_getD] at hx
                have hml : m < l.length := by rw [HL.out]; exact hlm
                rw [List.getElem?_eq_getElem hml] at hx
                simp at hx
                simp [hml, hx])
              have HFC := Lib.hid (show fndO l q (m + 1) = true ∧ curO l q (m + 1) = l.set m true from ⟨by rw [f1, hx]; rfl, c1⟩)
              clear hfi f0 c0 f1 c1 hx
              have HS0 := drew_twoO ((hb2.cell (p := ⟨b, o + k, none⟩) hbl).trans hc) (r2.cell (i := m) (v := .bool false) hlm2.out)
              go_wp2_with fail
              refine wp_region_noPanic ?_
              refine wp_region_held_drew (S := (fun W => W.cell? ⟨b, o + k, none⟩ = some (.string q) ∧ W.cell? ⟨w.heap.size + 1, m, none⟩ = some (.bool false))) (by kernel_rfl) HS0 (fun hHeld => ?_)
              refine wpAnyH_take (i := 1) (v := ?_) rfl (by kernel_rfl) (by kernel_rfl) (by kernel_rfl) (fun _ _ _ h => h) (Or.inl ⟨by rfl, ?_⟩) (by assumption) ?_
              rotate_left
              · (intro W hSw; obtain ⟨s0, s1⟩ := hSw; go_simp; try with_reducible rfl)
              simp only [Act.put, List.getElem_toArray, List.getElem_cons_zero, List.getElem_cons_succ, List.setIfInBounds_toArray, List.set_cons_zero, List.set_cons_succ]
              refine wpAnyH_take (i := 4) (v := ?_) rfl (by kernel_rfl) (by kernel_rfl) (by kernel_rfl) (fun _ _ _ h => h) (Or.inl ⟨by rfl, ?_⟩) (by assumption) ?_
              rotate_left
              · (intro W hSw; obtain ⟨s0, s1⟩ := hSw; go_simp; try with_reducible rfl)
              simp only [Act.put, List.getElem_toArray, List.getElem_cons_zero, List.getElem_cons_succ, List.setIfInBounds_toArray, List.set_cons_zero, List.set_cons_succ]
              refine wpAnyH_take (i := 5) (v := ?_) rfl (by kernel_rfl) (by kernel_rfl) (by kernel_rfl) (fun _ _ _ h => h) (Or.inl ⟨by rfl, ?_⟩) (by assumption) ?_
              rotate_left
              · (intro W hSw; obtain ⟨s0, s1⟩ := hSw; go_simp; try with_reducible rfl)
              simp only [Act.put, List.getElem_toArray, List.getElem_cons_zero, List.getElem_cons_succ, List.setIfInBounds_toArray, List.set_cons_zero, List.set_cons_succ]
              refine wpAnyH_take (i := 6) (v := ?_) rfl (by kernel_rfl) (by kernel_rfl) (by kernel_rfl) (fun _ _ _ h => h) (Or.inl ⟨by rfl, ?_⟩) (by assumption) ?_
              rotate_left
              · (intro W hSw; obtain ⟨s0, s1⟩ := hSw; go_simp; try with_reducible rfl)
              simp only [Act.put, List.getElem_toArray, List.getElem_cons_zero, List.getElem_cons_succ, List.setIfInBounds_toArray, List.set_cons_zero, List.set_cons_succ]
              refine wpAnyH_take (i := 7) (v := ?_) rfl (by kernel_rfl) (by kernel_rfl) (by kernel_rfl) (fun _ _ _ h => h) (Or.inl ⟨by rfl, ?_⟩) (by assumption) ?_
              rotate_left
              · (intro W hSw; obtain ⟨s0, s1⟩ := hSw; go_simp; try with_reducible rfl)
              simp only [Act.put, List.getElem_toArray, List.getElem_cons_zero, List.getElem_cons_succ, List.setIfInBounds_toArray, List.set_cons_zero, List.set_cons_succ]
              refine wpAnyH_ready (rs := [0]) (by kernel_rfl) (by simp) ?_
              refine AllReadyH.cons rfl (fun K hK => ?_) AllReadyH.nil
              go_simp
              (go_at_call 52; (with_reducible refine (rnames_ex _).mono ?_); rintro e w1 ⟨g, rfl, on, hb1⟩)
              have z3 := z2.drew.step hb1
              have r3 := r2.drew.step hb1
              have hb3 := bl_trans hb2.drew hb1
              have hcn := on.cell (i := m) (v := .string q) hcell.out
              have HS1 := and_twoO ((hb3.cell (p := ⟨b, o + k, none⟩) hbl).trans hc) (r3.cell (i := m) (v := .bool false) hlm2.out)
              refine hK.out _ _ HS1 (fun hHeld2 => ?_)
              clear hK K hHeld
              have hHeld := hHeld2
              clear hHeld2
              try simp only [Act.put, List.getElem_toArray, List.getElem_cons_zero, List.setIfInBounds_toArray, List.set_cons_zero, List.set_cons_succ]
              refine wpAnyH_take (i := 2) (v := ?_) rfl (by kernel_rfl) (by kernel_rfl) (by kernel_rfl) (fun _ _ _ h => h) (Or.inl ⟨by rfl, ?_⟩) (by assumption) ?_
              rotate_left
              · (intro W hSw; obtain ⟨s0, s1⟩ := hSw; go_simp; try with_reducible rfl)
              simp only [Act.put, List.getElem_toArray, List.getElem_cons_zero, List.getElem_cons_succ, List.setIfInBounds_toArray, List.set_cons_zero, List.set_cons_succ]
              refine wpAnyH_ready (rs := [3]) (by kernel_rfl) (by simp) ?_
              refine AllReadyH.cons rfl (fun K hK => ?_) AllReadyH.nil
              go_simp
              skip
              refine hK.out _ _ HS1 (fun hHeld2 => ?_)
              clear hK K hHeld
              have hHeld := hHeld2
              clear hHeld2
              try simp only [Act.put, List.getElem_toArray, List.getElem_cons_zero, List.getElem_cons_succ, List.setIfInBounds_toArray, List.set_cons_zero, List.set_cons_succ]
              refine wpAnyH_take (i := 8) (v := ?_) rfl (by kernel_rfl) (by kernel_rfl) (by kernel_rfl) (fun _ _ _ h => h) (Or.inl ⟨by rfl, ?_⟩) (by assumption) ?_
              rotate_left
              · (intro W hSw; obtain ⟨s0, s1⟩ := hSw; go_simp; try with_reducible rfl)
              simp only [Act.put, List.getElem_toArray, List.getElem_cons_zero, List.getElem_cons_succ, List.setIfInBounds_toArray, List.set_cons_zero, List.set_cons_succ]
              refine wpAnyH_take (i := 9) (v := ?_) rfl (by kernel_rfl) (by kernel_rfl) (by kernel_rfl) (fun _ _ _ h => h) (Or.inl ⟨by rfl, ?_⟩) (by assumption) ?_
              rotate_left
              · (intro W hSw; obtain ⟨s0, s1⟩ := hSw; go_simp; try with_reducible rfl)
              simp only [Act.put, List.getElem_toArray, List.getElem_cons_zero, List.getElem_cons_succ, List.setIfInBounds_toArray, List.set_cons_zero, List.set_cons_succ]
              refine wpAnyH_take (i := 10) (v := ?_) rfl (by kernel_rfl) (by kernel_rfl) (by kernel_rfl) (fun _ _ _ h => h) (Or.inl ⟨by rfl, ?_⟩) (by assumption) ?_
              rotate_left
              · (intro W hSw; obtain ⟨s0, s1⟩ := hSw; go_simp; try with_reducible rfl)
              simp only [Act.put, List.getElem_toArray, List.getElem_cons_zero, List.getElem_cons_succ, List.setIfInBounds_toArray, List.set_cons_zero, List.set_cons_succ]
              refine wpAnyH_take (i := 11) (v := ?_) rfl (by kernel_rfl) (by kernel_rfl) (by kernel_rfl) (fun _ _ _ h => h) (Or.inl ⟨by rfl, ?_⟩) (by assumption) ?_
              rotate_left
              · (intro W hSw; obtain ⟨s0, s1⟩ := hSw; go_simp; try with_reducible rfl)
              simp only [Act.put, List.getElem_toArray, List.getElem_cons_zero, List.getElem_cons_succ, List.setIfInBounds_toArray, List.set_cons_zero, List.set_cons_succ]
              refine wpAnyH_take (i := 12) (v := ?_) rfl (by kernel_rfl) (by kernel_rfl) (by kernel_rfl) (fun _ _ _ h => h) (Or.inl ⟨by rfl, ?_⟩) (by assumption) ?_
              rotate_left
              · (intro W hSw; obtain ⟨s0, s1⟩ := hSw; go_simp; try with_reducible rfl)
              simp only [Act.put, List.getElem_toArray, List.getElem_cons_zero, List.getElem_cons_succ, List.setIfInBounds_toArray, List.set_cons_zero, List.set_cons_succ]
              refine wpAnyH_take (i := 13) (v := ?_) rfl (by kernel_rfl) (by kernel_rfl) (by kernel_rfl) (fun _ _ _ h => h) (Or.inl ⟨by rfl, ?_⟩) (by assumption) ?_
              rotate_left
              · (intro W hSw; obtain ⟨s0, s1⟩ := hSw; go_simp; try with_reducible rfl)
              simp only [Act.put, List.getElem_toArray, List.getElem_cons_zero, List.getElem_cons_succ, List.setIfInBounds_toArray, List.set_cons_zero, List.set_cons_succ]
              refine wpAnyH_take (i := 14) (v := ?_) rfl (by kernel_rfl) (by kernel_rfl) (by kernel_rfl) (fun _ _ _ h => h) (Or.inl ⟨by rfl, ?_⟩) (by assumption) ?_
              rotate_left
              · (intro W hSw; obtain ⟨s0, s1⟩ := hSw; go_simp; try with_reducible rfl)
              simp only [Act.put, List.getElem_toArray, List.getElem_cons_zero, List.getElem_cons_succ, List.setIfInBounds_toArray, List.set_cons_zero, List.set_cons_succ]
              refine wpAnyH_take (i := 15) (v := ?_) rfl (by kernel_rfl) (by kernel_rfl) (by kernel_rfl) (fun _ _ _ h => h) (Or.inl ⟨by rfl, ?_⟩) (by assumption) ?_
              rotate_left
              · (intro W hSw; obtain ⟨s0, s1⟩ := hSw; go_simp; try with_reducible rfl)
              simp only [Act.put, List.getElem_toArray, List.getElem_cons_zero, List.getElem_cons_succ, List.setIfInBounds_toArray, List.set_cons_zero, List.set_cons_succ]
              refine wpAnyH_take (i := 16) (v := ?_) rfl (by kernel_rfl) (by kernel_rfl) (by kernel_rfl) (fun _ _ _ h => h) (Or.inl ⟨by rfl, ?_⟩) (by assumption) ?_
              rotate_left
              · (intro W hSw; obtain ⟨s0, s1⟩ := hSw; go_simp; try with_reducible rfl)
              simp only [Act.put, List.getElem_toArray, List.getElem_cons_zero, List.getElem_cons_succ, List.setIfInBounds_toArray, List.set_cons_zero, List.set_cons_succ]
              refine wpAnyH_take (i := 17) (v := ?_) rfl (by kernel_rfl) (by kernel_rfl) (by kernel_rfl) (fun _ _ _ h => h) (Or.inl ⟨by rfl, ?_⟩) (by assumption) ?_
              rotate_left
              · (intro W hSw; obtain ⟨s0, s1⟩ := hSw; go_simp; try with_reducible rfl)
              simp only [Act.put, List.getElem_toArray, List.getElem_cons_zero, List.getElem_cons_succ, List.setIfInBounds_toArray, List.set_cons_zero, List.set_cons_succ]
              refine wpAnyH_take (i := 18) (v := ?_) rfl (by kernel_rfl) (by kernel_rfl) (by kernel_rfl) (fun _ _ _ h => h) (Or.inl ⟨by rfl, ?_⟩) (by assumption) ?_
              rotate_left
              · (intro W hSw; obtain ⟨s0, s1⟩ := hSw; go_simp; try with_reducible rfl)
              simp only [Act.put, List.getElem_toArray, List.getElem_cons_zero, List.getElem_cons_succ, List.setIfInBounds_toArray, List.set_cons_zero, List.set_cons_succ]
              refine wpAnyH_take (i := 19) (v := ?_) rfl (by kernel_rfl) (by kernel_rfl) (by kernel_rfl) (fun _ _ _ h => h) (Or.inl ⟨by rfl, ?_⟩) (by assumption) ?_
              rotate_left
              · (intro W hSw; obtain ⟨s0, s1⟩ := hSw; go_simp; try with_reducible rfl)
              simp only [Act.put, List.getElem_toArray, List.getElem_cons_zero, List.getElem_cons_succ, List.setIfInBounds_toArray, List.set_cons_zero, List.set_cons_succ]
              refine wpAnyH_done (by kernel_rfl) ?_ _
              refine NoPanic.normal ?_
              have hfz := r3.frozen m
              have hltr := r3.lt
              have r4 : Own (w1.setCell ⟨w.heap.size + 1, m, none⟩ (.bool true)) (w.heap.size + 1) 4 ((l.set m true).map Value.bool).toArray := by have := r3.set_ m (.bool true); simpa [List.map_set] using this
              have z4 := z3.far (p := ⟨w.heap.size + 1, m, none⟩) (by show w.heap.size ≠ w.heap.size + 1; omega) (.bool true)
              have hb4 := hb3.setCell (p := ⟨w.heap.size + 1, m, none⟩) (by show w.heap.size ≤ w.heap.size + 1; omega) (.bool true)
              have hclr := HS1.2
              clear r2 z2 hb2 HS0 HS1 hHeld hcn on hb1
              go_wp2
              go_roundw
              case rel => exact ⟨m + 1, by omega, by go_num, by rw [HFC.out.1], z4, by rw [HFC.out.2]; exact r4, hb4⟩
              case measure => simp [intOf]; omega
            · have hlm2 := Lib.hid (show (l.map Value.bool).toArray[m]? = some (.bool true) by
                rw [List.getD_eq_getElem?_getD] at hx
                have hml : m < l.length := by rw [HL.out]; exact hlm
                rw [List.getElem?_eq_getElem hml] at hx
                simp at hx
                simp [hml, hx])
              have HFC := Lib.hid (show fndO l q (m + 1) = false ∧ curO l q (m + 1) = l from ⟨by rw [f1, hx]; rfl, by rw [c1, set_sameO hx]⟩)
              clear hfi f0 c0 f1 c1 hx
              have HS0 := drew_twoO ((hb2.cell (p := ⟨b, o + k, none⟩) hbl).trans hc) (r2.cell (i := m) (v := .bool true) hlm2.out)
              go_wp2_with fail
              refine wp_region_noPanic ?_
              refine wp_region_held_drew (S := (fun W => W.cell? ⟨b, o + k, none⟩ = some (.string q) ∧ W.cell? ⟨w.heap.size + 1, m, none⟩ = some (.bool true))) (by kernel_rfl) HS0 (fun hHeld => ?_)
              refine wpAnyH_take (i := 1) (v := ?_) rfl (by kernel_rfl) (by kernel_rfl) (by kernel_rfl) (fun _ _ _ h => h) (Or.inl ⟨by rfl, ?_⟩) (by assumption) ?_
              rotate_left
              · (intro W hSw; obtain ⟨s0, s1⟩ := hSw; go_simp; try with_reducible rfl)
              simp only [Act.put, List.getElem_toArray, List.getElem_cons_zero, List.getElem_cons_succ, List.setIfInBounds_toArray, List.set_cons_zero, List.set_cons_succ]
              refine wpAnyH_take (i := 4) (v := ?_) rfl (by kernel_rfl) (by kernel_rfl) (by kernel_rfl) (fun _ _ _ h => h) (Or.inl ⟨by rfl, ?_⟩) (by assumption) ?_
              rotate_left
              · (intro W hSw; obtain ⟨s0, s1⟩ := hSw; go_simp; try with_reducible rfl)
              simp only [Act.put, List.getElem_toArray, List.getElem_cons_zero, List.getElem_cons_succ, List.setIfInBounds_toArray, List.set_cons_zero, List.set_cons_succ]
              refine wpAnyH_take (i := 5) (v := ?_) rfl (by kernel_rfl) (by kernel_rfl) (by kernel_rfl) (fun _ _ _ h => h) (Or.inl ⟨by rfl, ?_⟩) (by assumption) ?_
              rotate_left
              · (intro W hSw; obtain ⟨s0, s1⟩ := hSw; go_simp; try with_reducible rfl)
              simp only [Act.put, List.getElem_toArray, List.getElem_cons_zero, List.getElem_cons_succ, List.setIfInBounds_toArray, List.set_cons_zero, List.set_cons_succ]
              refine wpAnyH_take (i := 6) (v := ?_) rfl (by kernel_rfl) (by kernel_rfl) (by kernel_rfl) (fun _ _ _ h => h) (Or.inl ⟨by rfl, ?_⟩) (by assumption) ?_
              rotate_left
              · (intro W hSw; obtain ⟨s0, s1⟩ := hSw; go_simp; try with_reducible rfl)
              simp only [Act.put, List.getElem_toArray, List.getElem_cons_zero, List.getElem_cons_succ, List.setIfInBounds_toArray, List.set_cons_zero, List.set_cons_succ]
              refine wpAnyH_take (i := 7) (v := ?_) rfl (by kernel_rfl) (by kernel_rfl) (by kernel_rfl) (fun _ _ _ h => h) (Or.inl ⟨by rfl, ?_⟩) (by assumption) ?_
              rotate_left
              · (intro W hSw; obtain ⟨s0, s1⟩ := hSw; go_simp; try with_reducible rfl)
              simp only [Act.put, List.getElem_toArray, List.getElem_cons_zero, List.getElem_cons_succ, List.setIfInBounds_toArray, List.set_cons_zero, List.set_cons_succ]
              refine wpAnyH_ready (rs := [0]) (by kernel_rfl) (by simp) ?_
              refine AllReadyH.cons rfl (fun K hK => ?_) AllReadyH.nil
              go_simp
              (go_at_call 52; (with_reducible refine (rnames_ex _).mono ?_); rintro e w1 ⟨g, rfl, on, hb1⟩)
              have z3 := z2.drew.step hb1
              have r3 := r2.drew.step hb1
              have hb3 := bl_trans hb2.drew hb1
              have hcn := on.cell (i := m) (v := .string q) hcell.out
              have HS1 := and_twoO ((hb3.cell (p := ⟨b, o + k, none⟩) hbl).trans hc) (r3.cell (i := m) (v := .bool true) hlm2.out)
              refine hK.out _ _ HS1 (fun hHeld2 => ?_)
              clear hK K hHeld
              have hHeld := hHeld2
              clear hHeld2
              try simp only [Act.put, List.getElem_toArray, List.getElem_cons_zero, List.setIfInBounds_toArray, List.set_cons_zero, List.set_cons_succ]
              refine wpAnyH_take (i := 2) (v := ?_) rfl (by kernel_rfl) (by kernel_rfl) (by kernel_rfl) (fun _ _ _ h => h) (Or.inl ⟨by rfl, ?_⟩) (by assumption) ?_
              rotate_left
              · (intro W hSw; obtain ⟨s0, s1⟩ := hSw; go_simp; try with_reducible rfl)
              simp only [Act.put, List.getElem_toArray, List.getElem_cons_zero, List.getElem_cons_succ, List.setIfInBounds_toArray, List.set_cons_zero, List.set_cons_succ]
              refine wpAnyH_ready (rs := [3]) (by kernel_rfl) (by simp) ?_
              refine AllReadyH.cons rfl (fun K hK => ?_) AllReadyH.nil
              go_simp
              skip
              refine hK.out _ _ HS1 (fun hHeld2 => ?_)
              clear hK K hHeld
              have hHeld := hHeld2
              clear hHeld2
              try simp only [Act.put, List.getElem_toArray, List.getElem_cons_zero, List.getElem_cons_succ, List.setIfInBounds_toArray, List.set_cons_zero, List.set_cons_succ]
              refine wpAnyH_take (i := 8) (v := ?_) rfl (by kernel_rfl) (by kernel_rfl) (by kernel_rfl) (fun _ _ _ h => h) (Or.inl ⟨by rfl, ?_⟩) (by assumption) ?_
              rotate_left
              · (intro W hSw; obtain ⟨s0, s1⟩ := hSw; go_simp; try with_reducible rfl)
              simp only [Act.put, List.getElem_toArray, List.getElem_cons_zero, List.getElem_cons_succ, List.setIfInBounds_toArray, List.set_cons_zero, List.set_cons_succ]
              refine wpAnyH_take (i := 9) (v := ?_) rfl (by kernel_rfl) (by kernel_rfl) (by kernel_rfl) (fun _ _ _ h => h) (Or.inl ⟨by rfl, ?_⟩) (by assumption) ?_
              rotate_left
              · (intro W hSw; obtain ⟨s0, s1⟩ := hSw; go_simp; try with_reducible rfl)
              simp only [Act.put, List.getElem_toArray, List.getElem_cons_zero, List.getElem_cons_succ, List.setIfInBounds_toArray, List.set_cons_zero, List.set_cons_succ]
              refine wpAnyH_take (i := 10) (v := ?_) rfl (by kernel_rfl) (by kernel_rfl) (by kernel_rfl) (fun _ _ _ h => h) (Or.inl ⟨by rfl, ?_⟩) (by assumption) ?_
              rotate_left
              · (intro W hSw; obtain ⟨s0, s1⟩ := hSw; go_simp; try with_reducible rfl)
              simp only [Act.put, List.getElem_toArray, List.getElem_cons_zero, List.getElem_cons_succ, List.setIfInBounds_toArray, List.set_cons_zero, List.set_cons_succ]
              refine wpAnyH_take (i := 11) (v := ?_) rfl (by kernel_rfl) (by kernel_rfl) (by kernel_rfl) (fun _ _ _ h => h) (Or.inl ⟨by rfl, ?_⟩) (by assumption) ?_
              rotate_left
              · (intro W hSw; obtain ⟨s0, s1⟩ := hSw; go_simp; try with_reducible rfl)
              simp only [Act.put, List.getElem_toArray, List.getElem_cons_zero, List.getElem_cons_succ, List.setIfInBounds_toArray, List.set_cons_zero, List.set_cons_succ]
              refine wpAnyH_take (i := 12) (v := ?_) rfl (by kernel_rfl) (by kernel_rfl) (by kernel_rfl) (fun _ _ _ h => h) (Or.inl ⟨by rfl, ?_⟩) (by assumption) ?_
              rotate_left
              · (intro W hSw; obtain ⟨s0, s1⟩ := hSw; go_simp; try with_reducible rfl)
              simp only [Act.put, List.getElem_toArray, List.getElem_cons_zero, List.getElem_cons_succ, List.setIfInBounds_toArray, List.set_cons_zero, List.set_cons_succ]
              refine wpAnyH_take (i := 13) (v := ?_) rfl (by kernel_rfl) (by kernel_rfl) (by kernel_rfl) (fun _ _ _ h => h) (Or.inl ⟨by rfl, ?_⟩) (by assumption) ?_
              rotate_left
              · (intro W hSw; obtain ⟨s0, s1⟩ := hSw; go_simp; try with_reducible rfl)
              simp only [Act.put, List.getElem_toArray, List.getElem_cons_zero, List.getElem_cons_succ, List.setIfInBounds_toArray, List.set_cons_zero, List.set_cons_succ]
              refine wpAnyH_take (i := 14) (v := ?_) rfl (by kernel_rfl) (by kernel_rfl) (by kernel_rfl) (fun _ _ _ h => h) (Or.inl ⟨by rfl, ?_⟩) (by assumption) ?_
              rotate_left
              · (intro W hSw; obtain ⟨s0, s1⟩ := hSw; go_simp; try with_reducible rfl)
              simp only [Act.put, List.getElem_toArray, List.getElem_cons_zero, List.getElem_cons_succ, List.setIfInBounds_toArray, List.set_cons_zero, List.set_cons_succ]
              refine wpAnyH_take (i := 15) (v := ?_) rfl (by kernel_rfl) (by kernel_rfl) (by kernel_rfl) (fun _ _ _ h => h) (Or.inl ⟨by rfl, ?_⟩) (by assumption) ?_
              rotate_left
              · (intro W hSw; obtain ⟨s0, s1⟩ := hSw; go_simp; try with_reducible rfl)
              simp only [Act.put, List.getElem_toArray, List.getElem_cons_zero, List.getElem_cons_succ, List.setIfInBounds_toArray, List.set_cons_zero, List.set_cons_succ]
              refine wpAnyH_take (i := 16) (v := ?_) rfl (by kernel_rfl) (by kernel_rfl) (by kernel_rfl) (fun _ _ _ h => h) (Or.inl ⟨by rfl, ?_⟩) (by assumption) ?_
              rotate_left
              · (intro W hSw; obtain ⟨s0, s1⟩ := hSw; go_simp; try with_reducible rfl)
              simp only [Act.put, List.getElem_toArray, List.getElem_cons_zero, List.getElem_cons_succ, List.setIfInBounds_toArray, List.set_cons_zero, List.set_cons_succ]
              refine wpAnyH_take (i := 17) (v := undef) rfl (by kernel_rfl) (by kernel_rfl) (by kernel_rfl) (fun _ _ _ h => h) (Or.inr ⟨by rfl, rfl⟩) (by assumption) ?_
              simp only [Act.put, List.getElem_toArray, List.getElem_cons_zero, List.getElem_cons_succ, List.setIfInBounds_toArray, List.set_cons_zero, List.set_cons_succ]
              refine wpAnyH_take (i := 18) (v := undef) rfl (by kernel_rfl) (by kernel_rfl) (by kernel_rfl) (fun _ _ _ h => h) (Or.inr ⟨by rfl, rfl⟩) (by assumption) ?_
              simp only [Act.put, List.getElem_toArray, List.getElem_cons_zero, List.getElem_cons_succ, List.setIfInBounds_toArray, List.set_cons_zero, List.set_cons_succ]
              refine wpAnyH_take (i := 19) (v := ?_) rfl (by kernel_rfl) (by kernel_rfl) (by kernel_rfl) (fun _ _ _ h => h) (Or.inl ⟨by rfl, ?_⟩) (by assumption) ?_
              rotate_left
              · (intro W hSw; obtain ⟨s0, s1⟩ := hSw; go_simp; try with_reducible rfl)
              simp only [Act.put, List.getElem_toArray, List.getElem_cons_zero, List.getElem_cons_succ, List.setIfInBounds_toArray, List.set_cons_zero, List.set_cons_succ]
              refine wpAnyH_done (by kernel_rfl) ?_ _
              refine NoPanic.normal ?_
              clear r2 z2 hb2 HS0 HS1 hHeld hcn on hb1
              go_wp2
              go_roundw
              case rel => exact ⟨m + 1, by omega, by go_num, by rw [HFC.out.1], z3, by rw [HFC.out.2]; exact r3, hb3⟩
              case measure => simp [intOf]; omega
          · have m1 : ¬ (q.toList = nm.toList) := fun h => hq ((toList_iffO _ _).1 h)
            have m2 : (q.toList == nm.toList) = false := by simpa using m1
            have HFC := Lib.hid (fndO_ne (l := l) (nm := nm) (k := m) (fun h => hq (hqi.out.2 h)))
            have hlm2 := Lib.hid (show ((curO l nm m).map Value.bool).toArray[m]? = some (.bool ((curO l nm m).getD m false)) by
              have hml : m < (curO l nm m).length := by rw [hlc.out]; exact hlm
              simp [hml])
            have HS0 := drew_twoO ((hb2.cell (p := ⟨b, o + k, none⟩) hbl).trans hc) (r2.cell (i := m) (v := .bool ((curO l nm m).getD m false)) hlm2.out)
            clear hq
            generalize (curO l nm m).getD m false = lx at *
            go_wp2_with fail
            refine wp_region_noPanic ?_
            refine wp_region_held_drew (S := (fun W => W.cell? ⟨b, o + k, none⟩ = some (.string nm) ∧ W.cell? ⟨w.heap.size + 1, m, none⟩ = some (.bool lx))) (by kernel_rfl) HS0 (fun hHeld => ?_)
            refine wpAnyH_take (i := 1) (v := ?_) rfl (by kernel_rfl) (by kernel_rfl) (by kernel_rfl) (fun _ _ _ h => h) (Or.inl ⟨by rfl, ?_⟩) (by assumption) ?_
            rotate_left
            · (intro W hSw; obtain ⟨s0, s1⟩ := hSw; go_simp; try with_reducible rfl)
            simp only [Act.put, List.getElem_toArray, List.getElem_cons_zero, List.getElem_cons_succ, List.setIfInBounds_toArray, List.set_cons_zero, List.set_cons_succ]
            refine wpAnyH_take (i := 4) (v := ?_) rfl (by kernel_rfl) (by kernel_rfl) (by kernel_rfl) (fun _ _ _ h => h) (Or.inl ⟨by rfl, ?_⟩) (by assumption) ?_
            rotate_left
            · (intro W hSw; obtain ⟨s0, s1⟩ := hSw; go_simp; try with_reducible rfl)
            simp only [Act.put, List.getElem_toArray, List.getElem_cons_zero, List.getElem_cons_succ, List.setIfInBounds_toArray, List.set_cons_zero, List.set_cons_succ]
            refine wpAnyH_take (i := 5) (v := ?_) rfl (by kernel_rfl) (by kernel_rfl) (by kernel_rfl) (fun _ _ _ h => h) (Or.inl ⟨by rfl, ?_⟩) (by assumption) ?_
            rotate_left
            · (intro W hSw; obtain ⟨s0, s1⟩ := hSw; go_simp; try with_reducible rfl)
            simp only [Act.put, List.getElem_toArray, List.getElem_cons_zero, List.getElem_cons_succ, List.setIfInBounds_toArray, List.set_cons_zero, List.set_cons_succ]
            refine wpAnyH_take (i := 6) (v := ?_) rfl (by kernel_rfl) (by kernel_rfl) (by kernel_rfl) (fun _ _ _ h => h) (Or.inl ⟨by rfl, ?_⟩) (by assumption) ?_
            rotate_left
            · (intro W hSw; obtain ⟨s0, s1⟩ := hSw; go_simp; try with_reducible rfl)
            simp only [Act.put, List.getElem_toArray, List.getElem_cons_zero, List.getElem_cons_succ, List.setIfInBounds_toArray, List.set_cons_zero, List.set_cons_succ]
            refine wpAnyH_take (i := 7) (v := ?_) rfl (by kernel_rfl) (by kernel_rfl) (by kernel_rfl) (fun _ _ _ h => h) (Or.inl ⟨by rfl, ?_⟩) (by assumption) ?_
            rotate_left
            · (intro W hSw; obtain ⟨s0, s1⟩ := hSw; go_simp; try with_reducible rfl)
            simp only [Act.put, List.getElem_toArray, List.getElem_cons_zero, List.getElem_cons_succ, List.setIfInBounds_toArray, List.set_cons_zero, List.set_cons_succ]
            refine wpAnyH_ready (rs := [0]) (by kernel_rfl) (by simp) ?_
            refine AllReadyH.cons rfl (fun K hK => ?_) AllReadyH.nil
            go_simp
            (go_at_call 52; (with_reducible refine (rnames_ex _).mono ?_); rintro e w1 ⟨g, rfl, on, hb1⟩)
            have z3 := z2.drew.step hb1
            have r3 := r2.drew.step hb1
            have hb3 := bl_trans hb2.drew hb1
            have hcn := on.cell (i := m) (v := .string q) hcell.out
            have HS1 := and_twoO ((hb3.cell (p := ⟨b, o + k, none⟩) hbl).trans hc) (r3.cell (i := m) (v := .bool lx) hlm2.out)
            refine hK.out _ _ HS1 (fun hHeld2 => ?_)
            clear hK K hHeld
            have hHeld := hHeld2
            clear hHeld2
            try simp only [Act.put, List.getElem_toArray, List.getElem_cons_zero, List.setIfInBounds_toArray, List.set_cons_zero, List.set_cons_succ]
            refine wpAnyH_take (i := 2) (v := ?_) rfl (by kernel_rfl) (by kernel_rfl) (by kernel_rfl) (fun _ _ _ h => h) (Or.inl ⟨by rfl, ?_⟩) (by assumption) ?_
            rotate_left
            · (intro W hSw; obtain ⟨s0, s1⟩ := hSw; go_simp; try with_reducible rfl)
            simp only [Act.put, List.getElem_toArray, List.getElem_cons_zero, List.getElem_cons_succ, List.setIfInBounds_toArray, List.set_cons_zero, List.set_cons_succ]
            refine wpAnyH_ready (rs := [3]) (by kernel_rfl) (by simp) ?_
            refine AllReadyH.cons rfl (fun K hK => ?_) AllReadyH.nil
            go_simp
            skip
            refine hK.out _ _ HS1 (fun hHeld2 => ?_)
            clear hK K hHeld
            have hHeld := hHeld2
            clear hHeld2
            try simp only [Act.put, List.getElem_toArray, List.getElem_cons_zero, List.getElem_cons_succ, List.setIfInBounds_toArray, List.set_cons_zero, List.set_cons_succ]
            refine wpAnyH_take (i := 8) (v := ?_) rfl (by kernel_rfl) (by kernel_rfl) (by kernel_rfl) (fun _ _ _ h => h) (Or.inl ⟨by rfl, ?_⟩) (by assumption) ?_
            rotate_left
            · (intro W hSw; obtain ⟨s0, s1⟩ := hSw; go_simp; try with_reducible rfl)
            simp only [Act.put, List.getElem_toArray, List.getElem_cons_zero, List.getElem_cons_succ, List.setIfInBounds_toArray, List.set_cons_zero, List.set_cons_succ]
            refine wpAnyH_take (i := 9) (v := ?_) rfl (by kernel_rfl) (by kernel_rfl) (by kernel_rfl) (fun _ _ _ h => h) (Or.inl ⟨by rfl, ?_⟩) (by assumption) ?_
            rotate_left
            · (intro W hSw; obtain ⟨s0, s1⟩ := hSw; go_simp; try with_reducible rfl)
            simp only [Act.put, List.getElem_toArray, List.getElem_cons_zero, List.getElem_cons_succ, List.setIfInBounds_toArray, List.set_cons_zero, List.set_cons_succ]
            refine wpAnyH_take (i := 10) (v := undef) rfl (by kernel_rfl) (by kernel_rfl) (by kernel_rfl) (fun _ _ _ h => h) (Or.inr ⟨by rfl, rfl⟩) (by assumption) ?_
            simp only [Act.put, List.getElem_toArray, List.getElem_cons_zero, List.getElem_cons_succ, List.setIfInBounds_toArray, List.set_cons_zero, List.set_cons_succ]
            refine wpAnyH_take (i := 11) (v := undef) rfl (by kernel_rfl) (by kernel_rfl) (by kernel_rfl) (fun _ _ _ h => h) (Or.inr ⟨by rfl, rfl⟩) (by assumption) ?_
            simp only [Act.put, List.getElem_toArray, List.getElem_cons_zero, List.getElem_cons_succ, List.setIfInBounds_toArray, List.set_cons_zero, List.set_cons_succ]
            refine wpAnyH_take (i := 12) (v := undef) rfl (by kernel_rfl) (by kernel_rfl) (by kernel_rfl) (fun _ _ _ h => h) (Or.inr ⟨by rfl, rfl⟩) (by assumption) ?_
            simp only [Act.put, List.getElem_toArray, List.getElem_cons_zero, List.getElem_cons_succ, List.setIfInBounds_toArray, List.set_cons_zero, List.set_cons_succ]
            refine wpAnyH_take (i := 13) (v := undef) rfl (by kernel_rfl) (by kernel_rfl) (by kernel_rfl) (fun _ _ _ h => h) (Or.inr ⟨by rfl, rfl⟩) (by assumption) ?_
            simp only [Act.put, List.getElem_toArray, List.getElem_cons_zero, List.getElem_cons_succ, List.setIfInBounds_toArray, List.set_cons_zero, List.set_cons_succ]
            refine wpAnyH_take (i := 14) (v := undef) rfl (by kernel_rfl) (by kernel_rfl) (by kernel_rfl) (fun _ _ _ h => h) (Or.inr ⟨by rfl, rfl⟩) (by assumption) ?_
            simp only [Act.put, List.getElem_toArray, List.getElem_cons_zero, List.getElem_cons_succ, List.setIfInBounds_toArray, List.set_cons_zero, List.set_cons_succ]
            refine wpAnyH_take (i := 15) (v := ?_) rfl (by kernel_rfl) (by kernel_rfl) (by kernel_rfl) (fun _ _ _ h => h) (Or.inl ⟨by rfl, ?_⟩) (by assumption) ?_
            rotate_left
            · (intro W hSw; obtain ⟨s0, s1⟩ := hSw; go_simp; try with_reducible rfl)
            simp only [Act.put, List.getElem_toArray, List.getElem_cons_zero, List.getElem_cons_succ, List.setIfInBounds_toArray, List.set_cons_zero, List.set_cons_succ]
            refine wpAnyH_take (i := 16) (v := ?_) rfl (by kernel_rfl) (by kernel_rfl) (by kernel_rfl) (fun _ _ _ h => h) (Or.inl ⟨by rfl, ?_⟩) (by assumption) ?_
            rotate_left
            · (intro W hSw; obtain ⟨s0, s1⟩ := hSw; go_simp; try with_reducible rfl)
            simp only [Act.put, List.getElem_toArray, List.getElem_cons_zero, List.getElem_cons_succ, List.setIfInBounds_toArray, List.set_cons_zero, List.set_cons_succ]
            refine wpAnyH_take (i := 17) (v := undef) rfl (by kernel_rfl) (by kernel_rfl) (by kernel_rfl) (fun _ _ _ h => h) (Or.inr ⟨by rfl, rfl⟩) (by assumption) ?_
            simp only [Act.put, List.getElem_toArray, List.getElem_cons_zero, List.getElem_cons_succ, List.setIfInBounds_toArray, List.set_cons_zero, List.set_cons_succ]
            refine wpAnyH_take (i := 18) (v := undef) rfl (by kernel_rfl) (by kernel_rfl) (by kernel_rfl) (fun _ _ _ h => h) (Or.inr ⟨by rfl, rfl⟩) (by assumption) ?_
            simp only [Act.put, List.getElem_toArray, List.getElem_cons_zero, List.getElem_cons_succ, List.setIfInBounds_toArray, List.set_cons_zero, List.set_cons_succ]
            refine wpAnyH_take (i := 19) (v := ?_) rfl (by kernel_rfl) (by kernel_rfl) (by kernel_rfl) (fun _ _ _ h => h) (Or.inl ⟨by rfl, ?_⟩) (by assumption) ?_
            rotate_left
            · (intro W hSw; obtain ⟨s0, s1⟩ := hSw; go_simp; try with_reducible rfl)
            simp only [Act.put, List.getElem_toArray, List.getElem_cons_zero, List.getElem_cons_succ, List.setIfInBounds_toArray, List.set_cons_zero, List.set_cons_succ]
            refine wpAnyH_done (by kernel_rfl) ?_ _
            refine NoPanic.normal ?_
            clear r2 z2 hb2 HS0 HS1 hHeld hcn on hb1
            go_wp2
            go_roundw
            case rel => exact ⟨m + 1, by omega, by go_num, by rw [HFC.out.1], z3, by rw [HFC.out.2]; exact r3, hb3⟩
            case measure => simp [intOf]; omega
        · obtain rfl : m = 6 := by omega
          have hst := Lib.hid (oStep_fnd l nm)
          cases hf : fndO l nm 6
          · have hR := Lib.hid (show oFold [false, false, false, false, false, false] names = none by rw [HF.out, hd.out]; unfold oFold; rw [hst.out, hf]; rfl)
            clear hf
            go_wp2_with (refine wpList_store_row rfl 50 _ _ rfl w.heap.size #[.bool false, .bool false, .bool false, .bool false, .bool false, .bool false] rfl rfl 50 #[.bool false, .bool false, .bool false, .bool false, .bool false, .bool false] z2 (op_info _ _ _ _ _ _) rfl (op_oneF _ _ _ _ _ _) ?_)
            rw [hR.out]
            exact bodyPost_ret (results_cell_tmp (p := 2) (t := 3) (fn := Tryd.f28) rfl _ _ w.heap.size 50 #[.bool false, .bool false, .bool false, .bool false, .bool false, .bool false] _ rfl z2.setRow op_desc rfl (op_info _ _ _ _ _ _)) rfl ⟨rfl, bl_setRow hb2 (Nat.le_refl _)⟩
          · have hR := Lib.hid (show oFold l (nm :: names.drop (k + 1)) = oFold (curO l nm 6) (names.drop (k + 1)) by show ((oStep l nm).bind fun l' => oFold l' (names.drop (k + 1))) = _; rw [hst.out, hf]; rfl)
            clear hf
            go_wp2
            go_roundw
            case rel => exact ⟨k + 1, curO l nm 6, by omega, by go_num, hlc.out, by rw [HF.out, hd.out]; exact hR.out, z2, r2, hb2⟩
            case measure => simp [intOf]; omega
    · have hR : oFold [false, false, false, false, false, false] names = some l := by rw [HF.out, List.drop_eq_nil_of_le (by rw [HNm.out]; omega)]; rfl
      have HR := Lib.hid hR
      clear hR
      obtain ⟨b0, b1, b2, b3, b4, b5, rfl⟩ := six_bools HL.out
      go_wp2_with fail
      refine (rof5_any _ b0 b1 b2 b3 b4 b5 _ rr).mono ?_
      rintro e w1 ⟨rfl, hb1⟩
      have z1 := zr.step hb1
      have hb2 := bl_trans hbr hb1
      clear zr rr hbr hb1
      go_wp2_with (refine wpList_store_row rfl 50 _ _ rfl w.heap.size #[.bool b0, .bool b1, .bool b2, .bool b3, .bool b4, .bool b5] rfl rfl 50 #[.bool false, .bool false, .bool false, .bool false, .bool false, .bool false] z1 (op_info _ _ _ _ _ _) rfl (op_oneF _ _ _ _ _ _) ?_)
      rw [HR.out]
      exact bodyPost_ret (results_cell_tmp (p := 2) (t := 3) (fn := Tryd.f28) rfl _ _ w.heap.size 50 #[.bool b0, .bool b1, .bool b2, .bool b3, .bool b4, .bool b5] _ rfl z1.setRow op_desc rfl (op_info _ _ _ _ _ _)) rfl ⟨rfl, bl_setRow hb2 (Nat.le_refl _)⟩
end Go.Proofs.YtmcmhljonkijjaaDoor

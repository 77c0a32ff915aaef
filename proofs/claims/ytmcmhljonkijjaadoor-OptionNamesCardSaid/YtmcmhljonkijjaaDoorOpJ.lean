/- peerageref05.Text -/
import Derived.Test.YtmcmhljonkijjaaDoorOpF
namespace Go.Proofs.YtmcmhljonkijjaaDoor
open Go.RowKit Go.Sort

def nmO : List ByteArray := [⟨#[97, 115, 52]⟩, ⟨#[101, 120, 116, 101, 110, 100, 101, 100]⟩, ⟨#[109, 112, 52]⟩, ⟨#[109, 112, 54]⟩, ⟨#[97, 100, 100, 52]⟩, ⟨#[97, 100, 100, 54]⟩]
set_option maxRecDepth 100000 in
theorem rnames_any (w : World) : Calls Tryd.prog 52 #[] w fun e w' => e = .returned (.slice (some ⟨w.heap.size, 0, none⟩) 6 6) ∧ Own w' w.heap.size 9 (nmO.map Value.string).toArray ∧ Below w.heap.size w w' := by
  have o := Own.new w 9 (nmO.map Value.string).toArray
  have hb := bl_alloc (bl_refl w) (.cells (nmO.map Value.string).toArray 9)
  go_enter Tryd.func52, Tryd.ntmps52
  go_wp2
  go_ret
  exact ⟨rfl, o, hb⟩
/-- The text so far, as the reference builds it. -/
def rSt (bs : List Bool) : Nat → ByteArray
  | 0 => ⟨#[]⟩
  | k + 1 => if bs.getD k false then (if rSt bs k = ⟨#[]⟩ then rSt bs k else rSt bs k ++ ⟨#[32]⟩) ++ nmO.getD k ⟨#[]⟩ else rSt bs k
theorem rSt_facts : ∀ a0 a1 a2 a3 a4 a5 : Bool, (∀ k : Fin 7, (rSt [a0, a1, a2, a3, a4, a5] k.1).size ≤ 100) ∧ (if rSt [a0, a1, a2, a3, a4, a5] 6 = ⟨#[]⟩ then ⟨#[45]⟩ else rSt [a0, a1, a2, a3, a4, a5] 6) = oTxt a0 a1 a2 a3 a4 a5 := by decide +kernel
theorem nilO {x : ByteArray} (h : x ≠ ⟨#[]⟩) : x.toList ≠ [] := fun e => h (by
  rw [ByteArray.toList_eq] at e
  exact ByteArray.ext (Array.ext' e))
theorem nilO2 {x : ByteArray} (h : x ≠ ⟨#[]⟩) : x.toList.isEmpty = false := by
  cases hx : x.toList with
  | nil => exact absurd hx (nilO h)
  | cons a r => rfl
theorem nmO_cell {k : Nat} (h : k < 6) : (nmO.map Value.string).toArray[k]? = some (.string (nmO.getD k ⟨#[]⟩)) := by
  have : k = 0 ∨ k = 1 ∨ k = 2 ∨ k = 3 ∨ k = 4 ∨ k = 5 := by omega
  rcases this with rfl | rfl | rfl | rfl | rfl | rfl <;> rfl
theorem nmO_size {k : Nat} : (nmO.getD k ⟨#[]⟩).size ≤ 20 := by
  by_cases h : k < 6
  · have : k = 0 ∨ k = 1 ∨ k = 2 ∨ k = 3 ∨ k = 4 ∨ k = 5 := by omega
    rcases this with rfl | rfl | rfl | rfl | rfl | rfl <;> decide
  · rw [List.getD_eq_getElem?_getD, List.getElem?_eq_none (show nmO.length ≤ k from by show 6 ≤ k; omega)]
    decide
set_option maxRecDepth 100000 in
set_option maxHeartbeats 1600000 in
theorem rtext_core (a0 a1 a2 a3 a4 a5 : Bool) (T : Nat → ByteArray) (w : World) (hT0 : T 0 = ⟨#[]⟩) (hTs : ∀ k, k < 6 → (T (k + 1) = if [a0, a1, a2, a3, a4, a5].getD k false then (if T k = ⟨#[]⟩ then T k else T k ++ ⟨#[32]⟩) ++ nmO.getD k ⟨#[]⟩ else T k)) (hsz : ∀ k, k ≤ 6 → (T k).size ≤ 100) :
    Calls Tryd.prog 60 #[.agg #[.bool a0, .bool a1, .bool a2, .bool a3, .bool a4, .bool a5]] w fun e w' => e = .returned (.string (if T 6 = ⟨#[]⟩ then ⟨#[45]⟩ else T 6)) ∧ Below w.heap.size w w' := by
  have hb0 := bl_alloc (bl_refl w) (.cells #[.bool a0, .bool a1, .bool a2, .bool a3, .bool a4, .bool a5] 50)
  generalize hE : (if T 6 = ⟨#[]⟩ then ⟨#[45]⟩ else T 6 : ByteArray) = E
  have HE := Lib.hid hE
  have HS := Lib.hid hTs
  have HZ := Lib.hid hsz
  have H0 := Lib.hid hT0
  clear hTs hsz hT0 hE
  go_enter Tryd.func60, Tryd.ntmps60
  go_wp2_with fail
  refine (rlist_any a0 a1 a2 a3 a4 a5 _).mono ?_
  rintro e w1 ⟨g, rfl, hg, og, hb1⟩
  have hb2 := bl_trans hb0 hb1
  clear hb0 hb1
  go_wp2_with fail
  go_loopw [3, 5] (fun s i wr => ∃ k : Nat, k ≤ 6 ∧ i = .int .i64 k ∧ s = .string (T k) ∧ Own wr g 4 ([a0, a1, a2, a3, a4, a5].map Value.bool).toArray ∧ Below w.heap.size w wr) (fun _ i _ => 6 - (intOf i).toNat)
  case atStart => exact ⟨0, by omega, rfl, by rw [H0.out], og, hb2⟩
  case round =>
    obtain ⟨k, hk, rfl, rfl, ogr, hbr⟩ := hrel
    clear og hb2
    have hzk := HZ.out k hk
    have hltg := ogr.lt
    by_cases hlt : k < 6
    · have hst := Lib.hid (HS.out k hlt)
      have hc : wr.cell? ⟨g, k, none⟩ = some (.bool ([a0, a1, a2, a3, a4, a5].getD k false)) := ogr.cell (by
        have : k = 0 ∨ k = 1 ∨ k = 2 ∨ k = 3 ∨ k = 4 ∨ k = 5 := by omega
        rcases this with rfl | rfl | rfl | rfl | rfl | rfl <;> rfl)
      have hnz := nmO_size (k := k)
      have hcell := Lib.hid (nmO_cell hlt)
      generalize nmO.getD k ⟨#[]⟩ = nm at *
      cases hb : [a0, a1, a2, a3, a4, a5].getD k false with
      | true =>
        rw [hb] at hc hst
        clear hb
        by_cases he : T k = ⟨#[]⟩
        · have hstE := Lib.hid (show T (k + 1) = (⟨#[]⟩ : ByteArray) ++ nm by rw [hst.out, if_pos rfl, if_pos he, he])
          rw [he]
          clear hzk hst he
          go_wp2_with fail
          refine (rnames_any _).mono ?_
          rintro e w2 ⟨rfl, on, hb1⟩
          have og2 := ogr.step hb1
          have hb2 := bl_trans hbr hb1
          have hcn := on.cell (i := k) (v := .string nm) hcell.out
          have hln := on.lt
          clear ogr hbr hb1
          go_wp2
          go_roundw
          case rel => exact ⟨k + 1, by omega, by go_num, by rw [hstE.out], og2, hb2⟩
          case measure => simp [intOf]; omega
        · have hstE := Lib.hid (show T (k + 1) = T k ++ (⟨#[32]⟩ : ByteArray) ++ nm by rw [hst.out, if_pos rfl, if_neg he])
          have n1 := nilO he
          have n2 := nilO2 he
          clear hst he
          go_wp2_with fail
          refine (rnames_any _).mono ?_
          rintro e w2 ⟨rfl, on, hb1⟩
          have og2 := ogr.step hb1
          have hb2 := bl_trans hbr hb1
          have hcn := on.cell (i := k) (v := .string nm) hcell.out
          have hln := on.lt
          clear ogr hbr hb1
          go_wp2
          go_roundw
          case rel => exact ⟨k + 1, by omega, by go_num, by rw [hstE.out], og2, hb2⟩
          case measure => simp [intOf]; omega
      | false =>
        rw [hb] at hc hst
        clear hb
        have hstE := Lib.hid (show T (k + 1) = T k by rw [hst.out, if_neg (by simp)])
        clear hst
        go_wp2
        go_roundw
        case rel => exact ⟨k + 1, by omega, by go_num, by rw [hstE.out], ogr, hbr⟩
        case measure => simp [intOf]; omega
    · obtain rfl : k = 6 := by omega
      by_cases he : T 6 = ⟨#[]⟩
      · obtain rfl : E = ⟨#[45]⟩ := by rw [← HE.out, if_pos he]
        rw [he]
        clear hzk he
        go_wp2
        go_ret
        exact ⟨rfl, hbr⟩
      · obtain rfl : E = T 6 := by rw [← HE.out, if_neg he]
        have n1 := nilO he
        have n2 := nilO2 he
        clear he
        go_wp2
        go_ret
        exact ⟨rfl, hbr⟩
set_option maxRecDepth 100000 in
theorem rtext_any (a0 a1 a2 a3 a4 a5 : Bool) (w : World) :
    Calls Tryd.prog 60 #[.agg #[.bool a0, .bool a1, .bool a2, .bool a3, .bool a4, .bool a5]] w fun e w' => e = .returned (.string (oTxt a0 a1 a2 a3 a4 a5)) ∧ Below w.heap.size w w' := by
  rw [← (rSt_facts a0 a1 a2 a3 a4 a5).2]
  exact rtext_core a0 a1 a2 a3 a4 a5 (rSt [a0, a1, a2, a3, a4, a5]) w rfl (fun k _ => by rw [rSt]) (fun k hk => (rSt_facts a0 a1 a2 a3 a4 a5).1 ⟨k, by omega⟩)
end Go.Proofs.YtmcmhljonkijjaaDoor

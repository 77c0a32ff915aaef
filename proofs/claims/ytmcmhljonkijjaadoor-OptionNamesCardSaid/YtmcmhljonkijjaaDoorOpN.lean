/- OptionNames: strings cloned and reversed, words of a text, the walk -/
import Derived.Test.YtmcmhljonkijjaaDoorOpM
import Derived.Test.YtmcmhljonkijjaaDoorTiedTM
import Derived.Sort.OwnSorted
namespace Go.Proofs.YtmcmhljonkijjaaDoor
open Go.RowKit Go.Sort Go.ChangeShapes Go.WideShapes

/-- The table of ASCII's spaces holds what the program lays in it. -/
def Spaces (w : World) : Prop := /- 1 -/ Lib.TabIs Tryd.prog w "strings.asciiSpace" .u8 Lib.asciiSpaceTab
set_option maxRecDepth 100000 in
theorem spaces_named : Tryd.prog.globalNamed "strings.asciiSpace" = some 1 := by kernel_rfl
theorem Spaces.below {w w' : World} (h : Spaces w) (hb : Below w.heap.size w w') : Spaces w' := Joins.tab_stays spaces_named h hb (Nat.le_refl _)
set_option maxRecDepth 100000 in
theorem spaces_of {l : List (String × DataW Unit)} {W : World} (h : laidMetH Tryd.prog l W) (hp : (l.all fun x => x.2.handleName?.isNone) = true) (hm : ("strings.asciiSpace", Rows.laid_strings_asciiSpace) ∈ l) : Spaces W := by
  rw [MakeChecks.laidMetH_plain _ _ _ hp] at h
  obtain ⟨ps, hl, _⟩ := h
  obtain ⟨g, t, cs, fuel, p, h1, h2, h3, h4⟩ := laid_read hl hm
  obtain rfl := Option.some.inj (spaces_named.symm.trans h1)
  have ht : (Tryd.prog.globals[1]?).map (·.type) = some 93 := by kernel_rfl
  obtain rfl := Option.some.inj (ht.symm.trans h2)
  have hd : (Rows.laid_strings_asciiSpace : DataW Unit) = Lib.tabData .u8 Lib.asciiSpaceTab := by kernel_rfl
  rw [hd] at h4
  have hc := Lib.cells_of_tab Tryd.underlying93 Tryd.underlying5 (by kernel_rfl) (by kernel_rfl) h4
  show W.var? _ _ = _
  rw [h3, ← hc]
theorem strs_enc (names : List ByteArray) : names.map Value.string = (names.map (·.data.toList)).map encStr := by
  rw [List.map_map]
  apply List.map_congr_left
  intro x _
  rfl
set_option maxRecDepth 100000 in
theorem sclone_any (A : Option Addr) (n c : Nat) (names : List ByteArray) (w : World) (hs : Shows w w.heap.size A (names.map Value.string)) (hn : names.length = n) (hm : n ≤ 1000) :
    Calls Tryd.prog 29 #[.slice A n c] w fun e w' => ∃ v', e = .returned v' ∧ w'.ownsRow w.heap.size 9 1 v' n (names.map Value.string) ∧ Below w.heap.size w w' := by
  subst hn
  cases A with
  | none =>
    have h0 := hs.none_
    rw [List.map_eq_nil_iff] at h0
    subst h0
    refine (Tryd.slices_Clone_string_nil 0 c w).mono ?_
    rintro e w' ⟨rfl, rfl⟩
    exact ⟨_, rfl, World.ownsRow_nil _ _ _ _, bl_refl _⟩
  | some a =>
    rcases hs with h0 | ⟨b, o, hA, hb, hc⟩
    · rw [List.map_eq_nil_iff] at h0
      subst h0
      refine (Tryd.slices_Clone_string_zero a c w).mono ?_
      rintro e w' ⟨v', rfl, ho, _, hb⟩
      exact ⟨v', rfl, ho, hb⟩
    · cases hA
      refine (Tryd.slices_Clone_string b o names.length c names w (Nat.le_refl _) (by omega) (fun j hj => ?_)).mono ?_
      · exact hc j _ (by rw [List.getElem?_map, List.getD_eq_getElem?_getD, List.getElem?_eq_getElem hj]; rfl)
      · rintro e w' ⟨v', rfl, ho, _, hb⟩
        rw [List.take_length] at ho
        exact ⟨v', rfl, ho, hb⟩
set_option maxRecDepth 100000 in
theorem srev_any (base n : Nat) (v : Value) (names : List ByteArray) (w : World) (h : w.ownsRow base 9 1 v n (names.map Value.string)) (hn : names.length = n) (hm : n ≤ 1000) :
    Calls Tryd.prog 30 #[v] w fun e w' => e = .returned (.tuple #[]) ∧ w'.ownsRow base 9 1 v n (names.reverse.map Value.string) ∧ w.grownBy w' v.ownBlock := by
  subst hn
  have h0 := h
  rcases h.2 with ⟨rfl, hz⟩ | ⟨g, cap, cur, rfl, hbase, hb, h1, h2, h3, h4⟩
  · have hnil : names = [] := List.length_eq_zero_iff.1 hz
    subst hnil
    refine (Tryd.slices_Reverse_string_empty none 0 w).mono ?_
    rintro e w' ⟨rfl, rfl⟩
    exact ⟨rfl, World.ownsRow_nil _ _ _ _, World.grownBy.refl _ _⟩
  · have hH : Holds encStr w g 0 (names.map (·.data.toList)).toArray := holds_of_block hb (by rw [List.length_map, ← strs_enc]; simpa using h4)
    have hC := Tryd.slices_Reverse_string g 0 cap (names.map (·.data.toList)) w hH (by rw [List.length_map]; omega)
    rw [List.length_map] at hC
    refine hC.mono ?_
    rintro e w' ⟨rfl, k, rfl⟩
    have e1 : putRow encStr (Sort.ahead w k) g 0 (names.map (·.data.toList)).reverse.toArray = grow (putRow encStr (Sort.ahead w k) g 0 (names.map (·.data.toList)).reverse.toArray) #[] := (grow_empty _).symm
    have hS := ownsRow_sorted (n := k) (os := #[]) (base := base) (ss := names.map (·.data.toList)) (ts := (names.map (·.data.toList)).reverse) (by simp) hbase hb (by rw [List.length_map]; exact h1) h2 h3
    rw [← e1, List.length_map] at hS
    refine ⟨rfl, ?_, ?_⟩
    · rw [strs_enc, List.map_reverse]
      exact hS
    · rw [e1]
      exact grownBy_sorted _
theorem row_typed' {w : World} {base : Nat} {e : TypeId} {size n : Nat} {v : Value} {xs : List Value} (h : w.ownsRow base e size v n xs) {j : Nat} (hj : v.ownBlock = some j) : base ≤ j := (h.lt j hj).1
theorem own_strs {w : World} {base n : Nat} {v : Value} {xs : List ByteArray} (h : w.ownsRow base 9 1 v n (xs.map Value.string)) : ∃ A c, v = .slice A n c ∧ Shows w w.heap.size A (xs.map Value.string) := by
  rcases h.2 with ⟨rfl, rfl⟩ | ⟨g, cap, cur, rfl, _⟩
  · exact ⟨none, 0, rfl, Shows.of_own h⟩
  · exact ⟨_, cap, rfl, Shows.of_own h⟩
theorem words_facts : ∀ a0 a1 a2 a3 a4 a5 : Bool, oNone a0 a1 a2 a3 a4 a5 = false → (oTxt a0 a1 a2 a3 a4 a5).size ≤ 60 ∧ ((oTxt a0 a1 a2 a3 a4 a5).data.toList.all fun b => decide (b.toNat < 128)) = true ∧ (Lib.fields (oTxt a0 a1 a2 a3 a4 a5).data.toList).length = [a0, a1, a2, a3, a4, a5].count true := by decide +kernel
theorem oNone_count : ∀ a0 a1 a2 a3 a4 a5 : Bool, oNone a0 a1 a2 a3 a4 a5 = true → [a0, a1, a2, a3, a4, a5].count true = 0 := by decide
/-- What names give, as cells. -/
theorem oOf_form (r : Option (List Bool)) (h : ∀ l, r = some l → l.length = 6) : ∃ a0 a1 a2 a3 a4 a5 q, oOf r = .tuple #[.agg #[.bool a0, .bool a1, .bool a2, .bool a3, .bool a4, .bool a5], .bool q] ∧ (q = true → r = some [a0, a1, a2, a3, a4, a5]) := by
  cases r with
  | none => exact ⟨_, _, _, _, _, _, _, rfl, fun h => by cases h⟩
  | some l =>
    obtain ⟨b0, b1, b2, b3, b4, b5, rfl⟩ := six_bools (h l rfl)
    exact ⟨_, _, _, _, _, _, _, rfl, fun _ => rfl⟩
theorem oFold_len : ∀ (names : List ByteArray) {l l' : List Bool}, oFold l names = some l' → l'.length = l.length := by
  intro names
  induction names with
  | nil => intro l l' h; cases h; rfl
  | cons x r ih =>
    intro l l' h
    unfold oFold at h
    cases hs : oStep l x with
    | none => rw [hs] at h; cases h
    | some l1 => rw [hs] at h; exact (ih h).trans (oStep_len hs)
set_option maxRecDepth 100000 in
set_option maxHeartbeats 6400000 in
theorem onames_main (A : Option Addr) (n c : Nat) (names : List ByteArray) (w : World) (hs : Shows w w.heap.size A (names.map Value.string)) (hn : names.length = n) (hm : n ≤ 20) (hsp : Spaces w) :
    Calls Tryd.prog 6 #[.slice A n c] w fun e w' => e = .returned (.bool true) ∧ Below w.heap.size w w' := by
  obtain ⟨a0, a1, a2, a3, a4, a5, q, hof, hq⟩ := oOf_form (oFold [false, false, false, false, false, false] names) (fun l h => oFold_len names h)
  have HQ := Lib.hid hq
  have hrv := oFold_rev names [false, false, false, false, false, false] rfl
  have HO := Lib.hid (fun (W : World) (h : Below w.heap.size w W) => oof_any A n c names W ((hs.below h).more h.size) hn (by omega))
  have HR := Lib.hid (fun (W : World) (h : Below w.heap.size w W) => rof_any A n c names W ((hs.below h).more h.size) hn (by omega))
  have HC := Lib.hid (fun (W : World) (h : Below w.heap.size w W) => sclone_any A n c names W ((hs.below h).more h.size) hn (by omega))
  have HV := Lib.hid (fun (base : Nat) (v : Value) (W : World) (h : W.ownsRow base 9 1 v n (names.map Value.string)) => srev_any base n v names W h hn (by omega))
  have HB := Lib.hid (fun (A' : Option Addr) (c' : Nat) (W : World) (h : Shows W W.heap.size A' (names.reverse.map Value.string)) => oof_any A' n c' names.reverse W h (by rw [List.length_reverse]; exact hn) (by omega))
  rw [hof] at HO HR
  rw [hrv, hof] at HB
  have hsame := op_same a0 a1 a2 a3 a4 a5
  have HT := Lib.hid (fun W => otext_any a0 a1 a2 a3 a4 a5 W)
  have HSP := Lib.hid hsp
  have HN := Lib.hid hn
  have hmi : ¬ (20 : Int) < (n : Int) := by omega
  clear hs hof hq hrv hsp hn
  go_enter Tryd.func6, Tryd.ntmps6
  go_wp2_with fail
  refine (HO.out _ (bl_refl w)).mono ?_
  rintro e w1 ⟨rfl, hb1⟩
  have o1 := Own.new w1 50 #[.bool a0, .bool a1, .bool a2, .bool a3, .bool a4, .bool a5]
  have hb2 := bl_alloc hb1 (.cells #[.bool a0, .bool a1, .bool a2, .bool a3, .bool a4, .bool a5] 50)
  clear hb1
  go_wp2_with fail
  refine (HR.out _ hb2).mono ?_
  rintro e w2 ⟨rfl, hb3⟩
  have p1 := (o1.step hb3).alloc (.cells #[.bool a0, .bool a1, .bool a2, .bool a3, .bool a4, .bool a5] 50)
  have p2 := Own.new w2 50 #[.bool a0, .bool a1, .bool a2, .bool a3, .bool a4, .bool a5]
  have hb4 := bl_alloc (bl_trans hb2 hb3) (.cells #[.bool a0, .bool a1, .bool a2, .bool a3, .bool a4, .bool a5] 50)
  have hlt1 := (o1.step hb3).lt
  clear o1 hb2 hb3
  go_wp2_with fail
  refine (HC.out _ hb4).mono ?_
  rintro e w3 ⟨v3, rfl, hown, hb5⟩
  have q1 := p1.step hb5
  have q2 := p2.step hb5
  have hb6 := bl_trans hb4 hb5
  clear p1 p2 hb5
  go_wp2_with fail
  refine (HV.out _ _ _ hown).mono ?_
  rintro e w4 ⟨rfl, hown4, hgr⟩
  have hbase := own_base hown
  have nb : ∀ k, k < w2.heap.size + 1 → some k ≠ v3.ownBlock := fun k hk e => by
    have := (row_typed' hown e.symm)
    simp at this
    omega
  have r1 := q1.grown hgr (nb _ (by omega))
  have r2 := q2.grown hgr (nb _ (by omega))
  have hb7 : Below w.heap.size w w4 := hb6.grown hgr hb6.size (fun k hk => by
    have h1 := row_typed' hown hk
    have h2 := hb4.size
    simp at h1 h2
    omega)
  obtain ⟨A4, c4, rfl, hs4⟩ := own_strs hown4
  clear q1 q2 hb6 hown hown4 hgr nb hbase hb4
  go_wp2_with fail
  refine (HB.out _ _ _ hs4).mono ?_
  rintro e w5 ⟨rfl, hb8⟩
  have s1 := (r1.step hb8).alloc (.cells #[.bool a0, .bool a1, .bool a2, .bool a3, .bool a4, .bool a5] 50)
  have s2 := (r2.step hb8).alloc (.cells #[.bool a0, .bool a1, .bool a2, .bool a3, .bool a4, .bool a5] 50)
  have s3 := Own.new w5 50 #[.bool a0, .bool a1, .bool a2, .bool a3, .bool a4, .bool a5]
  have hb9 := bl_alloc (bl_trans hb7 hb8) (.cells #[.bool a0, .bool a1, .bool a2, .bool a3, .bool a4, .bool a5] 50)
  clear r1 r2 hb7 hb8 hs4
  go_wp2_with fail
  refine (alive05_any _).mono ?_
  rintro e w6 ⟨rfl, hb10⟩
  have t1 := s1.step hb10
  have t2 := s2.step hb10
  have t3 := s3.step hb10
  have hb11 := bl_trans hb9 hb10
  clear s1 s2 s3 hb9 hb10
  obtain ⟨c0, c1, c2, c3, c4, c5⟩ := op6_rowO t1
  obtain ⟨d0, d1, d2, d3, d4, d5⟩ := op6_rowO t2
  obtain ⟨f0, f1, f2, f3, f4, f5⟩ := op6_rowO t3
  have hsp6 := HSP.out.below hb11
  have HS6 := Lib.hid hsp6
  clear hsp6
  cases q
  · go_wp2
    go_ret
    exact ⟨rfl, hb11⟩
  · by_cases hz : n = 0
    · subst hz
      go_wp2
      go_ret
      exact ⟨rfl, hb11⟩
    · have dn : ((n : Int) == 0) = false := by simp; omega
      have hcnt : [a0, a1, a2, a3, a4, a5].count true = n := by
        have := oFold_count names (l := [false, false, false, false, false, false]) rfl (HQ.out rfl)
        rw [this, HN.out]
        simp
      have hno : oNone a0 a1 a2 a3 a4 a5 = false := by
        cases h : oNone a0 a1 a2 a3 a4 a5 with
        | false => rfl
        | true => have := oNone_count _ _ _ _ _ _ h; omega
      obtain ⟨w1s, w2s, w3s⟩ := words_facts a0 a1 a2 a3 a4 a5 hno
      have hFl := Lib.hid (fun W (h : Below w6.heap.size w6 W) => Tryd.strings_Fields (oTxt a0 a1 a2 a3 a4 a5) W (by omega) (fun j b hb => by
        have := List.all_eq_true.1 w2s b (List.mem_of_getElem? hb)
        simpa using this) (HS6.out.below h))
      rw [w3s, hcnt] at hFl
      clear hcnt hno w1s w2s w3s hz
      generalize oTxt a0 a1 a2 a3 a4 a5 = T at *
      go_wp2_with fail
      refine (HT.out _).mono ?_
      rintro e w7 ⟨rfl, hb12⟩
      go_wp2_with fail
      refine (hFl.out _ hb12).mono ?_
      rintro e w8 ⟨rfl, rfl⟩
      go_wp2
      go_ret
      exact ⟨by simp, bl_alloc (bl_trans hb11 hb12) _⟩
set_option maxRecDepth 100000 in
theorem onames_all (A : Option Addr) (n c : Nat) (names : List ByteArray) (w : World) (hs : Shows w w.heap.size A (names.map Value.string)) (hn : names.length = n) (hm : n ≤ maxLen) (hsp : Spaces w) :
    Calls Tryd.prog 6 #[.slice A n c] w fun e w' => e = .returned (.bool true) ∧ Below w.heap.size w w' := by
  by_cases h : n ≤ 20
  · exact onames_main A n c names w hs hn h hsp
  · unfold maxLen at hm
    have hmi : (20 : Int) < (n : Int) := by omega
    go_enter Tryd.func6, Tryd.ntmps6
    go_wp2_with fail
    refine (alive05_any _).mono ?_
    rintro e w6 ⟨rfl, hb10⟩
    go_wp2
    go_ret
    exact ⟨rfl, hb10⟩
end Go.Proofs.YtmcmhljonkijjaaDoor

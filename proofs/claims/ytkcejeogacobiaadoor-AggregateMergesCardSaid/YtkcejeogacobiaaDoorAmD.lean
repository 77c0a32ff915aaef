/- AggregateMerges: the walk; lists of attributes that came in -/
import Derived.Test.YtkcejeogacobiaaDoorAmC
import Derived.Test.YtkcejeogacobiaaDoorAfC
namespace Go.Proofs.YtkcejeogacobiaaDoor
open Go.ChangeShapes Go.WideShapes Go.ChangeAt Go.RowKit Go.Deep

instance : Inhabited At := ⟨atz⟩
section
variable {H : Type} {enc : TypeId × Value → H} {w : World} {spare : Nat → Bool} {held : Bool}
set_option maxRecDepth 100000 in
theorem ats_of_trod {t : TypeId} {v : Value} {fuel : Nat} {y : DataW H × List MemPlace} (ht : Tryd.prog.underlying t = some (.slice 29)) (h : DataW.trod enc Tryd.prog w 0 spare held fuel t [v] = some y) (hsp : ∀ b, spare b = true) :
    ∃ A n c aa, v = .slice A n c ∧ n ≤ c ∧ c ≤ maxLen ∧ Ats w w.heap.size A n aa ∧ ∀ a ∈ aa, AtIn w a := by
  have hc : Tryd.prog.cellsOf 29 = 9 := by kernel_rfl
  rcases open_slice ht h with ⟨hcs, _⟩ | ⟨a, n, c, m, n', D, Pl, hcs, _, hl, hm, hmm, _, hx⟩
  · simp at hcs
    subst hcs
    exact ⟨none, 0, 0, [], rfl, Nat.le_refl _, by unfold maxLen; omega, ⟨rfl, .inl rfl⟩, by simp⟩
  · simp at hcs
    subst hcs
    rw [hc] at hx
    have hmn : n ≤ m := by rw [hmm]; split <;> omega
    obtain ⟨l, hll, hlp⟩ := list_of (n := n) (p := fun i (z : At) => (∀ j u, (atc z).toList[j]? = some u → w.cell? ((a.add (i * 9)).add j) = some u) ∧ AtIn w z) (fun i hin => by
      obtain ⟨cs', hcells, htr⟩ := hx i (by omega)
      obtain ⟨_, hz2, hat⟩ := World.cells?_some hcells
      obtain ⟨z, hz, hi⟩ := open_at (C := cs'.toArray) (by rw [hc]; simpa using hz2) htr hsp
      refine ⟨z, fun j u hu => ?_, hi⟩
      have e : (atc z).toList = cs' := by rw [← hz]
      rw [e] at hu
      have hj : j < 9 := by have := (List.getElem?_eq_some_iff.1 hu).1; omega
      exact (hat j (by omega)).trans hu)
    refine ⟨some a, n, c, l, rfl, hl, hm, ⟨hll.symm, ?_⟩, fun s hs => ?_⟩
    · rcases l with _ | ⟨z, l⟩
      · exact .inl rfl
      · right
        have hz := (hlp 0 z rfl).1 0 _ rfl
        have hsp2 := World.cell?_spot hz
        have hlt := World.block_lt_of_cell? w _ hz
        obtain ⟨b, o, s⟩ := a
        have hs' : s = none := by simpa [Addr.add] using hsp2
        subst hs'
        refine ⟨b, o, rfl, by simpa [Addr.add] using hlt, fun i s hi j u hu => ?_⟩
        have := (hlp i s hi).1 j u hu
        rwa [Addr.add_lit, Addr.add_lit] at this
    · obtain ⟨i, hi⟩ := List.getElem?_of_mem hs
      exact (hlp i s hi).2
end
set_option maxRecDepth 100000 in
set_option maxHeartbeats 3200000 in
theorem agmrg_walk (A : Option Addr) (n c : Nat) (aa : List At) (w : World) (ht : Tens w) (h : Ats w w.heap.size A n aa) (hm : n ≤ maxLen) (hin : ∀ a ∈ aa, AtIn w a) :
    Calls Tryd.prog 12 #[.slice A n c] w fun e w' => e = .returned (.bool true) ∧ Below w.heap.size w w' := by
  have HN := Lib.hid h.1
  have HV := Lib.hid h
  have hsm := Lib.hid (fun a (ha : a ∈ aa) => show ∃ ss, ∀ W, Below w.heap.size w W → Calls Tryd.prog 38 #[.agg (atc a)] W fun e w' => e = .returned (.bool (smallB a ss)) ∧ Below W.heap.size W w' from by
    obtain ⟨_, _, _, _, ⟨g1, g2, ss, g3⟩, _⟩ := hin a ha
    exact ⟨ss, fun W h => small08_any a ss W ((g3.below h).more h.size) (Nat.le_trans g1 g2)⟩)
  have hM := Lib.hid (fun (W : World) (hb : Below w.heap.size w W) => merge_any A n c aa W ((h.below hb).more hb.size) hm (fun a ha => (hin a ha).2.1))
  have hRM := Lib.hid (fun (W : World) (hb : Below w.heap.size w W) => rmerge_any A n c aa W ((h.below hb).more hb.size) hm (fun a ha => (hin a ha).2.1))
  unfold maxLen at hm
  clear h hin
  by_cases h20 : 20 < n
  · have d : decide ((20 : Int) < (n : Int)) = true := by simp; omega
    clear h20
    go_enter Tryd.func12, Tryd.ntmps12
    go_wp2_with fail
    refine (alive08_any _ ht).mono ?_
    rintro e w1 ⟨rfl, hb1⟩
    go_wp2
    go_ret
    exact ⟨rfl, hb1⟩
  · have d : decide ((20 : Int) < (n : Int)) = false := by simp; omega
    clear h20
    go_enter Tryd.func12, Tryd.ntmps12
    go_wp2_with fail
    go_loopw [15] (fun i wr => (∃ j : Nat, j ≤ n ∧ i = .int .i64 j) ∧ Below w.heap.size w wr) (fun i _ => n - (intOf i).toNat)
    case atStart => exact ⟨⟨0, Nat.zero_le _, rfl⟩, bl_refl w⟩
    case round =>
      obtain ⟨⟨j, hj, rfl⟩, hbw⟩ := hrel
      by_cases hlt : j < n
      · obtain ⟨b, o, rfl, hbB, hrg⟩ := (HV.out.below hbw).at_ hlt
        obtain ⟨ss, hS⟩ := hsm.out _ (nthA_mem (aa := aa) (i := j) (by have := HN.out; omega))
        have HS := Lib.hid hS
        clear hS
        generalize nthA aa j = a at *
        generalize smallB a ss = q at *
        obtain ⟨k, p, N, M, A1, n1, c1, A2, n2, c2, A3, n3, c3, f, A4, n4, c4⟩ := a
        unfold atc at *
        dsimp only at *
        obtain ⟨e0, e1, e2, e3, e4, e5, e6, e7, e8⟩ := range9 hrg
        have hbs := hbw.size
        have hb1 := bl_alloc hbw (.cells #[.int .i64 k, .bool p, .int .u32 N, .int .u32 M, .slice A1 n1 c1, .slice A2 n2 c2, .slice A3 n3 c3, .int .i64 f, .slice A4 n4 c4] 29)
        clear hrg
        go_wp2_with fail
        refine (HS.out _ hb1).mono ?_
        rintro e w2 ⟨rfl, hb2⟩
        have hb3 := bl_trans hb1 hb2
        clear e0 e1 e2 e3 e4 e5 e6 e7 e8 hb1 hb2 hbw HS
        cases q
        · go_wp2_with fail
          refine (alive08_any _ (ht.below hb3)).mono ?_
          rintro e w3 ⟨rfl, hb4⟩
          go_wp2
          go_ret
          exact ⟨rfl, bl_trans hb3 hb4⟩
        · go_wp2
          go_roundw
          case rel => exact ⟨⟨j + 1, by omega, by go_num⟩, hb3⟩
          case measure => simp [intOf]; omega
      · obtain rfl : j = n := by omega
        go_wp2_with fail
        refine (hM.out _ hbw).mono ?_
        rintro e w2 ⟨y, q, rfl, hR, hb2⟩
        have hb3 := bl_trans hbw hb2
        have HR := Lib.hid hR
        clear hR hbw hb2
        have oY := Own.new w2 29 (atc y)
        have hb4 := bl_alloc hb3 (.cells (atc y) 29)
        have HC := Lib.hid (fun (y' : At) (q' : Bool) (h : MrgR aa y' q') => mrg_det HR.out h)
        have hSS := Lib.hid (fun (y' : At) (q' : Bool) (h : MrgR aa y' q') W => rsame08_eq y y' W (HC.out y' q' h).2.1 (HC.out y' q' h).2.2.1 (HC.out y' q' h).2.2.2.1 (HC.out y' q' h).2.2.2.2.1 (HC.out y' q' h).2.2.2.2.2.1 (HC.out y' q' h).2.2.2.2.2.2)
        have hqq := Lib.hid (fun (y' : At) (q' : Bool) (h : MrgR aa y' q') => (HC.out y' q' h).1)
        clear HR HC
        obtain ⟨k, p, N, M, A1, n1, c1, A2, n2, c2, A3, n3, c3, f, A4, n4, c4⟩ := y
        unfold atc at *
        dsimp only at *
        clear hb3
        go_wp2_with fail
        refine (hRM.out _ hb4).mono ?_
        rintro e w3 ⟨y', q', rfl, hR', hb5⟩
        obtain rfl := hqq.out y' q' hR'
        have hS2 := Lib.hid (hSS.out y' q hR')
        clear hSS hqq hR'
        obtain ⟨k', p', N', M', A1', n1', c1', A2', n2', c2', A3', n3', c3', f', A4', n4', c4'⟩ := y'
        dsimp only at *
        have p1 := (oY.step hb5).alloc (.cells #[.int .i64 k', .bool p', .int .u32 N', .int .u32 M', .slice A1' n1' c1', .slice A2' n2' c2', .slice A3' n3' c3', .int .i64 f', .slice A4' n4' c4'] 29)
        have p2 := Own.new w3 29 #[.int .i64 k', .bool p', .int .u32 N', .int .u32 M', .slice A1' n1' c1', .slice A2' n2' c2', .slice A3' n3' c3', .int .i64 f', .slice A4' n4' c4']
        have hb6 := bl_alloc (bl_trans hb4 hb5) (.cells #[.int .i64 k', .bool p', .int .u32 N', .int .u32 M', .slice A1' n1' c1', .slice A2' n2' c2', .slice A3' n3' c3', .int .i64 f', .slice A4' n4' c4'] 29)
        clear oY hb4 hb5
        have hqq2 : (q == q) = true := by simp
        go_wp2_with fail
        refine (alive08_any _ (ht.below hb6)).mono ?_
        rintro e w4 ⟨rfl, hb7⟩
        obtain ⟨e0, e1, e2, e3, e4, e5, e6, e7, e8⟩ := at_cells (p1.step hb7)
        obtain ⟨f0, f1, f2, f3, f4, f5, f6, f7, f8⟩ := at_cells (p2.step hb7)
        have hb8 := bl_trans hb6 hb7
        clear p1 p2 hb6 hb7
        go_wp2_with fail
        refine (hS2.out _).mono ?_
        rintro e w5 ⟨rfl, hb9⟩
        go_wp2
        go_ret
        exact ⟨rfl, bl_trans hb8 hb9⟩
end Go.Proofs.YtkcejeogacobiaaDoor

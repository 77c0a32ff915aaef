/- OctetReads: the walk -/
import Derived.Test.YtbojfoefelbakaaAny
import Derived.Test.YtbojfoefelbakaaAlive
namespace Go.Proofs.Ytbojfoefelbakaa
open Go.RowKit

theorem reads_early (A : Option Addr) (n c : Nat) (A2 : Option Addr) (n2 c2 : Nat) (w : World) (hm : n ≤ maxLen) (hm2 : n2 ≤ maxLen) (h : 500 < n ∨ 100 < n2) :
    Calls Try.prog 3 #[.slice A n c, .slice A2 n2 c2] w fun e w' => e = .returned (.bool true) ∧ Below w.heap.size w w' := by
  unfold maxLen at hm hm2
  by_cases h1 : (500 : Int) < (n : Int)
  · go_enter Try.func3, Try.ntmps3
    go_wp2_with fail
    refine (alive_any _).mono ?_
    rintro e w2 ⟨rfl, hb2⟩
    go_wp2
    go_ret
    exact ⟨rfl, hb2⟩
  · have h2 : (100 : Int) < (n2 : Int) := by omega
    go_enter Try.func3, Try.ntmps3
    go_wp2_with fail
    refine (alive_any _).mono ?_
    rintro e w2 ⟨rfl, hb2⟩
    go_wp2
    go_ret
    exact ⟨rfl, hb2⟩

theorem Bytes.only' {w w' : World} {A A' : Option Addr} {n j n' c' : Nat} {q : Int} {T : TypeId} {xs : List Int} (h : Bytes w w.heap.size A n xs) (ho : Own w j T #[.slice A' n' c', .int .i64 q]) (hb : w.grownBy w' (some j)) : Bytes w' w'.heap.size A n xs := by
  refine ⟨h.1, h.2.1, ?_⟩
  rcases h.2.2 with h0 | ⟨b, o, rfl, hlt, hc⟩
  · exact .inl h0
  · refine .inr ⟨b, o, rfl, Nat.lt_of_lt_of_le hlt hb.size, fun i v hv => ?_⟩
    have hcell := hc i v hv
    have hne : b ≠ j := by
      rintro rfl
      have h3 := cell_of_row w b (o + i) _ _ (0, 0) ho
      rw [hcell] at h3
      rw [List.getElem?_map] at hv
      obtain ⟨x, _, rfl⟩ := Option.map_eq_some_iff.1 hv
      match h4 : o + i, h3 with
      | 0, h3 => simp at h3
      | 1, h3 => simp at h3
      | k + 2, h3 => simp at h3
    exact hb.cell hcell (fun e => hne (Option.some.inj e))
theorem Rdr.only' {w w' : World} {g j p n' c' : Nat} {A' : Option Addr} {q : Int} {T : TypeId} {xs : List Int} (h : Rdr w g xs p) (ho' : Own w j T #[.slice A' n' c', .int .i64 q]) (hb : w.grownBy w' (some j)) (hj : g ≠ j) : Rdr w' g xs p := by
  obtain ⟨A, n, c, ho, hc, hB⟩ := h
  exact ⟨A, n, c, ho.grown hb (fun e => hj (Option.some.inj e)), hc, hB.only' ho' hb⟩

/-- A call that only draws: 'Draws P f args w v' says so at every number of draws behind w. -/
def Draws (P : Program) (f : FuncId) (args : Array Value) (w : World) (v : Value) : Prop := ∀ m, Calls P f args (w.drewN m) fun e w' => e = .returned v ∧ ∃ k, w' = w.drewN (m + k)
theorem Draws.plain {P : Program} {f : FuncId} {args : Array Value} {w : World} {v : Value} (h : Draws P f args w v) (n : Nat) : Calls P f args (w.drewN n) fun e w'' => e = .returned v ∧ ∃ m, w'' = w.drewN m :=
  (h n).mono fun _ _ ⟨he, _, hk⟩ => ⟨he, _, hk⟩
theorem Draws.add {P : Program} {f : FuncId} {args : Array Value} {w : World} {v : Value} (h : Draws P f args w v) (a n : Nat) : Calls P f args (w.drewN (a + n)) fun e w'' => e = .returned v ∧ ∃ m, w'' = w.drewN (a + m) :=
  (h (a + n)).mono fun _ _ ⟨he, k, hk⟩ => ⟨he, n + k, by rw [hk, Nat.add_assoc]⟩

/-- What holds at the head of each round: the reader at g and the reference's at h hold the same. -/
def ReadsRel (w : World) (h : Nat) (r : Value) (wr : World) : Prop := ∃ (g n p : Nat) (ys : List Int) (A : Option Addr) (c : Nat),
  r = .pointer (some ⟨g, 0, none⟩) ∧ Rdr wr g ys p ∧ Own wr h 28 #[.slice A n c, .int .i64 p] ∧ n ≤ c ∧ Bytes w w.heap.size A n ys ∧ ys.length + p ≤ 500 ∧ g ≠ h ∧ w.heap.size ≤ g ∧ w.heap.size ≤ h ∧ Below w.heap.size w wr


set_option maxHeartbeats 1600000 in
set_option maxRecDepth 100000 in
theorem reads_main (A : Option Addr) (n c : Nat) (A2 : Option Addr) (n2 c2 : Nat) (xs : List Int) (l : List (Int × Int)) (w : World) (hx : Bytes w w.heap.size A n xs) (hnc : n ≤ c) (hl : Pairs w w.heap.size A2 n2 l) (h1 : n ≤ 500) (h2 : n2 ≤ 100) :
    Calls Try.prog 3 #[.slice A n c, .slice A2 n2 c2] w fun e w' => e = .returned (.bool true) ∧ Below w.heap.size w w' := by
  have HN := Lib.hid hx.1
  have hd : ¬ (500 : Int) < (n : Int) := by omega
  have hd2 : ¬ (100 : Int) < (n2 : Int) := by omega
  go_enter Try.func3, Try.ntmps3
  go_wp2_with fail
  refine (new_any _ _ _ _ _ hx (by omega)).mono ?_
  rintro e w1 ⟨g, rfl, hg, hr, hb1⟩
  have hgl := hr.lt
  have hstart : ReadsRel w w1.heap.size (.pointer (some ⟨g, 0, none⟩)) (w1.alloc (.cells #[.slice A n c, .int .i64 0] 28)) :=
    ⟨g, n, 0, xs, A, c, rfl, hr.below (bl_alloc (bl_refl w1) _), Own.new _ _ _, hnc, hx, by have := HN.out; omega, by omega, hg, hb1.size, bl_alloc hb1 _⟩
  go_wp2_with fail
  go_loopw [5, 35] (fun r i wr => ∃ m : Nat, m ≤ n2 ∧ i = .int .i64 m ∧ ReadsRel w w1.heap.size r wr) (fun _ i _ => n2 - (intOf i).toNat)
  case atStart => exact ⟨0, Nat.zero_le _, rfl, hstart⟩
  case round =>
    obtain ⟨m, hm, rfl, g', n', p, ys, A', c', rfl, hry, hoh, hnc', hbs, hq, hgh, hgw, hhw, hb⟩ := hrel
    clear hstart hr
    have hyl : ys.length = n' := hbs.1.symm
    by_cases hlt : m < n2
    · obtain ⟨b, o, rfl, hbb, hc0, hc1⟩ := (hl.below hb).at_ hlt
      have hbsz := hb.size
      generalize hkk : pairX l m = kk at *
      generalize hkn : pairY l m = kn at *
      clear hkk hkn
      have hb' := bl_alloc hb (.cells #[.int .i64 kk, .int .i64 kn] 30)
      have hry' := hry.below (bl_alloc (bl_refl wr) (.cells #[.int .i64 kk, .int .i64 kn] 30))
      have hoh' := hoh.alloc (.cells #[.int .i64 kk, .int .i64 kn] 30)
      have hoo := Own.new wr 30 #[.int .i64 kk, .int .i64 kn]
      have hgl' := hry.lt
      have hhl := hoh.lt
      have HYL := Lib.hid hyl
      by_cases hk0 : kk = 0
      · subst hk0
        go_wp2_with fail
        refine (num_any g' ys p kn _ hry' (by omega) (by omega)).mono ?_
        clear hyl
        rw [HYL.out]
        rintro e w3 ⟨rfl, hr3, hg3⟩
        have hb3 := bl_only hb' hg3 hgw
        have hoh3 := hoh'.grown hg3 (by intro e; exact hgh (Option.some.inj e).symm)
        have hoo3 := hoo.grown hg3 (by intro e; have := Option.some.inj e; omega)
        have q0 := hoh3.cell (i := 0) (v := .slice A' n' c') rfl
        have q1 := hoh3.cell (i := 1) (v := .int .i64 p) rfl
        have q2 := hoo3.cell (i := 1) (v := .int .i64 kn) rfl
        go_wp2_with fail
        refine (rnum_any A' n' c' ys p kn _ ((hbs.below hb3).more hb3.size) hnc' (by have := HYL.out; omega) (by omega)).mono ?_
        rintro e w4 ⟨A1, c1, rfl, hc1', HB, hb4⟩
        have hr4 := hr3.below hb4
        have hoh4 := hoh3.below hb4 hoh3.lt
        have t0 := hoh4.cell (i := 0) (v := .slice A' n' c') rfl
        have t1 := hoh4.cell (i := 1) (v := .int .i64 p) rfl
        have s0 := hoh4.frozen 0
        have s1 := hoh4.frozen 1
        clear q0 q1 q2 hoh3 hoo3 hoo hoh' hry' hr3
        go_wp2_with fail
        have hz := own_two hoh4 (.slice A1 (n' - numN n' kn) c1) (.int .i64 ((p : Int) + (numN n' kn : Int)))
        generalize (w4.setCell ⟨w1.heap.size, 0, none⟩ (.slice A1 (n' - numN n' kn) c1)).setCell ⟨w1.heap.size, 1, none⟩ (.int .i64 ((p : Int) + (numN n' kn : Int))) = wz at hz ⊢
        have hrz := hr4.only' hoh4 hz.2 hgh
        have hbz := bl_only (bl_trans hb3 hb4) hz.2 hhw
        have z0 := hz.1.cell (i := 0) (v := .slice A1 (n' - numN n' kn) c1) rfl
        have z1 := hz.1.cell (i := 1) (v := .int .i64 ((p : Int) + (numN n' kn : Int))) rfl
        have hzl := hz.1.lt
        have hqE : Draws Try.prog 17 #[.slice none 0 0, .slice none 0 0] wz (.bool true) := fun m =>
          (bytesEq_any none none 0 0 0 0 [] [] _ 0 0 (Bytes.nil _ _ _) (Bytes.nil _ _ _) (by omega) (by omega)).mono fun e w' ⟨he, m', hw⟩ => ⟨he, m', by rw [← hw]; simp⟩
        have hqA : Draws Try.prog 18 #[.pointer (some ⟨g', 0, none⟩)] wz (.int .i64 ((p : Int) + (numN n' kn : Int))) := fun m =>
          (at_any _ _ _ _ (hrz.drewN m)).mono fun e w' ⟨he, hw⟩ => ⟨he, 0, hw.symm⟩
        have hqL : Draws Try.prog 19 #[.pointer (some ⟨g', 0, none⟩)] wz (.int .i64 ((n' - numN n' kn : Nat) : Int)) := fun m =>
          (left_n (hrz.drewN m) (by rw [List.length_drop, HYL.out])).mono fun e w' ⟨he, hw⟩ => ⟨he, 0, hw.symm⟩
        have HE := Lib.hid hqE
        have HA := Lib.hid hqA
        have HLf := Lib.hid hqL
        clear hqE hqA hqL t0 t1 s0 s1
        go_quiet ((first | (go_at_call 17; exact HE.out.plain _) | (go_at_call 18; exact HA.out.plain _) | (go_at_call 19; exact HLf.out.plain _)))
        go_wp2_with fail
        go_roundw
        case rel =>
          refine ⟨m + 1, by omega, by go_num, g', n' - numN n' kn, p + numN n' kn, ys.drop (numN n' kn), A1, c1, rfl, hrz.drewN _, ?_, hc1', HB _ _ _ hbs, ?_, hgh, hgw, hhw, bl_drewN hbz _⟩
          · rw [Int.natCast_add]; exact hz.1.drewN _
          · rw [List.length_drop]; have := numN_le n' kn; have := HYL.out; omega
        case measure => simp [intOf]; omega
      · by_cases hk1 : kk = 1
        · subst hk1
          go_wp2_with fail
          refine (tak_any g' ys p kn _ hry' (by omega) (by omega)).mono ?_
          clear hyl
          rw [HYL.out]
          rintro e w3 ⟨AT, cT, rfl, hBT, hr3, hg3⟩
          have hb3 := bl_only hb' hg3 hgw
          have hoh3 := hoh'.grown hg3 (by intro e; exact hgh (Option.some.inj e).symm)
          have hoo3 := hoo.grown hg3 (by intro e; have := Option.some.inj e; omega)
          have q0 := hoh3.cell (i := 0) (v := .slice A' n' c') rfl
          have q1 := hoh3.cell (i := 1) (v := .int .i64 p) rfl
          have q2 := hoo3.cell (i := 1) (v := .int .i64 kn) rfl
          go_wp2_with fail
          refine (rtak_any A' n' c' p kn _ hnc' (by have := HYL.out; omega) (by omega)).mono ?_
          rintro e w4 ⟨A1, c1, A2', c2', rfl, hc1', HB, HT, hb4⟩
          have hr4 := hr3.below hb4
          have hoh4 := hoh3.below hb4 hoh3.lt
          have t0 := hoh4.cell (i := 0) (v := .slice A' n' c') rfl
          have t1 := hoh4.cell (i := 1) (v := .int .i64 p) rfl
          have s0 := hoh4.frozen 0
          have s1 := hoh4.frozen 1
          have hBT4 := (hBT.below hb4).more hb4.size
          clear q0 q1 q2 hoh3 hoo3 hoo hoh' hry' hr3
          go_wp2_with fail
          have hz := own_two hoh4 (.slice A1 (n' - takN n' kn) c1) (.int .i64 ((p : Int) + (takN n' kn : Int)))
          generalize (w4.setCell ⟨w1.heap.size, 0, none⟩ (.slice A1 (n' - takN n' kn) c1)).setCell ⟨w1.heap.size, 1, none⟩ (.int .i64 ((p : Int) + (takN n' kn : Int))) = wz at hz ⊢
          have hrz := hr4.only' hoh4 hz.2 hgh
          have hbz := bl_only (bl_trans hb3 hb4) hz.2 hhw
          have z0 := hz.1.cell (i := 0) (v := .slice A1 (n' - takN n' kn) c1) rfl
          have z1 := hz.1.cell (i := 1) (v := .int .i64 ((p : Int) + (takN n' kn : Int))) rfl
          have hzl := hz.1.lt
          have hqE : Draws Try.prog 17 #[.slice AT (takN n' kn) cT, .slice A2' (takN n' kn) c2'] wz (.bool true) := fun m =>
            (bytesEq_any AT A2' (takN n' kn) (takN n' kn) cT c2' (ys.take (takN n' kn)) (ys.take (takN n' kn)) (wz.drewN m) wz.heap.size w.heap.size ((hBT4.only' hoh4 hz.2).drewN m) ((HT _ _ _ (hbs.below hbz)).drewN m) (by have := takN_le n' kn; have := HYL.out; omega) (by have := takN_le n' kn; have := HYL.out; omega)).mono fun e w' ⟨he, m', hw⟩ => ⟨by rw [he]; simp, m', by rw [← hw]; simp⟩
          have hqA : Draws Try.prog 18 #[.pointer (some ⟨g', 0, none⟩)] wz (.int .i64 ((p : Int) + (takN n' kn : Int))) := fun m =>
            (at_any _ _ _ _ (hrz.drewN m)).mono fun e w' ⟨he, hw⟩ => ⟨he, 0, hw.symm⟩
          have hqL : Draws Try.prog 19 #[.pointer (some ⟨g', 0, none⟩)] wz (.int .i64 ((n' - takN n' kn : Nat) : Int)) := fun m =>
            (left_n (hrz.drewN m) (by rw [List.length_drop, HYL.out])).mono fun e w' ⟨he, hw⟩ => ⟨he, 0, hw.symm⟩
          have HE := Lib.hid hqE
          have HA := Lib.hid hqA
          have HLf := Lib.hid hqL
          clear hqE hqA hqL t0 t1 s0 s1
          go_quiet ((first | (go_at_call 17; exact HE.out.plain _) | (go_at_call 18; exact HA.out.plain _) | (go_at_call 19; exact HLf.out.plain _)))
          go_wp2_with fail
          go_roundw
          case rel =>
            refine ⟨m + 1, by omega, by go_num, g', n' - takN n' kn, p + takN n' kn, ys.drop (takN n' kn), A1, c1, rfl, hrz.drewN _, ?_, hc1', HB _ _ _ hbs, ?_, hgh, hgw, hhw, bl_drewN hbz _⟩
            · rw [Int.natCast_add]; exact hz.1.drewN _
            · rw [List.length_drop]; have := takN_le n' kn; have := HYL.out; omega
          case measure => simp [intOf]; omega
        · have hb0 : (kk == 0) = false := by simpa using hk0
          have hb1' : (kk == 1) = false := by simpa using hk1
          by_cases hkp : takOk n' kn = true
          · have hkk := hkp
            simp only [takOk, decide_eq_true_eq] at hkk
            have hkn : kn.toNat ≤ n' := by omega
            clear hkp hk0 hk1
            go_wp2_with fail
            refine (part_yes g' ys p kn _ hry' (by omega) (by omega) hkk.1 (by omega)).mono ?_
            rintro e w3 ⟨j, rfl, hj, hrj, hrg, hg3⟩
            clear hyl
            have hb3 := bl_only hb' hg3 hgw
            have hoh3 := hoh'.grown hg3 (by intro e; exact hgh (Option.some.inj e).symm)
            have hoo3 := hoo.grown hg3 (by intro e; have := Option.some.inj e; omega)
            have q0 := hoh3.cell (i := 0) (v := .slice A' n' c') rfl
            have q1 := hoh3.cell (i := 1) (v := .int .i64 p) rfl
            have q2 := hoo3.cell (i := 1) (v := .int .i64 kn) rfl
            have hjne : j ≠ w1.heap.size := by simp at hj; omega
            have hjw : w.heap.size ≤ j := by simp at hj; omega
            go_wp2_with fail
            refine (rpart_yes A' n' c' p kn _ hnc' (by have := HYL.out; omega) (by omega) (by omega) hkk.1 hkk.2).mono ?_
            rintro e w4 ⟨A1, c1, rfl, hc1', HB, hb4⟩
            have hr4 := hrj.below hb4
            have hoh4 := hoh3.below hb4 hoh3.lt
            have hohl := hoh4.lt
            have t0 := hoh4.cell (i := 0) (v := .slice A' n' c') rfl
            have t1 := hoh4.cell (i := 1) (v := .int .i64 p) rfl
            have s0 := hoh4.frozen 0
            have s1 := hoh4.frozen 1
            clear q0 q1 q2 hoh3 hoo3 hoo hoh' hry' hrg hrj
            go_wp2_with fail
            go_region
            have hz := own_two hoh4 (.slice A' kn.toNat c') (.int .i64 (p : Int))
            generalize (w4.setCell ⟨w1.heap.size, 0, none⟩ (.slice A' kn.toNat c')).setCell ⟨w1.heap.size, 1, none⟩ (.int .i64 (p : Int)) = wa at hz ⊢
            have hra := hr4.only' hoh4 hz.2 hjne
            have hba := bl_only (bl_trans hb3 hb4) hz.2 hhw
            have hbz := bl_alloc (bl_alloc hba (.cells #[.slice A1 (n' - kn.toNat) c1, .int .i64 ((p : Int) + kn)] 28)) (.cells #[.slice A' kn.toNat c', .int .i64 (p : Int)] 28)
            have hoz := (hz.1.alloc (.cells #[.slice A1 (n' - kn.toNat) c1, .int .i64 ((p : Int) + kn)] 28)).alloc (.cells #[.slice A' kn.toNat c', .int .i64 (p : Int)] 28)
            have hrz := hra.below (bl_alloc (bl_alloc (bl_refl wa) (.cells #[.slice A1 (n' - kn.toNat) c1, .int .i64 ((p : Int) + kn)] 28)) (.cells #[.slice A' kn.toNat c', .int .i64 (p : Int)] 28))
            generalize (wa.alloc (.cells #[.slice A1 (n' - kn.toNat) c1, .int .i64 ((p : Int) + kn)] 28)).alloc (.cells #[.slice A' kn.toNat c', .int .i64 (p : Int)] 28) = wz at hbz hoz hrz ⊢
            have z0 := hoz.cell (i := 0) (v := .slice A' kn.toNat c') rfl
            have z1 := hoz.cell (i := 1) (v := .int .i64 (p : Int)) rfl
            have hzl := hoz.lt
            have hqE : Draws Try.prog 17 #[.slice none 0 0, .slice none 0 0] wz (.bool true) := fun m =>
              (bytesEq_any none none 0 0 0 0 [] [] _ 0 0 (Bytes.nil _ _ _) (Bytes.nil _ _ _) (by omega) (by omega)).mono fun e w' ⟨he, m', hw⟩ => ⟨he, m', by rw [← hw]; simp⟩
            have hqA : Draws Try.prog 18 #[.pointer (some ⟨j, 0, none⟩)] wz (.int .i64 (p : Int)) := fun m =>
              (at_any _ _ _ _ (hrz.drewN m)).mono fun e w' ⟨he, hw⟩ => ⟨he, 0, hw.symm⟩
            have hqL : Draws Try.prog 19 #[.pointer (some ⟨j, 0, none⟩)] wz (.int .i64 (kn.toNat : Int)) := fun m =>
              (left_n (hrz.drewN m) (by rw [List.length_take, HYL.out]; omega)).mono fun e w' ⟨he, hw⟩ => ⟨he, 0, hw.symm⟩
            have HE := Lib.hid hqE
            have HA := Lib.hid hqA
            have HLf := Lib.hid hqL
            clear hqE hqA hqL t0 t1 s0 s1 hra hba
            show Exit.inBlock _ _ _ _ (wz.drewN 1)
            go_wp2_with fail
            go_quiet ((first | (go_at_call 17; first | exact HE.out.plain _ | exact HE.out.add _ _) | (go_at_call 18; first | exact HA.out.plain _ | exact HA.out.add _ _) | (go_at_call 19; first | exact HLf.out.plain _ | exact HLf.out.add _ _)))
            go_wp2_with fail
            go_roundw
            case rel =>
              exact ⟨m + 1, by omega, by go_num, j, kn.toNat, p, ys.take kn.toNat, A', c', rfl, hrz.drewN _, hoz.drewN _, by omega, hbs.front hkn, by rw [List.length_take]; omega, hjne, hjw, hhw, bl_drewN hbz _⟩
            case measure => simp [intOf]; omega
          · have hkk := hkp
            simp only [takOk, decide_eq_true_eq] at hkk
            have hkn : kn < 0 ∨ (n' : Int) < kn := by omega
            have HK := Lib.hid hkn
            clear hkp hkk hkn hk0 hk1
            go_wp2_with fail
            refine (part_no g' ys p kn _ hry' (by omega) (by have := HK.out; omega)).mono ?_
            rintro e w' ⟨rfl, rfl⟩
            clear hyl
            have q0 := hoh'.cell (i := 0) (v := .slice A' n' c') rfl
            have q1 := hoh'.cell (i := 1) (v := .int .i64 p) rfl
            have q2 := hoo.cell (i := 1) (v := .int .i64 kn) rfl
            go_wp2_with fail
            refine (rpart_no A' n' c' p kn _ HK.out (by have := HYL.out; omega)).mono ?_
            rintro e w4 ⟨rfl, hb4⟩
            have hb04 := bl_trans hb' hb4
            have hrz := hry'.below hb4
            have hoz := hoh'.below hb4 hoh'.lt
            clear q0 q1 q2 hoo hoh' hry'
            go_wp2_with fail
            have hbz := bl_alloc (bl_alloc hb04 (.cells #[.slice A' n' c', .int .i64 (p : Int)] 28)) (.cells #[.slice none 0 0, .int .i64 0] 28)
            replace hoz := (hoz.alloc (.cells #[.slice A' n' c', .int .i64 (p : Int)] 28)).alloc (.cells #[.slice none 0 0, .int .i64 0] 28)
            replace hrz := hrz.below (bl_alloc (bl_alloc (bl_refl w4) (.cells #[.slice A' n' c', .int .i64 (p : Int)] 28)) (.cells #[.slice none 0 0, .int .i64 0] 28))
            generalize (w4.alloc (.cells #[.slice A' n' c', .int .i64 (p : Int)] 28)).alloc (.cells #[.slice none 0 0, .int .i64 0] 28) = wz at hbz hoz hrz ⊢
            have z0 := hoz.cell (i := 0) (v := .slice A' n' c') rfl
            have z1 := hoz.cell (i := 1) (v := .int .i64 (p : Int)) rfl
            have hzl := hoz.lt
            have hqE : Draws Try.prog 17 #[.slice none 0 0, .slice none 0 0] wz (.bool true) := fun m =>
              (bytesEq_any none none 0 0 0 0 [] [] _ 0 0 (Bytes.nil _ _ _) (Bytes.nil _ _ _) (by omega) (by omega)).mono fun e w' ⟨he, m', hw⟩ => ⟨he, m', by rw [← hw]; simp⟩
            have hqA : Draws Try.prog 18 #[.pointer (some ⟨g', 0, none⟩)] wz (.int .i64 (p : Int)) := fun m =>
              (at_any _ _ _ _ (hrz.drewN m)).mono fun e w' ⟨he, hw⟩ => ⟨he, 0, hw.symm⟩
            have hqL : Draws Try.prog 19 #[.pointer (some ⟨g', 0, none⟩)] wz (.int .i64 (n' : Int)) := fun m =>
              (left_n (hrz.drewN m) HYL.out).mono fun e w' ⟨he, hw⟩ => ⟨he, 0, hw.symm⟩
            have HE := Lib.hid hqE
            have HA := Lib.hid hqA
            have HLf := Lib.hid hqL
            clear hqE hqA hqL
            go_quiet ((first | (go_at_call 17; exact HE.out.plain _) | (go_at_call 18; exact HA.out.plain _) | (go_at_call 19; exact HLf.out.plain _)))
            go_wp2_with fail
            go_roundw
            case rel =>
              exact ⟨m + 1, by omega, by go_num, g', n', p, ys, A', c', rfl, hrz.drewN _, hoz.drewN _, hnc', hbs, hq, hgh, hgw, hhw, bl_drewN hbz _⟩
            case measure => simp [intOf]; omega
    · go_wp2_with fail
      refine (alive_any _).mono ?_
      rintro e w9 ⟨rfl, hb9⟩
      go_wp2
      go_ret
      exact ⟨rfl, bl_trans hb hb9⟩
theorem reads_all (A : Option Addr) (n c : Nat) (A2 : Option Addr) (n2 c2 : Nat) (xs : List Int) (l : List (Int × Int)) (w : World) (hx : Bytes w w.heap.size A n xs) (hnc : n ≤ c) (hm : n ≤ maxLen) (hl : Pairs w w.heap.size A2 n2 l) (hm2 : n2 ≤ maxLen) :
    Calls Try.prog 3 #[.slice A n c, .slice A2 n2 c2] w fun e w' => e = .returned (.bool true) ∧ Below w.heap.size w w' := by
  by_cases h : 500 < n ∨ 100 < n2
  · exact reads_early A n c A2 n2 c2 w hm hm2 h
  · exact reads_main A n c A2 n2 c2 xs l w hx hnc hl (by omega) (by omega)
end Go.Proofs.Ytbojfoefelbakaa

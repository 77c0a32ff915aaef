/- XVsM3: XVlA, XVlB, XVlC, XVlD, XVlE, XVlF, XVlG, XVlH, XVlI, XVlJ, XRvV in one text -/
import Derived.Test.YtmcnpkfeipelgaaGreatDoorFlB
import Derived.Test.YtmcnpkfeipelgaaGreatDoorBfC
import Derived.Test.YtmcnpkfeipelgaaGreatDoorAgA
import Derived.Test.YtmcnpkfeipelgaaGreatDoorVsM1
import Derived.Test.YtmcnpkfeipelgaaGreatDoorOpC
import Derived.Test.YtmcnpkfeipelgaaGreatDoorFlE
import Derived.Test.YtmcnpkfeipelgaaGreatDoorFlC
import Derived.Test.YtmcnpkfeipelgaaGreatDoorPfxB
import Derived.Deep.RegionHeld3
/- value: what tells the chapters apart: mp.Has, community.Group -/
namespace Go.Proofs.YtmcnpkfeipelgaaGreatDoor
open Go.RowKit

def mpHas (x : Int) : Bool := decide (x = 14 ∨ x = 15)
set_option maxRecDepth 100000 in
theorem mhas_v (x : Int) (w : World) : Calls Tryz.prog 80 #[.int .i64 x] w fun e w' => e = .returned (.bool (mpHas x)) ∧ w = w' := by
  by_cases h : x = 14
  · subst h
    go_enter Tryz.func80, Tryz.ntmps80
    go_wp2
    go_ret
    exact ⟨rfl, rfl⟩
  · have hq : (x == 14) = false := by simpa using h
    have hh : Hid (mpHas x = (x == 15)) := Lib.hid (by unfold mpHas; rw [Bool.eq_iff_iff]; simp [h])
    clear h
    go_enter Tryz.func80, Tryz.ntmps80
    go_wp2
    go_ret
    exact ⟨by rw [hh.out]; rfl, rfl⟩
def grpOf (x : Int) : Int := if x = 8 ∨ x = 10 then 1 else if x = 16 then 2 else if x = 32 then 3 else 0
set_option maxRecDepth 100000 in
theorem group_any (x : Int) (w : World) : Calls Tryz.prog 79 #[.int .i64 x] w fun e w' => e = .returned (.int .i64 (grpOf x)) ∧ w = w' := by
  by_cases h8 : x = 8
  · subst h8
    go_enter Tryz.func79, Tryz.ntmps79
    go_wp2
    go_ret
    exact ⟨rfl, rfl⟩
  · by_cases h10 : x = 10
    · subst h10
      go_enter Tryz.func79, Tryz.ntmps79
      go_wp2
      go_ret
      exact ⟨rfl, rfl⟩
    · by_cases h16 : x = 16
      · subst h16
        go_enter Tryz.func79, Tryz.ntmps79
        go_wp2
        go_ret
        exact ⟨rfl, rfl⟩
      · by_cases h32 : x = 32
        · subst h32
          go_enter Tryz.func79, Tryz.ntmps79
          go_wp2
          go_ret
          exact ⟨rfl, rfl⟩
        · have q1 : (x == 8) = false := by simpa using h8
          have q2 : (x == 10) = false := by simpa using h10
          have q3 : (x == 16) = false := by simpa using h16
          have q4 : (x == 32) = false := by simpa using h32
          have hh : Hid (grpOf x = 0) := Lib.hid (by unfold grpOf; rw [if_neg (by omega), if_neg h16, if_neg h32])
          clear h8 h10 h16 h32
          go_enter Tryz.func79, Tryz.ntmps79
          go_wp2
          go_ret
          exact ⟨by rw [hh.out]; first | done | rfl, rfl⟩
end Go.Proofs.YtmcnpkfeipelgaaGreatDoor

/- value.handler: the chapter of a type -/
namespace Go.Proofs.YtmcnpkfeipelgaaGreatDoor
open Go.RowKit

def hndT (k : Int) : TypeId := if flagKnown k = false then 77 else if bKnown k = true then 119 else if agHas k = true then 120 else if 0 < grpOf k then 122 else if mpHas k = true then 81 else 123
set_option maxRecDepth 100000 in
theorem handler_any (k : Int) (w : World) (hk : (Lit.int .i64 k).wf = true) :
    Calls Tryz.prog 31 #[.int .i64 k] w fun e w' => e = .returned (.iface (hndT k) (.agg #[])) ∧ Below w.heap.size w w' := by
  have hC := Lib.hid (fun W => class_any k W hk)
  have hB := Lib.hid (fun W => bhas_any k hk W)
  have hA := Lib.hid (fun W => aghas_any k W)
  have hG := Lib.hid (fun W => group_any k W)
  have hM := Lib.hid (fun W => mhas_v k W)
  have hT : Hid (hndT k = if flagKnown k = false then 77 else if bKnown k = true then 119 else if agHas k = true then 120 else if 0 < grpOf k then 122 else if mpHas k = true then 81 else 123) := Lib.hid rfl
  have hg : grpOf k = 0 ∨ 0 < grpOf k := by
    unfold grpOf
    split
    · right; omega
    · split
      · right; omega
      · split
        · right; omega
        · left; rfl
  generalize hndT k = T at *
  generalize flagKnown k = K at *
  generalize bKnown k = B at *
  generalize agHas k = A at *
  generalize mpHas k = M at *
  generalize grpOf k = G at *
  clear hk
  go_enter Tryz.func31, Tryz.ntmps31
  go_wp2_with fail
  refine (hC.out _).mono ?_
  rintro e w1 ⟨rfl, b1⟩
  cases K with
  | false =>
    go_wp2
    go_ret
    exact ⟨by rw [hT.out]; rfl, b1⟩
  | true =>
    go_wp2_with fail
    refine (hB.out _).mono ?_
    rintro e w2 ⟨rfl, hb2⟩
    have b2 := bl_trans b1 hb2
    clear b1 hb2
    cases B with
    | true =>
      go_wp2
      go_ret
      exact ⟨by rw [hT.out]; rfl, b2⟩
    | false =>
      go_wp2_with fail
      refine (hA.out _).mono ?_
      rintro e w3 ⟨rfl, rfl⟩
      cases A with
      | true =>
        go_wp2
        go_ret
        exact ⟨by rw [hT.out]; rfl, b2⟩
      | false =>
        go_wp2_with fail
        refine (hG.out _).mono ?_
        rintro e w3 ⟨rfl, rfl⟩
        rcases hg with rfl | hg
        · go_wp2_with fail
          refine (hM.out _).mono ?_
          rintro e w3 ⟨rfl, rfl⟩
          cases M
          · go_wp2
            go_ret
            exact ⟨by rw [hT.out]; rfl, b2⟩
          · go_wp2
            go_ret
            exact ⟨by rw [hT.out]; rfl, b2⟩
        · have d0 : decide ((0 : Int) < G) = true := by simp; omega
          go_wp2
          go_ret
          exact ⟨by rw [hT.out, if_neg (by decide), if_neg (by decide), if_neg (by decide), if_pos hg]; rfl, b2⟩
end Go.Proofs.YtmcnpkfeipelgaaGreatDoor

/- value.paths: width, valid (written by gen/vlc.py) -/
namespace Go.Proofs.YtmcnpkfeipelgaaGreatDoor
open Go.RowKit Go.Sort

theorem u32_nilV (w : World) (B : Nat) : U32s w B none 0 [] := ⟨rfl, .inl rfl⟩
def pthW (o0 : Bool) (k : Int) : Int := if k = 17 then 4 else if o0 then 4 else 2
theorem pthW_ok (o0 : Bool) (k : Int) : pthW o0 k = 2 ∨ pthW o0 k = 4 := by
  unfold pthW
  split
  · exact .inr rfl
  · cases o0
    · exact .inl rfl
    · exact .inr rfl
set_option maxRecDepth 100000 in
theorem pwidth_any (o0 o1 o2 o3 o4 o5 : Bool) (k : Int) (w : World) :
    Calls Tryz.prog 262 #[.agg #[], .agg #[.bool o0, .bool o1, .bool o2, .bool o3, .bool o4, .bool o5], .int .i64 k] w fun e w' => e = .returned (.int .i64 (pthW o0 k)) ∧ Below w.heap.size w w' := by
  have b1 := bl_alloc (bl_alloc (bl_refl w) (.cells #[] 123)) (.cells #[.bool o0, .bool o1, .bool o2, .bool o3, .bool o4, .bool o5] 23)
  have oo := Own.new (w.alloc (.cells #[] 123)) 23 #[.bool o0, .bool o1, .bool o2, .bool o3, .bool o4, .bool o5]
  rw [show (w.alloc (.cells #[] 123)).heap.size = w.heap.size + 1 by simp] at oo
  by_cases h : k = 17
  · subst h
    go_enter Tryz.func262, Tryz.ntmps262
    go_wp2
    go_ret
    exact ⟨rfl, b1⟩
  · have hq : (k == 17) = false := by simpa using h
    have hh : (if o0 then 4 else 2 : Int) = pthW o0 k := by unfold pthW; rw [if_neg h]
    have hW := Lib.hid (fun W => owidth_any o0 o1 o2 o3 o4 o5 W)
    rw [hh] at hW
    generalize pthW o0 k = V at *
    clear h hh
    go_enter Tryz.func262, Tryz.ntmps262
    go_wp2_with (refine wpList_load_row rfl 23 _ rfl (w.heap.size + 1) rfl 23 #[.bool o0, .bool o1, .bool o2, .bool o3, .bool o4, .bool o5] (0, 0) (.struct (Tryz.prog.fieldsOf 23)) oo (by kernel_rfl) rfl (by kernel_rfl) ?_)
    refine (hW.out _).mono ?_
    rintro e w1 ⟨rfl, hb1⟩
    go_wp2
    go_ret
    exact ⟨rfl, bl_trans b1 hb1⟩
def pthV (o0 : Bool) (a : At) (ss : List Sg) : Bool := !(decide (a.k = 17) && (o0 || decide (a.n1 = 0))) && (ss.all (sgOk (pthW o0 a.k)) && plB { a with A1 := none, n1 := 0, c1 := 0 } [])
set_option maxRecDepth 100000 in
set_option maxHeartbeats 3200000 in
theorem pthvalid_any (o0 o1 o2 o3 o4 o5 : Bool) (a : At) (ss : List Sg) (w : World) (hs : Segs w w.heap.size a.A1 a.n1 ss) (hn : a.n1 ≤ 1000000) :
    Calls Tryz.prog 260 #[.agg #[], .agg #[.bool o0, .bool o1, .bool o2, .bool o3, .bool o4, .bool o5], .agg (atc a)] w fun e w' => e = .returned (.bool (pthV o0 a ss)) ∧ Below w.heap.size w w' := by
  have b1 := bl_alloc (bl_alloc (bl_alloc (bl_refl w) (.cells #[] 123)) (.cells #[.bool o0, .bool o1, .bool o2, .bool o3, .bool o4, .bool o5] 23)) (.cells (atc a) 37)
  have op := ((Own.new w 123 #[]).alloc (.cells #[.bool o0, .bool o1, .bool o2, .bool o3, .bool o4, .bool o5] 23)).alloc (.cells (atc a) 37)
  have oo := (Own.new (w.alloc (.cells #[] 123)) 23 #[.bool o0, .bool o1, .bool o2, .bool o3, .bool o4, .bool o5]).alloc (.cells (atc a) 37)
  have oa := Own.new ((w.alloc (.cells #[] 123)).alloc (.cells #[.bool o0, .bool o1, .bool o2, .bool o3, .bool o4, .bool o5] 23)) 37 (atc a)
  rw [show (w.alloc (.cells #[] 123)).heap.size = w.heap.size + 1 by simp] at oo
  rw [show ((w.alloc (.cells #[] 123)).alloc (.cells #[.bool o0, .bool o1, .bool o2, .bool o3, .bool o4, .bool o5] 23)).heap.size = w.heap.size + 1 + 1 by simp] at oa
  have hW := Lib.hid (fun W => pwidth_any o0 o1 o2 o3 o4 o5 a.k W)
  have hV := Lib.hid (fun W (h : Below w.heap.size w W) => svalid_any (pthW o0 a.k) a.A1 a.n1 a.c1 ss W ((hs.below h).more h.size) hn)
  rw [decide_eq_true (pthW_ok o0 a.k), Bool.true_and] at hV
  have hP := Lib.hid (fun W => plain_any { a with A1 := none, n1 := 0, c1 := 0 } none 0 0 [] W (u32_nilV W _) (by unfold maxLen; omega))
  have hX : Hid (pthV o0 a ss = (!(decide (a.k = 17) && (o0 || decide (a.n1 = 0))) && (ss.all (sgOk (pthW o0 a.k)) && plB { a with A1 := none, n1 := 0, c1 := 0 } []))) := Lib.hid rfl
  generalize pthV o0 a ss = Z at *
  generalize ss.all (sgOk (pthW o0 a.k)) = S at *
  generalize plB { a with A1 := none, n1 := 0, c1 := 0 } [] = Q at *
  generalize pthW o0 a.k = V at *
  obtain ⟨k, p, N, M, A1, n1, c1, A2, n2, c2, A3, n3, c3, f, A4, n4, c4⟩ := a
  unfold atc at *
  dsimp only at *
  clear hs
  have hsp : Hid ((k = 17 ∧ o0 = true) ∨ (k = 17 ∧ o0 = false ∧ n1 = 0) ∨ (k = 17 ∧ o0 = false ∧ n1 ≠ 0) ∨ k ≠ 17) := Lib.hid (by by_cases a : k = 17 <;> by_cases c : n1 = 0 <;> cases o0 <;> simp [a, c])
  rcases hsp.out with ⟨rfl, rfl⟩ | ⟨rfl, rfl, rfl⟩ | ⟨rfl, rfl, h3⟩ | h3
  · have hZ : Hid (Z = false) := Lib.hid (by rw [hX.out]; rfl)
    clear hX hsp
    go_enter Tryz.func260, Tryz.ntmps260
    go_wp2_with fail
    obtain ⟨e0, e1, e2, e3, e4, e5, e6, e7, e8⟩ := at_cells oa
    have q0 := cell_regrown e0
    have q4 := cell_regrown e4
    have p0 := cell_regrown (oo.cell (i := 0) rfl)
    generalize hw1 : (((w.alloc (.cells #[] 123)).alloc (.cells #[.bool true, .bool o1, .bool o2, .bool o3, .bool o4, .bool o5] 23)).alloc (.cells #[.int .i64 17, .bool p, .int .u32 N, .int .u32 M, .slice A1 n1 c1, .slice A2 n2 c2, .slice A3 n3 c3, .int .i64 f, .slice A4 n4 c4] 37)) = w1 at *
    refine wp_region_quiet_below (by kernel_rfl) (by kernel_rfl) ?_
    repeat (first
      | go_big_quiet_skip
      | go_big_quiet_step (with_reducible fail))
    refine wpQuiet_nil ?_
    first | rintro w' ⟨⟨dq, osq⟩, rfl⟩ | rintro ⟨dq, osq⟩
    have hgw := below_regrown w1 dq osq
    have b2 := bl_trans b1 hgw
    have oa2 := oa.step hgw
    generalize grow (redrawn w1 dq) osq = w2 at *
    clear q0 q4 p0 e0 e1 e2 e3 e4 e5 e6 e7 e8 hgw oa b1
    go_wp2
    go_ret
    exact ⟨by rw [hZ.out]; first | done | rfl, b2⟩
  · have hZ : Hid (Z = false) := Lib.hid (by rw [hX.out]; rfl)
    clear hX hsp
    go_enter Tryz.func260, Tryz.ntmps260
    go_wp2_with fail
    obtain ⟨e0, e1, e2, e3, e4, e5, e6, e7, e8⟩ := at_cells oa
    have q0 := cell_regrown e0
    have q4 := cell_regrown e4
    have p0 := cell_regrown (oo.cell (i := 0) rfl)
    generalize hw1 : (((w.alloc (.cells #[] 123)).alloc (.cells #[.bool false, .bool o1, .bool o2, .bool o3, .bool o4, .bool o5] 23)).alloc (.cells #[.int .i64 17, .bool p, .int .u32 N, .int .u32 M, .slice A1 0 c1, .slice A2 n2 c2, .slice A3 n3 c3, .int .i64 f, .slice A4 n4 c4] 37)) = w1 at *
    refine wp_region_quiet_below (by kernel_rfl) (by kernel_rfl) ?_
    repeat (first
      | go_big_quiet_skip
      | go_big_quiet_step (with_reducible fail))
    refine wpQuiet_nil ?_
    first | rintro w' ⟨⟨dq, osq⟩, rfl⟩ | rintro ⟨dq, osq⟩
    have hgw := below_regrown w1 dq osq
    have b2 := bl_trans b1 hgw
    have oa2 := oa.step hgw
    generalize grow (redrawn w1 dq) osq = w2 at *
    clear q0 q4 p0 e0 e1 e2 e3 e4 e5 e6 e7 e8 hgw oa b1
    go_wp2
    go_ret
    exact ⟨by rw [hZ.out]; first | done | rfl, b2⟩
  · have hZ : Hid (Z = (S && Q)) := Lib.hid (by rw [hX.out, decide_eq_false (p := n1 = 0) h3]; rfl)
    have hq : ((n1 : Int) == 0) = false := by simpa using h3
    clear hX hsp
    go_enter Tryz.func260, Tryz.ntmps260
    go_wp2_with fail
    obtain ⟨e0, e1, e2, e3, e4, e5, e6, e7, e8⟩ := at_cells oa
    have q0 := cell_regrown e0
    have q4 := cell_regrown e4
    have p0 := cell_regrown (oo.cell (i := 0) rfl)
    generalize hw1 : (((w.alloc (.cells #[] 123)).alloc (.cells #[.bool false, .bool o1, .bool o2, .bool o3, .bool o4, .bool o5] 23)).alloc (.cells #[.int .i64 17, .bool p, .int .u32 N, .int .u32 M, .slice A1 n1 c1, .slice A2 n2 c2, .slice A3 n3 c3, .int .i64 f, .slice A4 n4 c4] 37)) = w1 at *
    have hW3 := Lib.hid (rg_of (w := w1) (fun W _ => hW.out W))
    have hV3 := Lib.hid (rg_of (w := w1) (fun W hW => hV.out W (bl_trans b1 hW)))
    refine wp_region_quiet_below (by kernel_rfl) (by kernel_rfl) ?_
    repeat (first
      | go_big_quiet_skip
      | (refine wpQuiet_load_row (by rfl) 123 _ rfl w.heap.size rfl 123 #[] (.struct (Tryz.prog.fieldsOf 123)) op.rg (by kernel_rfl) rfl (by kernel_rfl) ?_; go_simp)
      | (refine wpQuiet_load_row (by rfl) 23 _ rfl (w.heap.size + 1) rfl 23 #[.bool false, .bool o1, .bool o2, .bool o3, .bool o4, .bool o5] (.struct (Tryz.prog.fieldsOf 23)) oo.rg (by kernel_rfl) rfl (by kernel_rfl) ?_; go_simp)
      | go_big_quiet_step (with_reducible first | exact hW3.out _ _ | exact hV3.out _ _))
    refine wpQuiet_nil ?_
    first | rintro w' ⟨⟨dq, osq⟩, rfl⟩ | rintro ⟨dq, osq⟩
    have hgw := below_regrown w1 dq osq
    have b2 := bl_trans b1 hgw
    have oa2 := oa.step hgw
    generalize grow (redrawn w1 dq) osq = w2 at *
    clear q0 q4 p0 e0 e1 e2 e3 e4 e5 e6 e7 e8 hgw oa b1
    cases S with
    | false =>
      go_wp2
      go_ret
      exact ⟨by rw [hZ.out]; first | done | rfl, b2⟩
    | true =>
      obtain ⟨e0, e1, e2, e3, e4, e5, e6, e7, e8⟩ := at_cells oa2
      have f4 := oa2.frozen 4
      have oa3 := oa2.set_ 4 (.slice none 0 0)
      have b3 := bl_only b2 (only_setCell (only_of_below (bl_refl w2) _) (p := ⟨w.heap.size + 1 + 1, 4, none⟩) rfl (.slice none 0 0)) (by show w.heap.size ≤ w.heap.size + 1 + 1; omega)
      go_wp2_with (refine wpList_load_row rfl 37 _ rfl (w.heap.size + 1 + 1) rfl 37 #[.int .i64 17, .bool p, .int .u32 N, .int .u32 M, .slice none 0 0, .slice A2 n2 c2, .slice A3 n3 c3, .int .i64 f, .slice A4 n4 c4] (0, 0) (.struct (Tryz.prog.fieldsOf 37)) oa3 (by kernel_rfl) rfl (by kernel_rfl) ?_)
      refine (hP.out _).mono ?_
      rintro e w4 ⟨rfl, hb4⟩
      go_wp2
      go_ret
      exact ⟨by rw [hZ.out]; first | done | rfl, bl_trans b3 hb4⟩
  · have hZ : Hid (Z = (S && Q)) := Lib.hid (by rw [hX.out, decide_eq_false (p := k = 17) h3]; rfl)
    have hq : (k == 17) = false := by simpa using h3
    clear h3
    clear hX hsp
    go_enter Tryz.func260, Tryz.ntmps260
    go_wp2_with fail
    obtain ⟨e0, e1, e2, e3, e4, e5, e6, e7, e8⟩ := at_cells oa
    have q0 := cell_regrown e0
    have q4 := cell_regrown e4
    have p0 := cell_regrown (oo.cell (i := 0) rfl)
    generalize hw1 : (((w.alloc (.cells #[] 123)).alloc (.cells #[.bool o0, .bool o1, .bool o2, .bool o3, .bool o4, .bool o5] 23)).alloc (.cells #[.int .i64 k, .bool p, .int .u32 N, .int .u32 M, .slice A1 n1 c1, .slice A2 n2 c2, .slice A3 n3 c3, .int .i64 f, .slice A4 n4 c4] 37)) = w1 at *
    have hW3 := Lib.hid (rg_of (w := w1) (fun W _ => hW.out W))
    have hV3 := Lib.hid (rg_of (w := w1) (fun W hW => hV.out W (bl_trans b1 hW)))
    refine wp_region_quiet_below (by kernel_rfl) (by kernel_rfl) ?_
    repeat (first
      | go_big_quiet_skip
      | (refine wpQuiet_load_row (by rfl) 123 _ rfl w.heap.size rfl 123 #[] (.struct (Tryz.prog.fieldsOf 123)) op.rg (by kernel_rfl) rfl (by kernel_rfl) ?_; go_simp)
      | (refine wpQuiet_load_row (by rfl) 23 _ rfl (w.heap.size + 1) rfl 23 #[.bool o0, .bool o1, .bool o2, .bool o3, .bool o4, .bool o5] (.struct (Tryz.prog.fieldsOf 23)) oo.rg (by kernel_rfl) rfl (by kernel_rfl) ?_; go_simp)
      | go_big_quiet_step (with_reducible first | exact hW3.out _ _ | exact hV3.out _ _))
    refine wpQuiet_nil ?_
    first | rintro w' ⟨⟨dq, osq⟩, rfl⟩ | rintro ⟨dq, osq⟩
    have hgw := below_regrown w1 dq osq
    have b2 := bl_trans b1 hgw
    have oa2 := oa.step hgw
    generalize grow (redrawn w1 dq) osq = w2 at *
    clear q0 q4 p0 e0 e1 e2 e3 e4 e5 e6 e7 e8 hgw oa b1
    cases S with
    | false =>
      go_wp2
      go_ret
      exact ⟨by rw [hZ.out]; first | done | rfl, b2⟩
    | true =>
      obtain ⟨e0, e1, e2, e3, e4, e5, e6, e7, e8⟩ := at_cells oa2
      have f4 := oa2.frozen 4
      have oa3 := oa2.set_ 4 (.slice none 0 0)
      have b3 := bl_only b2 (only_setCell (only_of_below (bl_refl w2) _) (p := ⟨w.heap.size + 1 + 1, 4, none⟩) rfl (.slice none 0 0)) (by show w.heap.size ≤ w.heap.size + 1 + 1; omega)
      go_wp2_with (refine wpList_load_row rfl 37 _ rfl (w.heap.size + 1 + 1) rfl 37 #[.int .i64 k, .bool p, .int .u32 N, .int .u32 M, .slice none 0 0, .slice A2 n2 c2, .slice A3 n3 c3, .int .i64 f, .slice A4 n4 c4] (0, 0) (.struct (Tryz.prog.fieldsOf 37)) oa3 (by kernel_rfl) rfl (by kernel_rfl) ?_)
      refine (hP.out _).mono ?_
      rintro e w4 ⟨rfl, hb4⟩
      go_wp2
      go_ret
      exact ⟨by rw [hZ.out]; first | done | rfl, bl_trans b3 hb4⟩

end Go.Proofs.YtmcnpkfeipelgaaGreatDoor

/- value.Valid over a chapter's own contract (written by gen/vld.py) -/
namespace Go.Proofs.YtmcnpkfeipelgaaGreatDoor
open Go.RowKit Go.Sort

def clsOk (k : Int) (p : Bool) : Bool := !((flagKnown k && decide (flagCls k ≠ 192)) && p)
set_option maxRecDepth 100000 in
set_option maxHeartbeats 3200000 in
theorem valid13_paths (o0 o1 o2 o3 o4 o5 : Bool) (a : At) (w : World) (hk : (Lit.int .i64 a.k).wf = true) (hT : hndT a.k = 123) (V : Bool)
    (hc : ∀ W, Below w.heap.size w W → Calls Tryz.prog 260 #[.agg #[], .agg #[.bool o0, .bool o1, .bool o2, .bool o3, .bool o4, .bool o5], .agg (atc a)] W fun e w' => e = .returned (.bool V) ∧ Below W.heap.size W w') :
    Calls Tryz.prog 23 #[.agg #[.bool o0, .bool o1, .bool o2, .bool o3, .bool o4, .bool o5], .agg (atc a)] w fun e w' => e = .returned (.bool (clsOk a.k a.p && V)) ∧ Below w.heap.size w w' := by
  have b1 := bl_alloc (bl_alloc (bl_refl w) (.cells #[.bool o0, .bool o1, .bool o2, .bool o3, .bool o4, .bool o5] 23)) (.cells (atc a) 37)
  have oo := (Own.new w 23 #[.bool o0, .bool o1, .bool o2, .bool o3, .bool o4, .bool o5]).alloc (.cells (atc a) 37)
  have oa := Own.new (w.alloc (.cells #[.bool o0, .bool o1, .bool o2, .bool o3, .bool o4, .bool o5] 23)) 37 (atc a)
  rw [show (w.alloc (.cells #[.bool o0, .bool o1, .bool o2, .bool o3, .bool o4, .bool o5] 23)).heap.size = w.heap.size + 1 by simp] at oa
  have hC := Lib.hid (fun W => class_any a.k W hk)
  have hH := Lib.hid (fun W => handler_any a.k W hk)
  rw [hT] at hH
  have hX : Hid (clsOk a.k a.p = !((flagKnown a.k && decide (flagCls a.k ≠ 192)) && a.p)) := Lib.hid rfl
  have HC := Lib.hid hc
  clear hc
  have hm : ∀ w, (method 349 123 (.agg #[]) "peerage/value.valid").run Tryz.prog w = .ok (260, .agg #[]) w := fun _ => by kernel_rfl
  generalize clsOk a.k a.p = Z at *
  generalize flagKnown a.k = K at *
  generalize flagCls a.k = Cl at *
  obtain ⟨k, p, N, M, A1, n1, c1, A2, n2, c2, A3, n3, c3, f, A4, n4, c4⟩ := a
  unfold atc at *
  dsimp only at *
  clear hk hT
  have hsp : Hid ((K = true ∧ Cl ≠ 192 ∧ p = true) ∨ (K = true ∧ Cl ≠ 192 ∧ p = false) ∨ (K = true ∧ Cl = 192) ∨ K = false) := Lib.hid (by cases K <;> cases p <;> by_cases h : Cl = 192 <;> simp [h])
  rcases hsp.out with ⟨rfl, h1, rfl⟩ | ⟨rfl, h1, rfl⟩ | ⟨rfl, rfl⟩ | rfl
  · have hZ : Hid (Z = false) := Lib.hid (by rw [hX.out, decide_eq_true h1]; rfl)
    have hq : (Cl == 192) = false := by simpa using h1
    have hq2 : (Cl != 192) = true := by simpa using h1
    clear hX hsp h1
    go_enter Tryz.func23, Tryz.ntmps23
    go_wp2_with fail
    refine (hC.out _).mono ?_
    rintro e w1 ⟨rfl, hb1⟩
    have oa1 := oa.step hb1
    have b2 := bl_trans b1 hb1
    obtain ⟨e0, e1, _⟩ := at_cells oa1
    clear oo oa b1 hb1
    go_wp2
    go_ret
    exact ⟨by rw [hZ.out]; first | done | rfl, b2⟩
  · have hZ : Hid (Z = true) := Lib.hid (by rw [hX.out, decide_eq_true h1]; rfl)
    have hq : (Cl == 192) = false := by simpa using h1
    have hq2 : (Cl != 192) = true := by simpa using h1
    clear h1
    clear hX hsp
    go_enter Tryz.func23, Tryz.ntmps23
    go_wp2_with fail
    refine (hC.out _).mono ?_
    rintro e w1 ⟨rfl, hb1⟩
    have oa1 := oa.step hb1
    have oo1 := oo.step hb1
    have b2 := bl_trans b1 hb1
    obtain ⟨e0, e1, _⟩ := at_cells oa1
    clear oo oa b1 hb1
    go_wp2_with fail
    have q0 := cell_regrown e0
    have hH3 := Lib.hid (rg_of (w := w1) (fun W _ => hH.out W))
    have hC3 := Lib.hid (rg_of (w := w1) (fun W hW => HC.out W (bl_trans b2 hW)))
    refine wp_region_quiet_below (by kernel_rfl) (by kernel_rfl) ?_
    repeat (first
      | go_big_quiet_skip
      | (refine wpQuiet_load_row (by rfl) 23 _ rfl w.heap.size rfl 23 #[.bool o0, .bool o1, .bool o2, .bool o3, .bool o4, .bool o5] (.struct (Tryz.prog.fieldsOf 23)) oo1.rg (by kernel_rfl) rfl (by kernel_rfl) ?_; go_simp)
      | (refine wpQuiet_load_row (by rfl) 37 _ rfl (w.heap.size + 1) rfl 37 #[.int .i64 k, .bool false, .int .u32 N, .int .u32 M, .slice A1 n1 c1, .slice A2 n2 c2, .slice A3 n3 c3, .int .i64 f, .slice A4 n4 c4] (.struct (Tryz.prog.fieldsOf 37)) oa1.rg (by kernel_rfl) rfl (by kernel_rfl) ?_; go_simp)
      | go_big_quiet_step (with_reducible first | exact hH3.out _ _ | exact hC3.out _ _))
    refine wpQuiet_nil ?_
    first | rintro w' ⟨⟨dq, osq⟩, rfl⟩ | rintro ⟨dq, osq⟩
    have hgw := below_regrown w1 dq osq
    have b3 := bl_trans b2 hgw
    generalize grow (redrawn w1 dq) osq = w3 at *
    clear hH3 hC3 q0 e0 e1
    go_wp2
    go_ret
    exact ⟨by rw [hZ.out]; first | done | rfl, b3⟩
  · have hZ : Hid (Z = true) := Lib.hid (by rw [hX.out]; cases p <;> rfl)
    clear hX hsp
    go_enter Tryz.func23, Tryz.ntmps23
    go_wp2_with fail
    refine (hC.out _).mono ?_
    rintro e w1 ⟨rfl, hb1⟩
    have oa1 := oa.step hb1
    have oo1 := oo.step hb1
    have b2 := bl_trans b1 hb1
    obtain ⟨e0, e1, _⟩ := at_cells oa1
    clear oo oa b1 hb1
    go_wp2_with fail
    have q0 := cell_regrown e0
    have hH3 := Lib.hid (rg_of (w := w1) (fun W _ => hH.out W))
    have hC3 := Lib.hid (rg_of (w := w1) (fun W hW => HC.out W (bl_trans b2 hW)))
    refine wp_region_quiet_below (by kernel_rfl) (by kernel_rfl) ?_
    repeat (first
      | go_big_quiet_skip
      | (refine wpQuiet_load_row (by rfl) 23 _ rfl w.heap.size rfl 23 #[.bool o0, .bool o1, .bool o2, .bool o3, .bool o4, .bool o5] (.struct (Tryz.prog.fieldsOf 23)) oo1.rg (by kernel_rfl) rfl (by kernel_rfl) ?_; go_simp)
      | (refine wpQuiet_load_row (by rfl) 37 _ rfl (w.heap.size + 1) rfl 37 #[.int .i64 k, .bool p, .int .u32 N, .int .u32 M, .slice A1 n1 c1, .slice A2 n2 c2, .slice A3 n3 c3, .int .i64 f, .slice A4 n4 c4] (.struct (Tryz.prog.fieldsOf 37)) oa1.rg (by kernel_rfl) rfl (by kernel_rfl) ?_; go_simp)
      | go_big_quiet_step (with_reducible first | exact hH3.out _ _ | exact hC3.out _ _))
    refine wpQuiet_nil ?_
    first | rintro w' ⟨⟨dq, osq⟩, rfl⟩ | rintro ⟨dq, osq⟩
    have hgw := below_regrown w1 dq osq
    have b3 := bl_trans b2 hgw
    generalize grow (redrawn w1 dq) osq = w3 at *
    clear hH3 hC3 q0 e0 e1
    go_wp2
    go_ret
    exact ⟨by rw [hZ.out]; first | done | rfl, b3⟩
  · have hZ : Hid (Z = true) := Lib.hid (by rw [hX.out]; cases p <;> rfl)
    clear hX hsp
    go_enter Tryz.func23, Tryz.ntmps23
    go_wp2_with fail
    refine (hC.out _).mono ?_
    rintro e w1 ⟨rfl, hb1⟩
    have oa1 := oa.step hb1
    have oo1 := oo.step hb1
    have b2 := bl_trans b1 hb1
    obtain ⟨e0, e1, _⟩ := at_cells oa1
    clear oo oa b1 hb1
    go_wp2_with fail
    have q0 := cell_regrown e0
    have hH3 := Lib.hid (rg_of (w := w1) (fun W _ => hH.out W))
    have hC3 := Lib.hid (rg_of (w := w1) (fun W hW => HC.out W (bl_trans b2 hW)))
    refine wp_region_quiet_below (by kernel_rfl) (by kernel_rfl) ?_
    repeat (first
      | go_big_quiet_skip
      | (refine wpQuiet_load_row (by rfl) 23 _ rfl w.heap.size rfl 23 #[.bool o0, .bool o1, .bool o2, .bool o3, .bool o4, .bool o5] (.struct (Tryz.prog.fieldsOf 23)) oo1.rg (by kernel_rfl) rfl (by kernel_rfl) ?_; go_simp)
      | (refine wpQuiet_load_row (by rfl) 37 _ rfl (w.heap.size + 1) rfl 37 #[.int .i64 k, .bool p, .int .u32 N, .int .u32 M, .slice A1 n1 c1, .slice A2 n2 c2, .slice A3 n3 c3, .int .i64 f, .slice A4 n4 c4] (.struct (Tryz.prog.fieldsOf 37)) oa1.rg (by kernel_rfl) rfl (by kernel_rfl) ?_; go_simp)
      | go_big_quiet_step (with_reducible first | exact hH3.out _ _ | exact hC3.out _ _))
    refine wpQuiet_nil ?_
    first | rintro w' ⟨⟨dq, osq⟩, rfl⟩ | rintro ⟨dq, osq⟩
    have hgw := below_regrown w1 dq osq
    have b3 := bl_trans b2 hgw
    generalize grow (redrawn w1 dq) osq = w3 at *
    clear hH3 hC3 q0 e0 e1
    go_wp2
    go_ret
    exact ⟨by rw [hZ.out]; first | done | rfl, b3⟩
end Go.Proofs.YtmcnpkfeipelgaaGreatDoor

/- value.Bytes over a chapter's own contracts; paths.bytes (written by gen/vle.py) -/
namespace Go.Proofs.YtmcnpkfeipelgaaGreatDoor
open Go.RowKit Go.Sort

theorem op_cells {W : World} {g : Nat} {T : TypeId} {x0 x1 x2 x3 x4 x5 : Value} (o : Own W g T #[x0, x1, x2, x3, x4, x5]) : W.cell? ⟨g, 0, none⟩ = some x0 ∧ W.cell? ⟨g, 1, none⟩ = some x1 ∧ W.cell? ⟨g, 2, none⟩ = some x2 ∧ W.cell? ⟨g, 3, none⟩ = some x3 ∧ W.cell? ⟨g, 4, none⟩ = some x4 ∧ W.cell? ⟨g, 5, none⟩ = some x5 :=
  ⟨o.cell rfl, o.cell rfl, o.cell rfl, o.cell rfl, o.cell rfl, o.cell rfl⟩
/-- This slice shows these bytes. -/
def BSl (w : World) (L : List Int) (v : Value) : Prop := ∃ A n c, v = .slice A n c ∧ n ≤ c ∧ Bytes w w.heap.size A n L
theorem BSl.below {w w' : World} {L : List Int} {v : Value} (h : BSl w L v) (hb : Below w.heap.size w w') : BSl w' L v := by
  obtain ⟨A, n, c, e, hc, h⟩ := h
  exact ⟨A, n, c, e, hc, (h.below hb).more hb.size⟩
set_option maxRecDepth 100000 in
/-- value.Bytes says no. -/
theorem bytes13_no (o0 o1 o2 o3 o4 o5 : Bool) (a : At) (w : World) (hv : ∀ W, Below w.heap.size w W → Calls Tryz.prog 23 #[.agg #[.bool o0, .bool o1, .bool o2, .bool o3, .bool o4, .bool o5], .agg (atc a)] W fun e w' => e = .returned (.bool false) ∧ Below W.heap.size W w') :
    Calls Tryz.prog 19 #[.agg #[.bool o0, .bool o1, .bool o2, .bool o3, .bool o4, .bool o5], .agg (atc a)] w fun e w' => e = .returned (.tuple #[.slice none 0 0, .bool false]) ∧ Below w.heap.size w w' := by
  have b1 := bl_alloc (bl_alloc (bl_refl w) (.cells #[.bool o0, .bool o1, .bool o2, .bool o3, .bool o4, .bool o5] 23)) (.cells (atc a) 37)
  have oo := (Own.new w 23 #[.bool o0, .bool o1, .bool o2, .bool o3, .bool o4, .bool o5]).alloc (.cells (atc a) 37)
  have oa := Own.new (w.alloc (.cells #[.bool o0, .bool o1, .bool o2, .bool o3, .bool o4, .bool o5] 23)) 37 (atc a)
  rw [show (w.alloc (.cells #[.bool o0, .bool o1, .bool o2, .bool o3, .bool o4, .bool o5] 23)).heap.size = w.heap.size + 1 by simp] at oa
  have HV := Lib.hid hv
  clear hv
  obtain ⟨k, p, N, M, A1, n1, c1, A2, n2, c2, A3, n3, c3, f, A4, n4, c4⟩ := a
  unfold atc at *
  dsimp only at *
  go_enter Tryz.func19, Tryz.ntmps19
  go_wp2_with (first | (refine wpList_load_row rfl 23 _ rfl w.heap.size rfl 23 #[.bool o0, .bool o1, .bool o2, .bool o3, .bool o4, .bool o5] (0, 0) (.struct (Tryz.prog.fieldsOf 23)) oo (by kernel_rfl) rfl (by kernel_rfl) ?_) | (refine wpList_load_row rfl 37 _ rfl (w.heap.size + 1) rfl 37 #[.int .i64 k, .bool p, .int .u32 N, .int .u32 M, .slice A1 n1 c1, .slice A2 n2 c2, .slice A3 n3 c3, .int .i64 f, .slice A4 n4 c4] (0, 0) (.struct (Tryz.prog.fieldsOf 37)) oa (by kernel_rfl) rfl (by kernel_rfl) ?_))
  refine (HV.out _ b1).mono ?_
  rintro e w1 ⟨rfl, hb1⟩
  go_wp2
  go_ret2
  exact ⟨rfl, bl_trans b1 hb1⟩
set_option maxRecDepth 100000 in
set_option maxHeartbeats 3200000 in
theorem bytes13_paths (o0 o1 o2 o3 o4 o5 : Bool) (a : At) (L : List Int) (w : World) (hk : (Lit.int .i64 a.k).wf = true) (hT : hndT a.k = 123) (hL : L.length ≤ 65535)
    (hv : ∀ W, Below w.heap.size w W → Calls Tryz.prog 23 #[.agg #[.bool o0, .bool o1, .bool o2, .bool o3, .bool o4, .bool o5], .agg (atc a)] W fun e w' => e = .returned (.bool true) ∧ Below W.heap.size W w')
    (hc : ∀ W, Below w.heap.size w W → Calls Tryz.prog 257 #[.agg #[], .agg #[.bool o0, .bool o1, .bool o2, .bool o3, .bool o4, .bool o5], .agg (atc a)] W fun e w' => ∃ v, e = .returned v ∧ BSl w' L v ∧ Below W.heap.size W w') :
    Calls Tryz.prog 19 #[.agg #[.bool o0, .bool o1, .bool o2, .bool o3, .bool o4, .bool o5], .agg (atc a)] w fun e w' => ∃ v, e = .returned (.tuple #[v, .bool true]) ∧ BSl w' L v ∧ Below w.heap.size w w' := by
  have b1 := bl_alloc (bl_alloc (bl_refl w) (.cells #[.bool o0, .bool o1, .bool o2, .bool o3, .bool o4, .bool o5] 23)) (.cells (atc a) 37)
  have oo := (Own.new w 23 #[.bool o0, .bool o1, .bool o2, .bool o3, .bool o4, .bool o5]).alloc (.cells (atc a) 37)
  have oa := Own.new (w.alloc (.cells #[.bool o0, .bool o1, .bool o2, .bool o3, .bool o4, .bool o5] 23)) 37 (atc a)
  rw [show (w.alloc (.cells #[.bool o0, .bool o1, .bool o2, .bool o3, .bool o4, .bool o5] 23)).heap.size = w.heap.size + 1 by simp] at oa
  have HV := Lib.hid hv
  have HC := Lib.hid hc
  have hH := Lib.hid (fun W => handler_any a.k W hk)
  rw [hT] at hH
  have hm : ∀ w, (method 349 123 (.agg #[]) "peerage/value.bytes").run Tryz.prog w = .ok (257, .agg #[]) w := fun _ => by kernel_rfl
  clear hv hc
  obtain ⟨k, p, N, M, A1, n1, c1, A2, n2, c2, A3, n3, c3, f, A4, n4, c4⟩ := a
  unfold atc at *
  dsimp only at *
  clear hk hT
  go_enter Tryz.func19, Tryz.ntmps19
  go_wp2_with (first | (refine wpList_load_row rfl 23 _ rfl w.heap.size rfl 23 #[.bool o0, .bool o1, .bool o2, .bool o3, .bool o4, .bool o5] (0, 0) (.struct (Tryz.prog.fieldsOf 23)) oo (by kernel_rfl) rfl (by kernel_rfl) ?_) | (refine wpList_load_row rfl 37 _ rfl (w.heap.size + 1) rfl 37 #[.int .i64 k, .bool p, .int .u32 N, .int .u32 M, .slice A1 n1 c1, .slice A2 n2 c2, .slice A3 n3 c3, .int .i64 f, .slice A4 n4 c4] (0, 0) (.struct (Tryz.prog.fieldsOf 37)) oa (by kernel_rfl) rfl (by kernel_rfl) ?_))
  refine (HV.out _ b1).mono ?_
  rintro e w1 ⟨rfl, hb1⟩
  have oa1 := oa.step hb1
  have oo1 := oo.step hb1
  have b2 := bl_trans b1 hb1
  obtain ⟨e0, e1, _⟩ := at_cells oa1
  clear oo oa b1 hb1 HV
  go_wp2_with fail
  refine wp_region_held_drew (S := (fun W => Below w.heap.size w W ∧ Own W w.heap.size 23 #[.bool o0, .bool o1, .bool o2, .bool o3, .bool o4, .bool o5] ∧ Own W (w.heap.size + 1) 37 #[.int .i64 k, .bool p, .int .u32 N, .int .u32 M, .slice A1 n1 c1, .slice A2 n2 c2, .slice A3 n3 c3, .int .i64 f, .slice A4 n4 c4])) (by kernel_rfl) ⟨bl_drewN b2 1, oo1.drew, oa1.drew⟩ (fun hHeld => ?_)
  have c0 : (fun W => Below w.heap.size w W ∧ Own W w.heap.size 23 #[.bool o0, .bool o1, .bool o2, .bool o3, .bool o4, .bool o5] ∧ Own W (w.heap.size + 1) 37 #[.int .i64 k, .bool p, .int .u32 N, .int .u32 M, .slice A1 n1 c1, .slice A2 n2 c2, .slice A3 n3 c3, .int .i64 f, .slice A4 n4 c4]) w1.drew := ⟨bl_drewN b2 1, oo1.drew, oa1.drew⟩
  obtain ⟨b3, oo3, oa3⟩ := c0
  generalize w1.drew = w3 at *
  clear oo1 oa1 b2 e0 e1
  refine wpAnyH_take (i := 0) (v := ?_) rfl (by kernel_rfl) (by kernel_rfl) (by kernel_rfl) (fun _ _ _ h => h) (Or.inl ⟨by rfl, ?_⟩) (by assumption) ?_
  rotate_left
  · (intro W hSw; obtain ⟨_, hSo, hSa⟩ := hSw; obtain ⟨e0, e1, e2, e3, e4, e5, e6, e7, e8⟩ := at_cells hSa; obtain ⟨p0, p1, p2, p3, p4, p5⟩ := op_cells hSo; go_simp; try with_reducible rfl)
  simp only [Act.put, List.getElem_toArray, List.getElem_cons_zero, List.setIfInBounds_toArray, List.set_cons_zero, List.set_cons_succ]
  refine wpAnyH_take (i := 1) (v := ?_) rfl (by kernel_rfl) (by kernel_rfl) (by kernel_rfl) (fun _ _ _ h => h) (Or.inl ⟨by rfl, ?_⟩) (by assumption) ?_
  rotate_left
  · (intro W hSw; obtain ⟨_, hSo, hSa⟩ := hSw; obtain ⟨e0, e1, e2, e3, e4, e5, e6, e7, e8⟩ := at_cells hSa; obtain ⟨p0, p1, p2, p3, p4, p5⟩ := op_cells hSo; go_simp; try with_reducible rfl)
  simp only [Act.put, List.getElem_toArray, List.getElem_cons_zero, List.getElem_cons_succ, List.setIfInBounds_toArray, List.set_cons_zero, List.set_cons_succ]
  refine wpAnyH_take (i := 3) (v := ?_) rfl (by kernel_rfl) (by kernel_rfl) (by kernel_rfl) (fun _ _ _ h => h) (Or.inl ⟨by rfl, ?_⟩) (by assumption) ?_
  rotate_left
  · (intro W hSw; obtain ⟨_, hSo, hSa⟩ := hSw; obtain ⟨e0, e1, e2, e3, e4, e5, e6, e7, e8⟩ := at_cells hSa; obtain ⟨p0, p1, p2, p3, p4, p5⟩ := op_cells hSo; go_simp; try with_reducible rfl)
  simp only [Act.put, List.getElem_toArray, List.getElem_cons_zero, List.getElem_cons_succ, List.setIfInBounds_toArray, List.set_cons_zero, List.set_cons_succ]
  refine wpAnyH_take (i := 4) (v := ?_) rfl (by kernel_rfl) (by kernel_rfl) (by kernel_rfl) (fun _ _ _ h => h) (Or.inl ⟨by rfl, ?_⟩) (by assumption) ?_
  rotate_left
  · (intro W hSw; obtain ⟨_, hSo, hSa⟩ := hSw; obtain ⟨e0, e1, e2, e3, e4, e5, e6, e7, e8⟩ := at_cells hSa; obtain ⟨p0, p1, p2, p3, p4, p5⟩ := op_cells hSo; go_simp; try with_reducible rfl)
  simp only [Act.put, List.getElem_toArray, List.getElem_cons_zero, List.getElem_cons_succ, List.setIfInBounds_toArray, List.set_cons_zero, List.set_cons_succ]
  refine wpAnyH_ready (rs := [2]) (by kernel_rfl) (by simp) ?_
  refine (AllReadyH.cons rfl (fun K hK => ?_) AllReadyH.nil)
  go_simp
  go_at_call 31
  refine (hH.out _).mono ?_
  rintro e w4 ⟨rfl, hb4⟩
  have b4 := bl_trans b3 hb4
  have oo4 := oo3.step hb4
  have oa4 := oa3.step hb4
  refine hK.out _ _ ⟨b4, oo4, oa4⟩ (fun hHeld2 => ?_)
  clear hK K hHeld
  have hHeld := hHeld2
  clear hHeld2
  try simp only [Act.put, List.getElem_toArray, List.getElem_cons_zero, List.getElem_cons_succ, List.setIfInBounds_toArray, List.set_cons_zero, List.set_cons_succ]
  refine wpAnyH_ready (rs := [5]) (by kernel_rfl) (by simp) ?_
  refine (AllReadyH.cons rfl (fun K hK => ?_) AllReadyH.nil)
  go_simp
  go_at_call 257
  refine (HC.out _ b4).mono ?_
  rintro e w5 ⟨v, rfl, hv5, hb5⟩
  have b5 := bl_trans b4 hb5
  have oo5 := oo4.step hb5
  have oa5 := oa4.step hb5
  obtain ⟨AA, nn, cc, rfl, hcc, hBB⟩ := hv5
  refine hK.out _ _ ⟨b5, oo5, oa5⟩ (fun hHeld2 => ?_)
  clear hK K hHeld
  have hHeld := hHeld2
  clear hHeld2
  try simp only [Act.put, List.getElem_toArray, List.getElem_cons_zero, List.getElem_cons_succ, List.setIfInBounds_toArray, List.set_cons_zero, List.set_cons_succ]
  refine wpAnyH_take (i := 6) (v := ?_) rfl (by kernel_rfl) (by kernel_rfl) (by kernel_rfl) (fun _ _ _ h => h) (Or.inl ⟨by rfl, ?_⟩) (by assumption) ?_
  rotate_left
  · (intro W hSw; obtain ⟨_, hSo, hSa⟩ := hSw; obtain ⟨e0, e1, e2, e3, e4, e5, e6, e7, e8⟩ := at_cells hSa; obtain ⟨p0, p1, p2, p3, p4, p5⟩ := op_cells hSo; go_simp; try with_reducible rfl)
  simp only [Act.put, List.getElem_toArray, List.getElem_cons_zero, List.getElem_cons_succ, List.setIfInBounds_toArray, List.set_cons_zero, List.set_cons_succ]
  refine wpAnyH_done (by kernel_rfl) ?_ _
  have hnn := hBB.1
  have d0 : decide ((65535 : Int) < (nn : Int)) = false := by simp; omega
  have d1 : ((65535 : Int) < (nn : Int)) = False := eq_false (by omega)
  clear oo3 oa3 oo4 oa4 oo5 oa5
  go_wp2
  go_ret2
  exact ⟨_, rfl, ⟨AA, nn, cc, rfl, hcc, hBB⟩, b5⟩
end Go.Proofs.YtmcnpkfeipelgaaGreatDoor

/- value.Form over Bytes; value.Text over a chapter (written by gen/vlf.py) -/
namespace Go.Proofs.YtmcnpkfeipelgaaGreatDoor
open Go.RowKit Go.Sort

theorem canH_yes {k : Int} {p : Bool} {n : Int} (h : canOk k p n = true) : canH k p n = #[.int .i64 (canF k p n), .int .i64 k, .int .i64 n] := by unfold canH; rw [h]; rfl
theorem canH_not {k : Int} {p : Bool} {n : Int} (h : canOk k p n = false) : canH k p n = #[.int .i64 0, .int .i64 0, .int .i64 0] := by unfold canH; rw [h]; rfl

theorem canF_bytes {k : Int} {p : Bool} {n : Int} (h : canOk k p n = true) : fbOk (canF k p n) k n = true ∧ ((fForm (canF k p n) k n).length : Int) = if 255 < n then 4 else 3 := by
  unfold canOk at h
  simp only [Bool.and_eq_true, decide_eq_true_eq] at h
  obtain ⟨⟨⟨h1, h2⟩, h3⟩, _⟩ := h
  have key : (0 ≤ canF k p n ∧ canF k p n ≤ 255) ∧ fk (canF k p n) = if 255 < n then 2 else 1 := by
    unfold canF
    by_cases hn : 255 < n
    · rw [if_pos hn, if_pos hn]
      rcases canC_cases k with hc | hc | hc <;> rw [hc] <;> cases p <;> decide +kernel
    · rw [if_neg hn, if_neg hn]
      rcases canC_cases k with hc | hc | hc <;> rw [hc] <;> cases p <;> decide +kernel
  refine ⟨?_, ?_⟩
  · unfold fbOk
    rw [decide_eq_true key.1, decide_eq_true h1, key.2]
    by_cases hn : 255 < n
    · rw [if_pos hn]
      simp
      have : (256 : Int) ^ (2 : Int).toNat = 65536 := rfl
      omega
    · rw [if_neg hn]
      simp
      have : (256 : Int) ^ (1 : Int).toNat = 256 := rfl
      omega
  · unfold fForm
    rw [List.length_append, digitsOf_len, key.2]
    by_cases hn : 255 < n
    · rw [if_pos hn, if_pos hn]; rfl
    · rw [if_neg hn, if_neg hn]; rfl

theorem fForm_bytes {f t n : Int} (h : fbOk f t n = true) : ∀ x ∈ fForm f t n, 0 ≤ x ∧ x ≤ 255 := by
  simp only [fbOk, Bool.and_eq_true, decide_eq_true_eq] at h
  intro x hx
  unfold fForm at hx
  rcases List.mem_append.1 hx with hx | hx
  · simp at hx; omega
  · exact digitsOf_range _ _ x hx

set_option maxHeartbeats 1600000 in

/-- The form of an attribute of this type with this value. -/
def form13 (k : Int) (p : Bool) (L : List Int) : List Int := fForm (canF k p L.length) k L.length ++ L
set_option maxRecDepth 100000 in
theorem form13_no (o0 o1 o2 o3 o4 o5 : Bool) (a : At) (w : World) (hv : ∀ W, Below w.heap.size w W → Calls Tryz.prog 19 #[.agg #[.bool o0, .bool o1, .bool o2, .bool o3, .bool o4, .bool o5], .agg (atc a)] W fun e w' => e = .returned (.tuple #[.slice none 0 0, .bool false]) ∧ Below W.heap.size W w') :
    Calls Tryz.prog 21 #[.agg #[.bool o0, .bool o1, .bool o2, .bool o3, .bool o4, .bool o5], .agg (atc a)] w fun e w' => e = .returned (.tuple #[.slice none 0 0, .bool false]) ∧ Below w.heap.size w w' := by
  have b1 := bl_alloc (bl_alloc (bl_refl w) (.cells #[.bool o0, .bool o1, .bool o2, .bool o3, .bool o4, .bool o5] 23)) (.cells (atc a) 37)
  have oo := (Own.new w 23 #[.bool o0, .bool o1, .bool o2, .bool o3, .bool o4, .bool o5]).alloc (.cells (atc a) 37)
  have oa := Own.new (w.alloc (.cells #[.bool o0, .bool o1, .bool o2, .bool o3, .bool o4, .bool o5] 23)) 37 (atc a)
  rw [show (w.alloc (.cells #[.bool o0, .bool o1, .bool o2, .bool o3, .bool o4, .bool o5] 23)).heap.size = w.heap.size + 1 by simp] at oa
  have HV := Lib.hid hv
  clear hv
  obtain ⟨k, p, N, M, A1, n1, c1, A2, n2, c2, A3, n3, c3, f, A4, n4, c4⟩ := a
  unfold atc at *
  dsimp only at *
  go_enter Tryz.func21, Tryz.ntmps21
  go_wp2_with (first | (refine wpList_load_row rfl 23 _ rfl w.heap.size rfl 23 #[.bool o0, .bool o1, .bool o2, .bool o3, .bool o4, .bool o5] (0, 0) (.struct (Tryz.prog.fieldsOf 23)) oo (by kernel_rfl) rfl (by kernel_rfl) ?_) | (refine wpList_load_row rfl 37 _ rfl (w.heap.size + 1) rfl 37 #[.int .i64 k, .bool p, .int .u32 N, .int .u32 M, .slice A1 n1 c1, .slice A2 n2 c2, .slice A3 n3 c3, .int .i64 f, .slice A4 n4 c4] (0, 0) (.struct (Tryz.prog.fieldsOf 37)) oa (by kernel_rfl) rfl (by kernel_rfl) ?_))
  refine (HV.out _ b1).mono ?_
  rintro e w1 ⟨rfl, hb1⟩
  go_wp2
  go_ret2
  exact ⟨rfl, bl_trans b1 hb1⟩
set_option maxRecDepth 100000 in
set_option maxHeartbeats 3200000 in
theorem form13_yes (o0 o1 o2 o3 o4 o5 : Bool) (a : At) (L : List Int) (w : World) (hk : (Lit.int .i64 a.k).wf = true) (hL : L.length ≤ 65535) (hcan : canOk a.k a.p L.length = true) (hLb : ∀ x ∈ L, 0 ≤ x ∧ x ≤ 255)
    (hv : ∀ W, Below w.heap.size w W → Calls Tryz.prog 19 #[.agg #[.bool o0, .bool o1, .bool o2, .bool o3, .bool o4, .bool o5], .agg (atc a)] W fun e w' => ∃ v, e = .returned (.tuple #[v, .bool true]) ∧ BSl w' L v ∧ Below W.heap.size W w') :
    Calls Tryz.prog 21 #[.agg #[.bool o0, .bool o1, .bool o2, .bool o3, .bool o4, .bool o5], .agg (atc a)] w fun e w' => ∃ v, e = .returned (.tuple #[v, .bool true]) ∧ BSl w' (form13 a.k a.p L) v ∧ Below w.heap.size w w' := by
  have b1 := bl_alloc (bl_alloc (bl_refl w) (.cells #[.bool o0, .bool o1, .bool o2, .bool o3, .bool o4, .bool o5] 23)) (.cells (atc a) 37)
  have oo := (Own.new w 23 #[.bool o0, .bool o1, .bool o2, .bool o3, .bool o4, .bool o5]).alloc (.cells (atc a) 37)
  have oa := Own.new (w.alloc (.cells #[.bool o0, .bool o1, .bool o2, .bool o3, .bool o4, .bool o5] 23)) 37 (atc a)
  rw [show (w.alloc (.cells #[.bool o0, .bool o1, .bool o2, .bool o3, .bool o4, .bool o5] 23)).heap.size = w.heap.size + 1 by simp] at oa
  have HV := Lib.hid hv
  have hC := Lib.hid (fun W => canon_any a.k a.p (L.length : Int) W hk)
  rw [canH_yes hcan] at hC
  have hcb := canF_bytes hcan
  have hF := Lib.hid (fun W => fbytes_yes (canF a.k a.p L.length) a.k L.length W hcb.1)
  have hFl := Lib.hid hcb.2
  have hX : Hid (form13 a.k a.p L = fForm (canF a.k a.p L.length) a.k L.length ++ L) := Lib.hid rfl
  have HFb := Lib.hid (fForm_bytes hcb.1)
  clear hv
  generalize form13 a.k a.p L = Z at *
  generalize canF a.k a.p L.length = FF at *
  generalize fForm FF a.k L.length = G at *
  obtain ⟨k, p, N, M, A1, n1, c1, A2, n2, c2, A3, n3, c3, f, A4, n4, c4⟩ := a
  unfold atc at *
  dsimp only at *
  clear hk hcan hcb
  go_enter Tryz.func21, Tryz.ntmps21
  go_wp2_with (first | (refine wpList_load_row rfl 23 _ rfl w.heap.size rfl 23 #[.bool o0, .bool o1, .bool o2, .bool o3, .bool o4, .bool o5] (0, 0) (.struct (Tryz.prog.fieldsOf 23)) oo (by kernel_rfl) rfl (by kernel_rfl) ?_) | (refine wpList_load_row rfl 37 _ rfl (w.heap.size + 1) rfl 37 #[.int .i64 k, .bool p, .int .u32 N, .int .u32 M, .slice A1 n1 c1, .slice A2 n2 c2, .slice A3 n3 c3, .int .i64 f, .slice A4 n4 c4] (0, 0) (.struct (Tryz.prog.fieldsOf 37)) oa (by kernel_rfl) rfl (by kernel_rfl) ?_))
  refine (HV.out _ b1).mono ?_
  rintro e w1 ⟨v, rfl, ⟨A5, n5, c5, rfl, hc5, hB5⟩, hb1⟩
  have hn5 : n5 = L.length := hB5.1
  subst hn5
  have oa1 := oa.step hb1
  have b2 := bl_trans b1 hb1
  obtain ⟨e0, e1, _⟩ := at_cells oa1
  have hB5' := Lib.hid hB5
  clear oo oa b1 hb1 HV hB5
  go_wp2_with fail
  refine (hC.out _).mono ?_
  rintro e w2 ⟨rfl, hb2⟩
  have hba := bl_alloc hb2 (.cells #[.int .i64 FF, .int .i64 k, .int .i64 (L.length : Int)] 42)
  have b3 := bl_trans b2 hba
  have hB6 := Lib.hid ((hB5'.out.below hba).more hba.size)
  clear e0 e1 oa1 b2 hb2 hba hB5'
  go_wp2_with fail
  refine (hF.out _).mono ?_
  rintro e w3 ⟨g, rfl, hg, og, hb3⟩
  have b4 := bl_trans b3 hb3
  have hB7 := Lib.hid ((hB6.out.below hb3).more hb3.size)
  have hb4 := bl_alloc (bl_refl w3) (.cells #[.slice (some ⟨g, 0, none⟩) G.length G.length, .slice A5 L.length c5] 25)
  have hp := Lib.hid (parts_two (Own.new w3 25 #[.slice (some ⟨g, 0, none⟩) G.length G.length, .slice A5 L.length c5]) (Bytes.of_owned (og.alloc (.cells #[.slice (some ⟨g, 0, none⟩) G.length G.length, .slice A5 L.length c5] 25)) HFb.out (og.alloc (.cells #[.slice (some ⟨g, 0, none⟩) G.length G.length, .slice A5 L.length c5] 25)).lt) ((hB7.out.below hb4).more hb4.size))
  have b5 := bl_alloc b4 (.cells #[.slice (some ⟨g, 0, none⟩) G.length G.length, .slice A5 L.length c5] 25)
  have hfl : flat [⟨some ⟨g, 0, none⟩, G.length, G.length, G⟩, ⟨A5, L.length, c5, L⟩] = G ++ L := by simp [flat]
  have hGl : G.length ≤ 4 := by have := hFl.out; split at this <;> omega
  clear b3 b4 hb3 hB6 hB7 hb4 og
  go_wp2_with fail
  refine (cat_own (c := 2) hp.out (by omega) (by rw [hfl, List.length_append]; omega)).mono ?_
  rw [hfl]
  rintro e w5 ⟨rfl, ho2, hb6⟩
  have b7 := bl_trans b5 hb6
  go_wp2
  go_ret2
  refine ⟨_, rfl, ⟨_, _, _, rfl, Nat.le_refl _, ?_⟩, b7⟩
  rw [hX.out]
  rw [← List.length_append, show w3.heap.size + 1 = (w3.alloc (.cells #[.slice (some ⟨g, 0, none⟩) G.length G.length, .slice A5 L.length c5] 25)).heap.size by simp]
  exact Bytes.of_owned ho2 (fun x hx => by rcases List.mem_append.1 hx with h | h; exact HFb.out x h; exact hLb x h) ho2.lt
end Go.Proofs.YtmcnpkfeipelgaaGreatDoor

/- value.paths: bytes, text; value.Text (written by gen/vlg.py) -/
namespace Go.Proofs.YtmcnpkfeipelgaaGreatDoor
open Go.RowKit Go.Sort

set_option maxRecDepth 100000 in
set_option maxHeartbeats 3200000 in
theorem pthbytes_any (o0 o1 o2 o3 o4 o5 : Bool) (a : At) (ss : List Sg) (w : World) (hs : Segs w w.heap.size a.A1 a.n1 ss) (hn : a.n1 ≤ 1000) (hok : ss.all (sgOk (pthW o0 a.k)) = true) (hr : ∀ x ∈ sgsForm (pthW o0 a.k).toNat ss, 0 ≤ x ∧ x ≤ 255) :
    Calls Tryz.prog 257 #[.agg #[], .agg #[.bool o0, .bool o1, .bool o2, .bool o3, .bool o4, .bool o5], .agg (atc a)] w fun e w' => ∃ v, e = .returned v ∧ BSl w' (sgsForm (pthW o0 a.k).toNat ss) v ∧ Below w.heap.size w w' := by
  have b1 := bl_alloc (bl_alloc (bl_alloc (bl_refl w) (.cells #[] 123)) (.cells #[.bool o0, .bool o1, .bool o2, .bool o3, .bool o4, .bool o5] 23)) (.cells (atc a) 37)
  have op := ((Own.new w 123 #[]).alloc (.cells #[.bool o0, .bool o1, .bool o2, .bool o3, .bool o4, .bool o5] 23)).alloc (.cells (atc a) 37)
  have oo := (Own.new (w.alloc (.cells #[] 123)) 23 #[.bool o0, .bool o1, .bool o2, .bool o3, .bool o4, .bool o5]).alloc (.cells (atc a) 37)
  have oa := Own.new ((w.alloc (.cells #[] 123)).alloc (.cells #[.bool o0, .bool o1, .bool o2, .bool o3, .bool o4, .bool o5] 23)) 37 (atc a)
  rw [show (w.alloc (.cells #[] 123)).heap.size = w.heap.size + 1 by simp] at oo
  rw [show ((w.alloc (.cells #[] 123)).alloc (.cells #[.bool o0, .bool o1, .bool o2, .bool o3, .bool o4, .bool o5] 23)).heap.size = w.heap.size + 1 + 1 by simp] at oa
  have hW := Lib.hid (fun W => pwidth_any o0 o1 o2 o3 o4 o5 a.k W)
  have hB := Lib.hid (fun W (h : Below w.heap.size w W) => sbytes_yes (pthW o0 a.k) (pthW_ok o0 a.k) a.A1 a.n1 a.c1 ss W ((hs.below h).more h.size) hn hok)
  have hR := Lib.hid hr
  generalize sgsForm (pthW o0 a.k).toNat ss = L at *
  generalize pthW o0 a.k = V at *
  obtain ⟨k, p, N, M, A1, n1, c1, A2, n2, c2, A3, n3, c3, f, A4, n4, c4⟩ := a
  unfold atc at *
  dsimp only at *
  clear hs hok hr
  go_enter Tryz.func257, Tryz.ntmps257
  go_wp2_with fail
  generalize hw1 : (((w.alloc (.cells #[] 123)).alloc (.cells #[.bool o0, .bool o1, .bool o2, .bool o3, .bool o4, .bool o5] 23)).alloc (.cells #[.int .i64 k, .bool p, .int .u32 N, .int .u32 M, .slice A1 n1 c1, .slice A2 n2 c2, .slice A3 n3 c3, .int .i64 f, .slice A4 n4 c4] 37)) = w1 at *
  clear hw1
  refine wp_region_held_drew (S := (fun W => Below w.heap.size w W ∧ Own W w.heap.size 123 #[] ∧ Own W (w.heap.size + 1) 23 #[.bool o0, .bool o1, .bool o2, .bool o3, .bool o4, .bool o5] ∧ Own W (w.heap.size + 1 + 1) 37 #[.int .i64 k, .bool p, .int .u32 N, .int .u32 M, .slice A1 n1 c1, .slice A2 n2 c2, .slice A3 n3 c3, .int .i64 f, .slice A4 n4 c4])) (by kernel_rfl) ⟨bl_drewN b1 1, op.drew, oo.drew, oa.drew⟩ (fun hHeld => ?_)
  have c0 : (fun W => Below w.heap.size w W ∧ Own W w.heap.size 123 #[] ∧ Own W (w.heap.size + 1) 23 #[.bool o0, .bool o1, .bool o2, .bool o3, .bool o4, .bool o5] ∧ Own W (w.heap.size + 1 + 1) 37 #[.int .i64 k, .bool p, .int .u32 N, .int .u32 M, .slice A1 n1 c1, .slice A2 n2 c2, .slice A3 n3 c3, .int .i64 f, .slice A4 n4 c4]) w1.drew := ⟨bl_drewN b1 1, op.drew, oo.drew, oa.drew⟩
  obtain ⟨b3, op3, oo3, oa3⟩ := c0
  generalize w1.drew = w3 at *
  clear op oo oa b1
  refine wpAnyH_take (i := 0) (v := ?_) rfl (by kernel_rfl) (by kernel_rfl) (by kernel_rfl) (fun _ _ _ h => h) (Or.inl ⟨by rfl, ?_⟩) (by assumption) ?_
  rotate_left
  · (intro W hSw; obtain ⟨_, hSp, hSo, hSa⟩ := hSw; obtain ⟨e0, e1, e2, e3, e4, e5, e6, e7, e8⟩ := at_cells hSa; obtain ⟨p0, p1, p2, p3, p4, p5⟩ := op_cells hSo; go_simp; try with_reducible rfl)
  simp only [Act.put, List.getElem_toArray, List.getElem_cons_zero, List.setIfInBounds_toArray, List.set_cons_zero, List.set_cons_succ]
  refine wpAnyH_take (i := 1) (v := ?_) rfl (by kernel_rfl) (by kernel_rfl) (by kernel_rfl) (fun _ _ _ h => h) (Or.inl ⟨by rfl, ?_⟩) (by assumption) ?_
  rotate_left
  · (intro W hSw; obtain ⟨_, hSp, hSo, hSa⟩ := hSw; obtain ⟨e0, e1, e2, e3, e4, e5, e6, e7, e8⟩ := at_cells hSa; obtain ⟨p0, p1, p2, p3, p4, p5⟩ := op_cells hSo; go_simp; try with_reducible rfl)
  simp only [Act.put, List.getElem_toArray, List.getElem_cons_zero, List.getElem_cons_succ, List.setIfInBounds_toArray, List.set_cons_zero, List.set_cons_succ]
  refine wpAnyH_take (i := 2) (v := ?_) rfl (by kernel_rfl) (by kernel_rfl) (by kernel_rfl) (fun _ _ _ h => h) (Or.inl ⟨by rfl, ?_⟩) (by assumption) ?_
  rotate_left
  · (intro W hSw; obtain ⟨_, hSp, hSo, hSa⟩ := hSw; obtain ⟨e0, e1, e2, e3, e4, e5, e6, e7, e8⟩ := at_cells hSa; obtain ⟨p0, p1, p2, p3, p4, p5⟩ := op_cells hSo; go_simp; try with_reducible rfl)
  simp only [Act.put, List.getElem_toArray, List.getElem_cons_zero, List.getElem_cons_succ, List.setIfInBounds_toArray, List.set_cons_zero, List.set_cons_succ]
  refine wpAnyH_take (i := 3) (v := ?_) rfl (by kernel_rfl) (by kernel_rfl) (by kernel_rfl) (fun _ _ _ h => h) (Or.inl ⟨by rfl, ?_⟩) (by assumption) ?_
  rotate_left
  · (intro W hSw; obtain ⟨_, hSp, hSo, hSa⟩ := hSw; obtain ⟨e0, e1, e2, e3, e4, e5, e6, e7, e8⟩ := at_cells hSa; obtain ⟨p0, p1, p2, p3, p4, p5⟩ := op_cells hSo; go_simp; try with_reducible rfl)
  simp only [Act.put, List.getElem_toArray, List.getElem_cons_zero, List.getElem_cons_succ, List.setIfInBounds_toArray, List.set_cons_zero, List.set_cons_succ]
  refine wpAnyH_take (i := 5) (v := ?_) rfl (by kernel_rfl) (by kernel_rfl) (by kernel_rfl) (fun _ _ _ h => h) (Or.inl ⟨by rfl, ?_⟩) (by assumption) ?_
  rotate_left
  · (intro W hSw; obtain ⟨_, hSp, hSo, hSa⟩ := hSw; obtain ⟨e0, e1, e2, e3, e4, e5, e6, e7, e8⟩ := at_cells hSa; obtain ⟨p0, p1, p2, p3, p4, p5⟩ := op_cells hSo; go_simp; try with_reducible rfl)
  simp only [Act.put, List.getElem_toArray, List.getElem_cons_zero, List.getElem_cons_succ, List.setIfInBounds_toArray, List.set_cons_zero, List.set_cons_succ]
  refine wpAnyH_take (i := 6) (v := ?_) rfl (by kernel_rfl) (by kernel_rfl) (by kernel_rfl) (fun _ _ _ h => h) (Or.inl ⟨by rfl, ?_⟩) (by assumption) ?_
  rotate_left
  · (intro W hSw; obtain ⟨_, hSp, hSo, hSa⟩ := hSw; obtain ⟨e0, e1, e2, e3, e4, e5, e6, e7, e8⟩ := at_cells hSa; obtain ⟨p0, p1, p2, p3, p4, p5⟩ := op_cells hSo; go_simp; try with_reducible rfl)
  simp only [Act.put, List.getElem_toArray, List.getElem_cons_zero, List.getElem_cons_succ, List.setIfInBounds_toArray, List.set_cons_zero, List.set_cons_succ]
  refine wpAnyH_ready (rs := [4]) (by kernel_rfl) (by simp) ?_
  refine (AllReadyH.cons rfl (fun K hK => ?_) AllReadyH.nil)
  go_simp
  go_at_call 262
  refine (hW.out _).mono ?_
  rintro e w4 ⟨rfl, hb4⟩
  have b4 := bl_trans b3 hb4
  have op4 := op3.step hb4
  have oo4 := oo3.step hb4
  have oa4 := oa3.step hb4
  refine hK.out _ _ ⟨b4, op4, oo4, oa4⟩ (fun hHeld2 => ?_)
  clear hK K hHeld
  have hHeld := hHeld2
  clear hHeld2
  try simp only [Act.put, List.getElem_toArray, List.getElem_cons_zero, List.getElem_cons_succ, List.setIfInBounds_toArray, List.set_cons_zero, List.set_cons_succ]
  refine wpAnyH_ready (rs := [7]) (by kernel_rfl) (by simp) ?_
  refine (AllReadyH.cons rfl (fun K hK => ?_) AllReadyH.nil)
  go_simp
  go_at_call 261
  refine (hB.out _ b4).mono ?_
  rintro e w5 ⟨g, rfl, hg5, og5, hb5⟩
  have b5 := bl_trans b4 hb5
  have op5 := op4.step hb5
  have oo5 := oo4.step hb5
  have oa5 := oa4.step hb5
  refine hK.out _ _ ⟨b5, op5, oo5, oa5⟩ (fun hHeld2 => ?_)
  clear hK K hHeld
  have hHeld := hHeld2
  clear hHeld2
  try simp only [Act.put, List.getElem_toArray, List.getElem_cons_zero, List.getElem_cons_succ, List.setIfInBounds_toArray, List.set_cons_zero, List.set_cons_succ]
  refine wpAnyH_take (i := 8) (v := ?_) rfl (by kernel_rfl) (by kernel_rfl) (by kernel_rfl) (fun _ _ _ h => h) (Or.inl ⟨by rfl, ?_⟩) (by assumption) ?_
  rotate_left
  · (intro W hSw; obtain ⟨_, hSp, hSo, hSa⟩ := hSw; obtain ⟨e0, e1, e2, e3, e4, e5, e6, e7, e8⟩ := at_cells hSa; obtain ⟨p0, p1, p2, p3, p4, p5⟩ := op_cells hSo; go_simp; try with_reducible rfl)
  simp only [Act.put, List.getElem_toArray, List.getElem_cons_zero, List.getElem_cons_succ, List.setIfInBounds_toArray, List.set_cons_zero, List.set_cons_succ]
  refine wpAnyH_take (i := 9) (v := ?_) rfl (by kernel_rfl) (by kernel_rfl) (by kernel_rfl) (fun _ _ _ h => h) (Or.inl ⟨by rfl, ?_⟩) (by assumption) ?_
  rotate_left
  · (intro W hSw; obtain ⟨_, hSp, hSo, hSa⟩ := hSw; obtain ⟨e0, e1, e2, e3, e4, e5, e6, e7, e8⟩ := at_cells hSa; obtain ⟨p0, p1, p2, p3, p4, p5⟩ := op_cells hSo; go_simp; try with_reducible rfl)
  simp only [Act.put, List.getElem_toArray, List.getElem_cons_zero, List.getElem_cons_succ, List.setIfInBounds_toArray, List.set_cons_zero, List.set_cons_succ]
  refine wpAnyH_take (i := 10) (v := ?_) rfl (by kernel_rfl) (by kernel_rfl) (by kernel_rfl) (fun _ _ _ h => h) (Or.inl ⟨by rfl, ?_⟩) (by assumption) ?_
  rotate_left
  · (intro W hSw; obtain ⟨_, hSp, hSo, hSa⟩ := hSw; obtain ⟨e0, e1, e2, e3, e4, e5, e6, e7, e8⟩ := at_cells hSa; obtain ⟨p0, p1, p2, p3, p4, p5⟩ := op_cells hSo; go_simp; try with_reducible rfl)
  simp only [Act.put, List.getElem_toArray, List.getElem_cons_zero, List.getElem_cons_succ, List.setIfInBounds_toArray, List.set_cons_zero, List.set_cons_succ]
  refine wpAnyH_take (i := 11) (v := ?_) rfl (by kernel_rfl) (by kernel_rfl) (by kernel_rfl) (fun _ _ _ h => h) (Or.inl ⟨by rfl, ?_⟩) (by assumption) ?_
  rotate_left
  · (intro W hSw; obtain ⟨_, hSp, hSo, hSa⟩ := hSw; obtain ⟨e0, e1, e2, e3, e4, e5, e6, e7, e8⟩ := at_cells hSa; obtain ⟨p0, p1, p2, p3, p4, p5⟩ := op_cells hSo; go_simp; try with_reducible rfl)
  simp only [Act.put, List.getElem_toArray, List.getElem_cons_zero, List.getElem_cons_succ, List.setIfInBounds_toArray, List.set_cons_zero, List.set_cons_succ]
  refine wpAnyH_take (i := 12) (v := ?_) rfl (by kernel_rfl) (by kernel_rfl) (by kernel_rfl) (fun _ _ _ h => h) (Or.inl ⟨by rfl, ?_⟩) (by assumption) ?_
  rotate_left
  · (intro W hSw; obtain ⟨_, hSp, hSo, hSa⟩ := hSw; obtain ⟨e0, e1, e2, e3, e4, e5, e6, e7, e8⟩ := at_cells hSa; obtain ⟨p0, p1, p2, p3, p4, p5⟩ := op_cells hSo; go_simp; try with_reducible rfl)
  simp only [Act.put, List.getElem_toArray, List.getElem_cons_zero, List.getElem_cons_succ, List.setIfInBounds_toArray, List.set_cons_zero, List.set_cons_succ]
  refine wpAnyH_done (by kernel_rfl) ?_ _
  clear op3 oo3 oa3 op4 oo4 oa4 op5 oo5 oa5
  go_wp2
  go_ret
  exact ⟨_, rfl, ⟨_, _, _, rfl, Nat.le_refl _, Bytes.of_owned og5 hR.out og5.lt⟩, b5⟩
def pthTx (k : Int) (n : Nat) (T : ByteArray) : ByteArray := (if k = 17 then ⟨#[112, 97, 116, 104, 52]⟩ else ⟨#[112, 97, 116, 104]⟩) ++ (if n = 0 then ⟨#[]⟩ else ⟨#[32]⟩ ++ T)
set_option maxRecDepth 100000 in
theorem pthtext_nil (a : At) (w : World) (hn : a.n1 = 0) :
    Calls Tryz.prog 259 #[.agg #[], .agg (atc a)] w fun e w' => e = .returned (.string (pthTx a.k 0 ⟨#[]⟩)) ∧ Below w.heap.size w w' := by
  have b1 := bl_alloc (bl_alloc (bl_refl w) (.cells #[] 123)) (.cells (atc a) 37)
  have oa := Own.new (w.alloc (.cells #[] 123)) 37 (atc a)
  rw [show (w.alloc (.cells #[] 123)).heap.size = w.heap.size + 1 by simp] at oa
  obtain ⟨k, p, N, M, A1, n1, c1, A2, n2, c2, A3, n3, c3, f, A4, n4, c4⟩ := a
  unfold atc at *
  dsimp only at *
  subst hn
  by_cases h : k = 17
  · subst h
    obtain ⟨e0, e1, e2, e3, e4, _⟩ := at_cells oa
    go_enter Tryz.func259, Tryz.ntmps259
    go_wp2
    go_ret
    exact ⟨rfl, b1⟩
  · have hq : (k == 17) = false := by simpa using h
    have hX : pthTx k 0 ⟨#[]⟩ = ⟨#[112, 97, 116, 104]⟩ := by unfold pthTx; rw [if_neg h]; rfl
    rw [hX]
    clear h hX
    obtain ⟨e0, e1, e2, e3, e4, _⟩ := at_cells oa
    go_enter Tryz.func259, Tryz.ntmps259
    go_wp2
    go_ret
    exact ⟨rfl, b1⟩
end Go.Proofs.YtmcnpkfeipelgaaGreatDoor

/- value.Text over a chapter; alive of layer 13 (written by gen/vlh.py) -/
namespace Go.Proofs.YtmcnpkfeipelgaaGreatDoor
open Go.RowKit Go.Sort

set_option maxRecDepth 100000 in
theorem text13_no (o0 o1 o2 o3 o4 o5 : Bool) (a : At) (w : World) (hv : ∀ W, Below w.heap.size w W → Calls Tryz.prog 23 #[.agg #[.bool o0, .bool o1, .bool o2, .bool o3, .bool o4, .bool o5], .agg (atc a)] W fun e w' => e = .returned (.bool false) ∧ Below W.heap.size W w') :
    Calls Tryz.prog 26 #[.agg #[.bool o0, .bool o1, .bool o2, .bool o3, .bool o4, .bool o5], .agg (atc a)] w fun e w' => e = .returned (.string ⟨#[]⟩) ∧ Below w.heap.size w w' := by
  have b1 := bl_alloc (bl_alloc (bl_refl w) (.cells #[.bool o0, .bool o1, .bool o2, .bool o3, .bool o4, .bool o5] 23)) (.cells (atc a) 37)
  have oo := (Own.new w 23 #[.bool o0, .bool o1, .bool o2, .bool o3, .bool o4, .bool o5]).alloc (.cells (atc a) 37)
  have oa := Own.new (w.alloc (.cells #[.bool o0, .bool o1, .bool o2, .bool o3, .bool o4, .bool o5] 23)) 37 (atc a)
  rw [show (w.alloc (.cells #[.bool o0, .bool o1, .bool o2, .bool o3, .bool o4, .bool o5] 23)).heap.size = w.heap.size + 1 by simp] at oa
  have HV := Lib.hid hv
  clear hv
  obtain ⟨k, p, N, M, A1, n1, c1, A2, n2, c2, A3, n3, c3, f, A4, n4, c4⟩ := a
  unfold atc at *
  dsimp only at *
  go_enter Tryz.func26, Tryz.ntmps26
  go_wp2_with (first | (refine wpList_load_row rfl 23 _ rfl w.heap.size rfl 23 #[.bool o0, .bool o1, .bool o2, .bool o3, .bool o4, .bool o5] (0, 0) (.struct (Tryz.prog.fieldsOf 23)) oo (by kernel_rfl) rfl (by kernel_rfl) ?_) | (refine wpList_load_row rfl 37 _ rfl (w.heap.size + 1) rfl 37 #[.int .i64 k, .bool p, .int .u32 N, .int .u32 M, .slice A1 n1 c1, .slice A2 n2 c2, .slice A3 n3 c3, .int .i64 f, .slice A4 n4 c4] (0, 0) (.struct (Tryz.prog.fieldsOf 37)) oa (by kernel_rfl) rfl (by kernel_rfl) ?_))
  refine (HV.out _ b1).mono ?_
  rintro e w1 ⟨rfl, hb1⟩
  go_wp2
  go_ret
  exact ⟨rfl, bl_trans b1 hb1⟩
set_option maxRecDepth 100000 in
set_option maxHeartbeats 3200000 in
theorem text13_paths (o0 o1 o2 o3 o4 o5 : Bool) (a : At) (S : ByteArray) (w : World) (hk : (Lit.int .i64 a.k).wf = true) (hT : hndT a.k = 123)
    (hv : ∀ W, Below w.heap.size w W → Calls Tryz.prog 23 #[.agg #[.bool o0, .bool o1, .bool o2, .bool o3, .bool o4, .bool o5], .agg (atc a)] W fun e w' => e = .returned (.bool true) ∧ Below W.heap.size W w')
    (hc : ∀ W, Below w.heap.size w W → Calls Tryz.prog 259 #[.agg #[], .agg (atc a)] W fun e w' => e = .returned (.string S) ∧ Below W.heap.size W w') :
    Calls Tryz.prog 26 #[.agg #[.bool o0, .bool o1, .bool o2, .bool o3, .bool o4, .bool o5], .agg (atc a)] w fun e w' => e = .returned (.string S) ∧ Below w.heap.size w w' := by
  have b1 := bl_alloc (bl_alloc (bl_refl w) (.cells #[.bool o0, .bool o1, .bool o2, .bool o3, .bool o4, .bool o5] 23)) (.cells (atc a) 37)
  have oo := (Own.new w 23 #[.bool o0, .bool o1, .bool o2, .bool o3, .bool o4, .bool o5]).alloc (.cells (atc a) 37)
  have oa := Own.new (w.alloc (.cells #[.bool o0, .bool o1, .bool o2, .bool o3, .bool o4, .bool o5] 23)) 37 (atc a)
  rw [show (w.alloc (.cells #[.bool o0, .bool o1, .bool o2, .bool o3, .bool o4, .bool o5] 23)).heap.size = w.heap.size + 1 by simp] at oa
  have HV := Lib.hid hv
  have HC := Lib.hid hc
  have hH := Lib.hid (fun W => handler_any a.k W hk)
  rw [hT] at hH
  have hm : ∀ w, (method 349 123 (.agg #[]) "peerage/value.text").run Tryz.prog w = .ok (259, .agg #[]) w := fun _ => by kernel_rfl
  clear hv hc
  obtain ⟨k, p, N, M, A1, n1, c1, A2, n2, c2, A3, n3, c3, f, A4, n4, c4⟩ := a
  unfold atc at *
  dsimp only at *
  clear hk hT
  go_enter Tryz.func26, Tryz.ntmps26
  go_wp2_with (first | (refine wpList_load_row rfl 23 _ rfl w.heap.size rfl 23 #[.bool o0, .bool o1, .bool o2, .bool o3, .bool o4, .bool o5] (0, 0) (.struct (Tryz.prog.fieldsOf 23)) oo (by kernel_rfl) rfl (by kernel_rfl) ?_) | (refine wpList_load_row rfl 37 _ rfl (w.heap.size + 1) rfl 37 #[.int .i64 k, .bool p, .int .u32 N, .int .u32 M, .slice A1 n1 c1, .slice A2 n2 c2, .slice A3 n3 c3, .int .i64 f, .slice A4 n4 c4] (0, 0) (.struct (Tryz.prog.fieldsOf 37)) oa (by kernel_rfl) rfl (by kernel_rfl) ?_))
  refine (HV.out _ b1).mono ?_
  rintro e w1 ⟨rfl, hb1⟩
  have oa1 := oa.step hb1
  have b2 := bl_trans b1 hb1
  obtain ⟨e0, e1, _⟩ := at_cells oa1
  clear oo oa b1 hb1 HV
  have hH3 := Lib.hid (rg_of (w := w1) (fun W _ => hH.out W))
  have hC3 := Lib.hid (rg_of (w := w1) (fun W hW => HC.out W (bl_trans b2 hW)))
  have q0 := cell_regrown e0
  go_wp2_with fail
  refine wp_region_quiet_below (by kernel_rfl) (by kernel_rfl) ?_
  repeat (first
    | go_big_quiet_skip
    | (refine wpQuiet_load_row (by rfl) 37 _ rfl (w.heap.size + 1) rfl 37 #[.int .i64 k, .bool p, .int .u32 N, .int .u32 M, .slice A1 n1 c1, .slice A2 n2 c2, .slice A3 n3 c3, .int .i64 f, .slice A4 n4 c4] (.struct (Tryz.prog.fieldsOf 37)) oa1.rg (by kernel_rfl) rfl (by kernel_rfl) ?_; go_simp)
    | go_big_quiet_step (with_reducible first | exact hH3.out _ _ | exact hC3.out _ _))
  refine wpQuiet_nil ?_
  first | rintro w' ⟨⟨dq, osq⟩, rfl⟩ | rintro ⟨dq, osq⟩
  have hgw := below_regrown w1 dq osq
  have b3 := bl_trans b2 hgw
  generalize grow (redrawn w1 dq) osq = w3 at *
  clear hH3 hC3 q0 e0 e1
  go_wp2
  go_ret
  exact ⟨rfl, b3⟩
def exA13 : At := ⟨2, false, 0, 0, none, 0, 0, none, 0, 0, none, 0, 0, 0, none, 0, 0⟩
theorem segs_nilV (w : World) (B : Nat) : Segs w B none 0 [] := ⟨rfl, by simp, .inl rfl⟩
theorem exV13 : clsOk 2 false = true ∧ pthV false exA13 [] = true ∧ hndT 2 = 123 ∧ canOk 2 false 0 = true ∧ form13 2 false [] = [64, 2, 0] := by refine ⟨by decide +kernel, by decide +kernel, by decide +kernel, by decide +kernel, by decide +kernel⟩
set_option maxRecDepth 100000 in
theorem exvalid13 (w : World) : Calls Tryz.prog 23 #[.agg #[.bool false, .bool false, .bool false, .bool false, .bool false, .bool false], .agg (atc exA13)] w fun e w' => e = .returned (.bool true) ∧ Below w.heap.size w w' := by
  have h := valid13_paths false false false false false false exA13 w (by decide) exV13.2.2.1 true (fun W _ => by
    have := pthvalid_any false false false false false false exA13 [] W (segs_nilV W _) (by decide)
    rw [exV13.2.1] at this
    exact this)
  rw [show exA13.k = 2 from rfl, show exA13.p = false from rfl, exV13.1] at h
  exact h
set_option maxRecDepth 100000 in
theorem exform13 (w : World) : Calls Tryz.prog 21 #[.agg #[.bool false, .bool false, .bool false, .bool false, .bool false, .bool false], .agg (atc exA13)] w fun e w' => ∃ v, e = .returned (.tuple #[v, .bool true]) ∧ BSl w' [64, 2, 0] v ∧ Below w.heap.size w w' := by
  have h := form13_yes false false false false false false exA13 [] w (by decide) (by decide) exV13.2.2.2.1 (by simp) (fun W _ =>
    bytes13_paths false false false false false false exA13 [] W (by decide) exV13.2.2.1 (by decide) (fun W2 _ => exvalid13 W2) (fun W2 _ =>
      pthbytes_any false false false false false false exA13 [] W2 (segs_nilV W2 _) (by decide) (by rfl) (by decide)))
  rw [show exA13.k = 2 from rfl, show exA13.p = false from rfl, exV13.2.2.2.2] at h
  exact h
set_option maxRecDepth 100000 in
theorem extext13 (w : World) : Calls Tryz.prog 26 #[.agg #[.bool false, .bool false, .bool false, .bool false, .bool false, .bool false], .agg (atc exA13)] w fun e w' => e = .returned (.string ⟨#[112, 97, 116, 104]⟩) ∧ Below w.heap.size w w' :=
  text13_paths false false false false false false exA13 _ w (by decide) exV13.2.2.1 (fun W _ => exvalid13 W) (fun W _ => pthtext_nil exA13 W rfl)
end Go.Proofs.YtmcnpkfeipelgaaGreatDoor

/- alive of layer 13 -/
namespace Go.Proofs.YtmcnpkfeipelgaaGreatDoor
open Go.RowKit Go.Sort

set_option maxRecDepth 100000 in
set_option maxHeartbeats 3200000 in
theorem alive13_any (w : World) : Calls Tryz.prog 11 #[] w fun e w' => e = .returned (.bool true) ∧ Below w.heap.size w w' := by
  have hF := Lib.hid (fun W => exform13 W)
  have hT := Lib.hid (fun W => extext13 W)
  have hA : atc exA13 = #[.int .i64 2, .bool false, .int .u32 0, .int .u32 0, .slice none 0 0, .slice none 0 0, .slice none 0 0, .int .i64 0, .slice none 0 0] := rfl
  rw [hA] at hF hT
  clear hA
  have b1 := bl_alloc (bl_refl w) (.cells #[.int .i64 2, .bool false, .int .u32 0, .int .u32 0, .slice none 0 0, .slice none 0 0, .slice none 0 0, .int .i64 0, .slice none 0 0] 37)
  have oa := Own.new w 37 #[.int .i64 2, .bool false, .int .u32 0, .int .u32 0, .slice none 0 0, .slice none 0 0, .slice none 0 0, .int .i64 0, .slice none 0 0]
  go_enter Tryz.func11, Tryz.ntmps11
  go_wp2_with fail
  refine (hF.out _).mono ?_
  rintro e w1 ⟨v, rfl, ⟨A5, n5, c5, rfl, hc5, hB5⟩, hb1⟩
  have hn5 : n5 = 3 := hB5.1
  subst hn5
  have oa1 := oa.step hb1
  have b2 := bl_trans b1 hb1
  clear oa b1 hb1
  obtain ⟨b5, o5, hA5, hbl, hcc⟩ : ∃ b o, A5 = some ⟨b, o, none⟩ ∧ b < w1.heap.size ∧ (∀ (i : Nat) (v : Value), ([.int .u8 64, .int .u8 2, .int .u8 0] : List Value)[i]? = some v → w1.cell? ⟨b, o + i, none⟩ = some v) := by
    rcases hB5.2.2 with h | ⟨b, o, h1, h2, h3⟩
    · cases h
    · exact ⟨b, o, h1, h2, fun i v hv => h3 i v hv⟩
  subst hA5
  have e0 : w1.cell? ⟨b5, o5, none⟩ = some (.int .u8 64) := hcc 0 _ rfl
  have e1 : w1.cell? ⟨b5, o5 + 1, none⟩ = some (.int .u8 2) := hcc 1 _ rfl
  have e2 : w1.cell? ⟨b5, o5 + 2, none⟩ = some (.int .u8 0) := hcc 2 _ rfl
  clear hB5 hcc
  obtain ⟨x0, x1, x2, x3, x4, x5, x6, x7, x8⟩ := at_cells oa1
  go_wp2_with fail
  refine (hT.out _).mono ?_
  rintro e w2 ⟨rfl, hb2⟩
  go_wp2
  go_ret
  exact ⟨by first | rfl | (apply ret_boolA; rfl), bl_trans b2 hb2⟩
end Go.Proofs.YtmcnpkfeipelgaaGreatDoor

/- value.Read at flags that are not right (written by gen/vlj.py) -/
namespace Go.Proofs.YtmcnpkfeipelgaaGreatDoor
open Go.RowKit Go.Sort

theorem results_twoV {P : Program} {fn : Func} {p q : Tmp} {ty ty2 : TypeId} (h : fn.results = #[.cell p ty, .cell q ty2]) (tmps : Array Value) (w : World) (g : Nat) (T : TypeId) (cs : Array Value) (d : TypeDesc) (g2 : Nat) (T2 : TypeId) (cs2 : Array Value) (d2 : TypeDesc)
    (hp : tmps.getD p undef = .pointer (some ⟨g, 0, none⟩)) (hg : Own w g T cs) (hu : P.underlying ty = some d) (hd : (match d with | .struct _ | .array _ _ => true | _ => false) = true) (hi : (P.info? ty).map (·.size) = some cs.size)
    (hp2 : tmps.getD q undef = .pointer (some ⟨g2, 0, none⟩)) (hg2 : Own w g2 T2 cs2) (hu2 : P.underlying ty2 = some d2) (hd2 : (match d2 with | .struct _ | .array _ _ => true | _ => false) = true) (hi2 : (P.info? ty2).map (·.size) = some cs2.size) :
    (results fn tmps).run P w = .ok (.tuple #[.agg cs, .agg cs2]) w := by
  have hp' : tmps[p]?.getD undef = .pointer (some ⟨g, 0, none⟩) := by simpa using hp
  have hp2' : tmps[q]?.getD undef = .pointer (some ⟨g2, 0, none⟩) := by simpa using hp2
  simp [results, h, hp', hp2', asAddr, run_loadVar_row w g T ty cs (0, 0) d hg hu hd hi, run_loadVar_row w g2 T2 ty2 cs2 (0, 0) d2 hg2 hu2 hd2 hi2]
set_option maxRecDepth 100000 in
theorem vdV_desc : Tryz.prog.underlying 39 = some (.struct (Tryz.prog.fieldsOf 39)) := by kernel_rfl
set_option maxRecDepth 100000 in
theorem vdV_info (a b c d e : Value) : (Tryz.prog.info? 39).map (·.size) = some (#[a, b, c, d, e] : Array Value).size := by kernel_rfl
theorem vdV_one (a b c d : Int) : (#[Value.int .i64 a, .int .i64 b, .int .i64 c, .slice none 0 0, .int .i64 d] : Array Value).all (·.oneCell') = true := by simp [Value.oneCell']
theorem own_rowO {w : World} {g k : Nat} {t : TypeId} {cs cs' : Array Value} (h : Own w g t cs) (hk : g ≠ k) : Own (w.setRow k cs') g t cs := h.keep (setRow_other w k g cs' hk)
theorem only_row {W w : World} {r : Option Nat} {k : Nat} {cs : Array Value} (h : W.grownBy w r) (hk : W.heap.size ≤ k) : W.grownBy (w.setRow k cs) r :=
  ⟨h.os, h.tape, h.output, by simpa using h.size, fun i hi hne => (setRow_other w k i cs (by omega)).trans (h.block i hi hne)⟩
theorem hndT_known {k : Int} (h : flagKnown k = true) : hndT k = 119 ∨ hndT k = 120 ∨ hndT k = 122 ∨ hndT k = 81 ∨ hndT k = 123 := by
  unfold hndT
  rw [h, if_neg (by decide)]
  split
  · simp
  · split
    · simp
    · split
      · simp
      · split <;> simp
set_option maxRecDepth 100000 in
set_option maxHeartbeats 3200000 in
theorem read13_bad (o0 o1 o2 o3 o4 o5 : Bool) (at_ f k n : Int) (g : Nat) (xs : List Int) (w : World) (hk : (Lit.int .i64 k).wf = true) (hkn : flagKnown k = true) (hr : rightB f k = false) (hR : Rdr w g xs 0) (hl : xs.length ≤ 65535) :
    Calls Tryz.prog 12 #[.agg #[.bool o0, .bool o1, .bool o2, .bool o3, .bool o4, .bool o5], .int .i64 at_, .agg #[.int .i64 f, .int .i64 k, .int .i64 n], .pointer (some ⟨g, 0, none⟩)] w fun e w' => e = .returned (.tuple #[.agg #[.int .i64 0, .bool false, .int .u32 0, .int .u32 0, .slice none 0 0, .slice none 0 0, .slice none 0 0, .int .i64 0, .slice none 0 0], .agg #[.int .i64 2, .int .i64 0, .int .i64 0, .slice none 0 0, .int .i64 at_]]) ∧ w.grownBy w' (some g) := by
  have hH := Lib.hid (fun W => handler_any k W hk)
  have hF := Lib.hid (fun W => right_any f k n W hk)
  have hT := hndT_known hkn
  rw [hr] at hF
  have HR := Lib.hid hR
  generalize hndT k = T at *
  clear hk hkn hr hR
  go_enter Tryz.func12, Tryz.ntmps12
  have b1 := bl_alloc (bl_alloc (bl_alloc (bl_alloc (bl_refl w) (.cells #[.bool o0, .bool o1, .bool o2, .bool o3, .bool o4, .bool o5] 23)) (.cells #[.int .i64 f, .int .i64 k, .int .i64 n] 42)) (.cells #[.int .i64 0, .bool false, .int .u32 0, .int .u32 0, .slice none 0 0, .slice none 0 0, .slice none 0 0, .int .i64 0, .slice none 0 0] 37)) (.cells #[.int .i64 0, .int .i64 0, .int .i64 0, .slice none 0 0, .int .i64 0] 39)
  have oh := ((Own.new (w.alloc (.cells #[.bool o0, .bool o1, .bool o2, .bool o3, .bool o4, .bool o5] 23)) 42 #[.int .i64 f, .int .i64 k, .int .i64 n]).alloc (.cells #[.int .i64 0, .bool false, .int .u32 0, .int .u32 0, .slice none 0 0, .slice none 0 0, .slice none 0 0, .int .i64 0, .slice none 0 0] 37)).alloc (.cells #[.int .i64 0, .int .i64 0, .int .i64 0, .slice none 0 0, .int .i64 0] 39)
  have oz := (Own.new ((w.alloc (.cells #[.bool o0, .bool o1, .bool o2, .bool o3, .bool o4, .bool o5] 23)).alloc (.cells #[.int .i64 f, .int .i64 k, .int .i64 n] 42)) 37 #[.int .i64 0, .bool false, .int .u32 0, .int .u32 0, .slice none 0 0, .slice none 0 0, .slice none 0 0, .int .i64 0, .slice none 0 0]).alloc (.cells #[.int .i64 0, .int .i64 0, .int .i64 0, .slice none 0 0, .int .i64 0] 39)
  have ov := Own.new (((w.alloc (.cells #[.bool o0, .bool o1, .bool o2, .bool o3, .bool o4, .bool o5] 23)).alloc (.cells #[.int .i64 f, .int .i64 k, .int .i64 n] 42)).alloc (.cells #[.int .i64 0, .bool false, .int .u32 0, .int .u32 0, .slice none 0 0, .slice none 0 0, .slice none 0 0, .int .i64 0, .slice none 0 0] 37)) 39 #[.int .i64 0, .int .i64 0, .int .i64 0, .slice none 0 0, .int .i64 0]
  rw [show (w.alloc (.cells #[.bool o0, .bool o1, .bool o2, .bool o3, .bool o4, .bool o5] 23)).heap.size = w.heap.size + 1 by simp] at oh
  rw [show ((w.alloc (.cells #[.bool o0, .bool o1, .bool o2, .bool o3, .bool o4, .bool o5] 23)).alloc (.cells #[.int .i64 f, .int .i64 k, .int .i64 n] 42)).heap.size = w.heap.size + 1 + 1 by simp] at oz
  rw [show (((w.alloc (.cells #[.bool o0, .bool o1, .bool o2, .bool o3, .bool o4, .bool o5] 23)).alloc (.cells #[.int .i64 f, .int .i64 k, .int .i64 n] 42)).alloc (.cells #[.int .i64 0, .bool false, .int .u32 0, .int .u32 0, .slice none 0 0, .slice none 0 0, .slice none 0 0, .int .i64 0, .slice none 0 0] 37)).heap.size = w.heap.size + 1 + 1 + 1 by simp] at ov
  have hgl := HR.out.lt
  have HR1 := Lib.hid (Rdr.below HR.out b1)
  go_wp2_with fail
  refine (hH.out _).mono ?_
  rintro e w1 ⟨rfl, hb1⟩
  have HR2 := Lib.hid (Rdr.below HR1.out hb1)
  have oh1 := oh.step hb1
  have oz1 := oz.step hb1
  have ov1 := ov.step hb1
  have b2 := bl_trans b1 hb1
  clear oh oz ov b1 hb1 HR1
  have h0 := oh1.cell (i := 1) (v := .int .i64 k) rfl
  go_wp2_with fail
  refine (left_any g xs 0 _ HR2.out).mono ?_
  rintro e w' ⟨rfl, rfl⟩
  have hxl : (0 : Int) ≤ (xs.length : Int) := Int.natCast_nonneg _
  go_wp2_with fail
  refine (part_yes g xs 0 (xs.length : Int) _ HR2.out (by omega) (by omega) hxl (Int.le_refl _)).mono ?_
  rintro e w2 ⟨j, rfl, hj, hRj, hRg, hg2⟩
  have oh2 := oh1.grown hg2 (by intro e; injection e with e; omega)
  have oz2 := oz1.grown hg2 (by intro e; injection e with e; omega)
  have ov2 := ov1.grown hg2 (by intro e; injection e with e; omega)
  have hgr := only_trans (only_of_below b2 (some g)) hg2
  clear oh1 oz1 ov1 h0 hRj hRg hg2 b2 HR2
  have hba := bl_alloc (bl_refl w2) (.cells #[] 77)
  replace oh2 := oh2.step hba
  replace oz2 := oz2.step hba
  replace ov2 := ov2.step hba
  have h0 := oh2.cell (i := 0) (v := .int .i64 f) rfl
  have h1 := oh2.cell (i := 1) (v := .int .i64 k) rfl
  have h2 := oh2.cell (i := 2) (v := .int .i64 n) rfl
  rcases hT with rfl | rfl | rfl | rfl | rfl
  · have hta : ∀ w, (Instr.typeAssert (.iface 119 (.agg #[])) 71 77 true).run Tryz.prog w = .ok (.tuple #[.agg #[], .bool false]) w := fun _ => by kernel_rfl
    go_wp2_with fail
    refine (hF.out _).mono ?_
    rintro e w3 ⟨rfl, hb3⟩
    have oz3 := oz2.step hb3
    have ov3 := (ov2.step hb3)
    have ov4 := own_rowO (cs' := #[.int .i64 0, .bool false, .int .u32 0, .int .u32 0, .slice none 0 0, .slice none 0 0, .slice none 0 0, .int .i64 0, .slice none 0 0]) ov3 (k := w.heap.size + 1 + 1) (by omega)
    have hgX := only_row (only_row (only_below hgr (bl_trans hba hb3)) (k := w.heap.size + 1 + 1) (cs := #[.int .i64 0, .bool false, .int .u32 0, .int .u32 0, .slice none 0 0, .slice none 0 0, .slice none 0 0, .int .i64 0, .slice none 0 0]) (by omega)) (k := w.heap.size + 1 + 1 + 1) (cs := #[.int .i64 2, .int .i64 0, .int .i64 0, .slice none 0 0, .int .i64 at_]) (by omega)
    have oz4 := own_rowO (cs' := #[.int .i64 2, .int .i64 0, .int .i64 0, .slice none 0 0, .int .i64 at_]) (oz3.setRow (cs' := #[.int .i64 0, .bool false, .int .u32 0, .int .u32 0, .slice none 0 0, .slice none 0 0, .slice none 0 0, .int .i64 0, .slice none 0 0])) (k := w.heap.size + 1 + 1 + 1) (by omega)
    clear oz2 ov2 hba hgr
    go_wp2_with (first | (refine wpList_store_row rfl 37 _ _ rfl (w.heap.size + 1 + 1) #[.int .i64 0, .bool false, .int .u32 0, .int .u32 0, .slice none 0 0, .slice none 0 0, .slice none 0 0, .int .i64 0, .slice none 0 0] rfl rfl 37 #[.int .i64 0, .bool false, .int .u32 0, .int .u32 0, .slice none 0 0, .slice none 0 0, .slice none 0 0, .int .i64 0, .slice none 0 0] oz3 (at_info9 _ _ _ _ _ _ _ _ _) rfl (ag_one _ _ _) ?_) | (refine wpList_store_row rfl 39 _ _ rfl (w.heap.size + 1 + 1 + 1) #[.int .i64 2, .int .i64 0, .int .i64 0, .slice none 0 0, .int .i64 at_] rfl rfl 39 #[.int .i64 0, .int .i64 0, .int .i64 0, .slice none 0 0, .int .i64 0] ov4 (vdV_info _ _ _ _ _) rfl (vdV_one _ _ _ _) ?_))
    exact bodyPost_ret (results_twoV (p := 8) (q := 9) (fn := Tryz.f12) rfl _ _ (w.heap.size + 1 + 1) 37 #[.int .i64 0, .bool false, .int .u32 0, .int .u32 0, .slice none 0 0, .slice none 0 0, .slice none 0 0, .int .i64 0, .slice none 0 0] _ (w.heap.size + 1 + 1 + 1) 39 #[.int .i64 2, .int .i64 0, .int .i64 0, .slice none 0 0, .int .i64 at_] _ rfl oz4 at_desc rfl (at_info9 _ _ _ _ _ _ _ _ _) rfl ov4.setRow vdV_desc rfl (vdV_info _ _ _ _ _)) rfl ⟨rfl, hgX⟩
  · have hta : ∀ w, (Instr.typeAssert (.iface 120 (.agg #[])) 71 77 true).run Tryz.prog w = .ok (.tuple #[.agg #[], .bool false]) w := fun _ => by kernel_rfl
    go_wp2_with fail
    refine (hF.out _).mono ?_
    rintro e w3 ⟨rfl, hb3⟩
    have oz3 := oz2.step hb3
    have ov3 := (ov2.step hb3)
    have ov4 := own_rowO (cs' := #[.int .i64 0, .bool false, .int .u32 0, .int .u32 0, .slice none 0 0, .slice none 0 0, .slice none 0 0, .int .i64 0, .slice none 0 0]) ov3 (k := w.heap.size + 1 + 1) (by omega)
    have hgX := only_row (only_row (only_below hgr (bl_trans hba hb3)) (k := w.heap.size + 1 + 1) (cs := #[.int .i64 0, .bool false, .int .u32 0, .int .u32 0, .slice none 0 0, .slice none 0 0, .slice none 0 0, .int .i64 0, .slice none 0 0]) (by omega)) (k := w.heap.size + 1 + 1 + 1) (cs := #[.int .i64 2, .int .i64 0, .int .i64 0, .slice none 0 0, .int .i64 at_]) (by omega)
    have oz4 := own_rowO (cs' := #[.int .i64 2, .int .i64 0, .int .i64 0, .slice none 0 0, .int .i64 at_]) (oz3.setRow (cs' := #[.int .i64 0, .bool false, .int .u32 0, .int .u32 0, .slice none 0 0, .slice none 0 0, .slice none 0 0, .int .i64 0, .slice none 0 0])) (k := w.heap.size + 1 + 1 + 1) (by omega)
    clear oz2 ov2 hba hgr
    go_wp2_with (first | (refine wpList_store_row rfl 37 _ _ rfl (w.heap.size + 1 + 1) #[.int .i64 0, .bool false, .int .u32 0, .int .u32 0, .slice none 0 0, .slice none 0 0, .slice none 0 0, .int .i64 0, .slice none 0 0] rfl rfl 37 #[.int .i64 0, .bool false, .int .u32 0, .int .u32 0, .slice none 0 0, .slice none 0 0, .slice none 0 0, .int .i64 0, .slice none 0 0] oz3 (at_info9 _ _ _ _ _ _ _ _ _) rfl (ag_one _ _ _) ?_) | (refine wpList_store_row rfl 39 _ _ rfl (w.heap.size + 1 + 1 + 1) #[.int .i64 2, .int .i64 0, .int .i64 0, .slice none 0 0, .int .i64 at_] rfl rfl 39 #[.int .i64 0, .int .i64 0, .int .i64 0, .slice none 0 0, .int .i64 0] ov4 (vdV_info _ _ _ _ _) rfl (vdV_one _ _ _ _) ?_))
    exact bodyPost_ret (results_twoV (p := 8) (q := 9) (fn := Tryz.f12) rfl _ _ (w.heap.size + 1 + 1) 37 #[.int .i64 0, .bool false, .int .u32 0, .int .u32 0, .slice none 0 0, .slice none 0 0, .slice none 0 0, .int .i64 0, .slice none 0 0] _ (w.heap.size + 1 + 1 + 1) 39 #[.int .i64 2, .int .i64 0, .int .i64 0, .slice none 0 0, .int .i64 at_] _ rfl oz4 at_desc rfl (at_info9 _ _ _ _ _ _ _ _ _) rfl ov4.setRow vdV_desc rfl (vdV_info _ _ _ _ _)) rfl ⟨rfl, hgX⟩
  · have hta : ∀ w, (Instr.typeAssert (.iface 122 (.agg #[])) 71 77 true).run Tryz.prog w = .ok (.tuple #[.agg #[], .bool false]) w := fun _ => by kernel_rfl
    go_wp2_with fail
    refine (hF.out _).mono ?_
    rintro e w3 ⟨rfl, hb3⟩
    have oz3 := oz2.step hb3
    have ov3 := (ov2.step hb3)
    have ov4 := own_rowO (cs' := #[.int .i64 0, .bool false, .int .u32 0, .int .u32 0, .slice none 0 0, .slice none 0 0, .slice none 0 0, .int .i64 0, .slice none 0 0]) ov3 (k := w.heap.size + 1 + 1) (by omega)
    have hgX := only_row (only_row (only_below hgr (bl_trans hba hb3)) (k := w.heap.size + 1 + 1) (cs := #[.int .i64 0, .bool false, .int .u32 0, .int .u32 0, .slice none 0 0, .slice none 0 0, .slice none 0 0, .int .i64 0, .slice none 0 0]) (by omega)) (k := w.heap.size + 1 + 1 + 1) (cs := #[.int .i64 2, .int .i64 0, .int .i64 0, .slice none 0 0, .int .i64 at_]) (by omega)
    have oz4 := own_rowO (cs' := #[.int .i64 2, .int .i64 0, .int .i64 0, .slice none 0 0, .int .i64 at_]) (oz3.setRow (cs' := #[.int .i64 0, .bool false, .int .u32 0, .int .u32 0, .slice none 0 0, .slice none 0 0, .slice none 0 0, .int .i64 0, .slice none 0 0])) (k := w.heap.size + 1 + 1 + 1) (by omega)
    clear oz2 ov2 hba hgr
    go_wp2_with (first | (refine wpList_store_row rfl 37 _ _ rfl (w.heap.size + 1 + 1) #[.int .i64 0, .bool false, .int .u32 0, .int .u32 0, .slice none 0 0, .slice none 0 0, .slice none 0 0, .int .i64 0, .slice none 0 0] rfl rfl 37 #[.int .i64 0, .bool false, .int .u32 0, .int .u32 0, .slice none 0 0, .slice none 0 0, .slice none 0 0, .int .i64 0, .slice none 0 0] oz3 (at_info9 _ _ _ _ _ _ _ _ _) rfl (ag_one _ _ _) ?_) | (refine wpList_store_row rfl 39 _ _ rfl (w.heap.size + 1 + 1 + 1) #[.int .i64 2, .int .i64 0, .int .i64 0, .slice none 0 0, .int .i64 at_] rfl rfl 39 #[.int .i64 0, .int .i64 0, .int .i64 0, .slice none 0 0, .int .i64 0] ov4 (vdV_info _ _ _ _ _) rfl (vdV_one _ _ _ _) ?_))
    exact bodyPost_ret (results_twoV (p := 8) (q := 9) (fn := Tryz.f12) rfl _ _ (w.heap.size + 1 + 1) 37 #[.int .i64 0, .bool false, .int .u32 0, .int .u32 0, .slice none 0 0, .slice none 0 0, .slice none 0 0, .int .i64 0, .slice none 0 0] _ (w.heap.size + 1 + 1 + 1) 39 #[.int .i64 2, .int .i64 0, .int .i64 0, .slice none 0 0, .int .i64 at_] _ rfl oz4 at_desc rfl (at_info9 _ _ _ _ _ _ _ _ _) rfl ov4.setRow vdV_desc rfl (vdV_info _ _ _ _ _)) rfl ⟨rfl, hgX⟩
  · have hta : ∀ w, (Instr.typeAssert (.iface 81 (.agg #[])) 71 77 true).run Tryz.prog w = .ok (.tuple #[.agg #[], .bool false]) w := fun _ => by kernel_rfl
    go_wp2_with fail
    refine (hF.out _).mono ?_
    rintro e w3 ⟨rfl, hb3⟩
    have oz3 := oz2.step hb3
    have ov3 := (ov2.step hb3)
    have ov4 := own_rowO (cs' := #[.int .i64 0, .bool false, .int .u32 0, .int .u32 0, .slice none 0 0, .slice none 0 0, .slice none 0 0, .int .i64 0, .slice none 0 0]) ov3 (k := w.heap.size + 1 + 1) (by omega)
    have hgX := only_row (only_row (only_below hgr (bl_trans hba hb3)) (k := w.heap.size + 1 + 1) (cs := #[.int .i64 0, .bool false, .int .u32 0, .int .u32 0, .slice none 0 0, .slice none 0 0, .slice none 0 0, .int .i64 0, .slice none 0 0]) (by omega)) (k := w.heap.size + 1 + 1 + 1) (cs := #[.int .i64 2, .int .i64 0, .int .i64 0, .slice none 0 0, .int .i64 at_]) (by omega)
    have oz4 := own_rowO (cs' := #[.int .i64 2, .int .i64 0, .int .i64 0, .slice none 0 0, .int .i64 at_]) (oz3.setRow (cs' := #[.int .i64 0, .bool false, .int .u32 0, .int .u32 0, .slice none 0 0, .slice none 0 0, .slice none 0 0, .int .i64 0, .slice none 0 0])) (k := w.heap.size + 1 + 1 + 1) (by omega)
    clear oz2 ov2 hba hgr
    go_wp2_with (first | (refine wpList_store_row rfl 37 _ _ rfl (w.heap.size + 1 + 1) #[.int .i64 0, .bool false, .int .u32 0, .int .u32 0, .slice none 0 0, .slice none 0 0, .slice none 0 0, .int .i64 0, .slice none 0 0] rfl rfl 37 #[.int .i64 0, .bool false, .int .u32 0, .int .u32 0, .slice none 0 0, .slice none 0 0, .slice none 0 0, .int .i64 0, .slice none 0 0] oz3 (at_info9 _ _ _ _ _ _ _ _ _) rfl (ag_one _ _ _) ?_) | (refine wpList_store_row rfl 39 _ _ rfl (w.heap.size + 1 + 1 + 1) #[.int .i64 2, .int .i64 0, .int .i64 0, .slice none 0 0, .int .i64 at_] rfl rfl 39 #[.int .i64 0, .int .i64 0, .int .i64 0, .slice none 0 0, .int .i64 0] ov4 (vdV_info _ _ _ _ _) rfl (vdV_one _ _ _ _) ?_))
    exact bodyPost_ret (results_twoV (p := 8) (q := 9) (fn := Tryz.f12) rfl _ _ (w.heap.size + 1 + 1) 37 #[.int .i64 0, .bool false, .int .u32 0, .int .u32 0, .slice none 0 0, .slice none 0 0, .slice none 0 0, .int .i64 0, .slice none 0 0] _ (w.heap.size + 1 + 1 + 1) 39 #[.int .i64 2, .int .i64 0, .int .i64 0, .slice none 0 0, .int .i64 at_] _ rfl oz4 at_desc rfl (at_info9 _ _ _ _ _ _ _ _ _) rfl ov4.setRow vdV_desc rfl (vdV_info _ _ _ _ _)) rfl ⟨rfl, hgX⟩
  · have hta : ∀ w, (Instr.typeAssert (.iface 123 (.agg #[])) 71 77 true).run Tryz.prog w = .ok (.tuple #[.agg #[], .bool false]) w := fun _ => by kernel_rfl
    go_wp2_with fail
    refine (hF.out _).mono ?_
    rintro e w3 ⟨rfl, hb3⟩
    have oz3 := oz2.step hb3
    have ov3 := (ov2.step hb3)
    have ov4 := own_rowO (cs' := #[.int .i64 0, .bool false, .int .u32 0, .int .u32 0, .slice none 0 0, .slice none 0 0, .slice none 0 0, .int .i64 0, .slice none 0 0]) ov3 (k := w.heap.size + 1 + 1) (by omega)
    have hgX := only_row (only_row (only_below hgr (bl_trans hba hb3)) (k := w.heap.size + 1 + 1) (cs := #[.int .i64 0, .bool false, .int .u32 0, .int .u32 0, .slice none 0 0, .slice none 0 0, .slice none 0 0, .int .i64 0, .slice none 0 0]) (by omega)) (k := w.heap.size + 1 + 1 + 1) (cs := #[.int .i64 2, .int .i64 0, .int .i64 0, .slice none 0 0, .int .i64 at_]) (by omega)
    have oz4 := own_rowO (cs' := #[.int .i64 2, .int .i64 0, .int .i64 0, .slice none 0 0, .int .i64 at_]) (oz3.setRow (cs' := #[.int .i64 0, .bool false, .int .u32 0, .int .u32 0, .slice none 0 0, .slice none 0 0, .slice none 0 0, .int .i64 0, .slice none 0 0])) (k := w.heap.size + 1 + 1 + 1) (by omega)
    clear oz2 ov2 hba hgr
    go_wp2_with (first | (refine wpList_store_row rfl 37 _ _ rfl (w.heap.size + 1 + 1) #[.int .i64 0, .bool false, .int .u32 0, .int .u32 0, .slice none 0 0, .slice none 0 0, .slice none 0 0, .int .i64 0, .slice none 0 0] rfl rfl 37 #[.int .i64 0, .bool false, .int .u32 0, .int .u32 0, .slice none 0 0, .slice none 0 0, .slice none 0 0, .int .i64 0, .slice none 0 0] oz3 (at_info9 _ _ _ _ _ _ _ _ _) rfl (ag_one _ _ _) ?_) | (refine wpList_store_row rfl 39 _ _ rfl (w.heap.size + 1 + 1 + 1) #[.int .i64 2, .int .i64 0, .int .i64 0, .slice none 0 0, .int .i64 at_] rfl rfl 39 #[.int .i64 0, .int .i64 0, .int .i64 0, .slice none 0 0, .int .i64 0] ov4 (vdV_info _ _ _ _ _) rfl (vdV_one _ _ _ _) ?_))
    exact bodyPost_ret (results_twoV (p := 8) (q := 9) (fn := Tryz.f12) rfl _ _ (w.heap.size + 1 + 1) 37 #[.int .i64 0, .bool false, .int .u32 0, .int .u32 0, .slice none 0 0, .slice none 0 0, .slice none 0 0, .int .i64 0, .slice none 0 0] _ (w.heap.size + 1 + 1 + 1) 39 #[.int .i64 2, .int .i64 0, .int .i64 0, .slice none 0 0, .int .i64 at_] _ rfl oz4 at_desc rfl (at_info9 _ _ _ _ _ _ _ _ _) rfl ov4.setRow vdV_desc rfl (vdV_info _ _ _ _ _)) rfl ⟨rfl, hgX⟩
end Go.Proofs.YtmcnpkfeipelgaaGreatDoor

/- what a drawn region leaves that reads an attribute off new bytes into variables of its own -/
namespace Go.Proofs.YtmcnpkfeipelgaaGreatDoor
open Go.RowKit

abbrev zA9 : Array Value := #[.int .i64 0, .bool false, .int .u32 0, .int .u32 0, .slice none 0 0, .slice none 0 0, .slice none 0 0, .int .i64 0, .slice none 0 0]
abbrev zV5 : Array Value := #[.int .i64 0, .int .i64 0, .int .i64 0, .slice none 0 0, .int .i64 0]
theorem at_oneV (k : Int) (p : Bool) (N M : Int) (A1 : Option Addr) (n1 c1 : Nat) (A2 : Option Addr) (n2 c2 : Nat) (A3 : Option Addr) (n3 c3 : Nat) (f : Int) (A4 : Option Addr) (n4 c4 : Nat) : (#[Value.int .i64 k, .bool p, .int .u32 N, .int .u32 M, .slice A1 n1 c1, .slice A2 n2 c2, .slice A3 n3 c3, .int .i64 f, .slice A4 n4 c4] : Array Value).all (·.oneCell') = true := by simp [Value.oneCell']
theorem step_store_rowV {P : Program} {ops : Array Oper} {o : Oper} {a : Act} {w : World} {K : Act → World → Prop} {Q : Exit → Act → World → Prop} {E : Prop}
    (hg : o.guard = none) (ty : TypeId) (x y : Operand) (ho : o.op = .store ty x y) (g : Nat) (cells : Array Value) (hx : a.eval x = .pointer (some ⟨g, 0, none⟩)) (hy : a.eval y = .agg cells)
    (t : TypeId) (old : Array Value) (hgd : w.heap[g]? = some (.cells old t (0, 0))) (hi : (P.info? ty).map (·.size) = some cells.size) (hold : old.size = cells.size) (h1 : cells.all (·.oneCell') = true)
    (hK : K (a.put o.dst undef) (w.setRow g cells)) :
    if Region.wanted o (yielded ops a.tmps) = true then Oper.wp P o a w K Q else E := by
  have hw : Region.wanted o (yielded ops a.tmps) = true := by simp [Region.wanted, hg]
  rw [if_pos hw]
  unfold Oper.wp
  simp [execOp, ho, hx, hy, Instr.storeAt, Instr.sureAddr, run_storeVar_row w g t ty old cells hgd hi hold h1, Result.andThen]
  exact hK
/-- It stays so where all blocks stay but new attributes and verdicts. -/
def KeepX (X : World → Prop) : Prop := ∀ W W' : World, X W → W.heap.size ≤ W'.heap.size → (∀ i, i < W.heap.size → W.heap[i]? ≠ some (.cells zA9 37 (0, 0)) → W.heap[i]? ≠ some (.cells zV5 39 (0, 0)) → W'.heap[i]? = W.heap[i]?) → X W'
theorem KeepX.true_ : KeepX (fun _ => True) := fun _ _ h _ _ => h
theorem KeepX.and_ {X Y : World → Prop} (h : KeepX X) (k : KeepX Y) : KeepX (fun W => X W ∧ Y W) := fun W W' hx hs hk => ⟨h W W' hx.1 hs hk, k W W' hx.2 hs hk⟩
theorem KeepX.below {X : World → Prop} (h : KeepX X) {W W' : World} (hx : X W) (hb : Below W.heap.size W W') : X W' := h W W' hx hb.size (fun i hi _ _ => hb.block i hi)
set_option maxRecDepth 100000 in
theorem at_infoM (a b c d e f g h i : Value) : (Tryz.prog.info? 37).map (·.size) = some (#[a, b, c, d, e, f, g, h, i] : Array Value).size := by kernel_rfl
set_option maxRecDepth 100000 in
theorem vd_infoM (a b c d e : Value) : (Tryz.prog.info? 39).map (·.size) = some (#[a, b, c, d, e] : Array Value).size := by kernel_rfl
theorem rv_types : (37 : TypeId) ≠ 39 ∧ (37 : TypeId) ≠ 92 ∧ (39 : TypeId) ≠ 92 := by decide
theorem KeepX.rowA {X : World → Prop} (h : KeepX X) {W : World} {g : Nat} (hx : X W) (o : Own W g 37 zA9) (Y : Array Value) : X (W.setRow g Y) := h W _ hx (by simp) (fun i _ h1 _ => setRow_other W g i _ (fun e => by
  subst e
  exact h1 o))
theorem KeepX.rowV {X : World → Prop} (h : KeepX X) {W : World} {g : Nat} (hx : X W) (o : Own W g 39 zV5) (Y : Array Value) : X (W.setRow g Y) := h W _ hx (by simp) (fun i _ _ h2 => setRow_other W g i _ (fun e => by
  subst e
  exact h2 o))
theorem KeepX.bytes (A : Option Addr) (n : Nat) (xs : List Int) : KeepX (fun W => Bytes W W.heap.size A n xs) := by
  intro W W' h hs hk
  rcases xs with _ | ⟨x, t⟩
  · exact ⟨h.1, h.2.1, .inl rfl⟩
  · rcases h.2.2 with h0 | ⟨b, o, hA, hb, hc⟩
    · cases h0
    · have h1 := hc 0 (.int .u8 x) rfl
      have hh := hk b hb (fun e => by
        have h2 := cell_of_row W b (o + 0) zA9 37 (0, 0) e
        rw [h1] at h2
        have h3 := List.mem_of_getElem? (l := zA9.toList) (by rw [Array.getElem?_toList]; exact h2.symm)
        simp at h3) (fun e => by
        have h2 := cell_of_row W b (o + 0) zV5 39 (0, 0) e
        rw [h1] at h2
        have h3 := List.mem_of_getElem? (l := zV5.toList) (by rw [Array.getElem?_toList]; exact h2.symm)
        simp at h3)
      exact ⟨h.1, h.2.1, .inr ⟨b, o, hA, Nat.lt_of_lt_of_le hb hs, fun i v hv => (World.cell?_of_block (a := ⟨b, o + i, none⟩) hh).trans (hc i v hv)⟩⟩
/-- What such a region has left so far. -/
def RvSt (w W : World) (xs : List Int) (ab vb rd : Option Nat) (X : World → Prop) (dn : Bool) : Prop :=
  Below w.heap.size w W ∧ (∀ b, ab = some b → w.heap.size ≤ b ∧ Own W b 37 zA9) ∧ (∀ b, vb = some b → w.heap.size ≤ b ∧ Own W b 39 zV5) ∧ (∀ j, rd = some j → w.heap.size ≤ j ∧ Rdr W j xs 0) ∧ (dn = true → X W)
section
variable {w W W' : World} {xs : List Int} {ab vb rd : Option Nat} {X : World → Prop} {dn : Bool}
theorem RvSt.start (h : Below w.heap.size w W) : RvSt w W xs none none none X false := ⟨h, (fun _ h => by cases h), (fun _ h => by cases h), (fun _ h => by cases h), (fun h => by cases h)⟩
theorem RvSt.as_ (hX : KeepX X) (h : RvSt w W xs none vb rd X dn) {n : Nat} (hn : W.heap.size = n) : RvSt w (W.alloc (.cells zA9 37)) xs (some n) vb rd X dn := by
  subst hn
  obtain ⟨h1, h2, h3, h4, h5⟩ := h
  have hb := bl_alloc (bl_refl W) (.cells zA9 37)
  exact ⟨bl_alloc h1 _, (fun b e => by cases e; exact ⟨h1.size, Own.new _ _ _⟩), (fun b e => ⟨(h3 b e).1, (h3 b e).2.step hb⟩), (fun j e => ⟨(h4 j e).1, (h4 j e).2.below hb⟩), (fun e => hX.below (h5 e) hb)⟩
theorem RvSt.vs_ (hX : KeepX X) (h : RvSt w W xs ab none rd X dn) {n : Nat} (hn : W.heap.size = n) : RvSt w (W.alloc (.cells zV5 39)) xs ab (some n) rd X dn := by
  subst hn
  obtain ⟨h1, h2, h3, h4, h5⟩ := h
  have hb := bl_alloc (bl_refl W) (.cells zV5 39)
  exact ⟨bl_alloc h1 _, (fun b e => ⟨(h2 b e).1, (h2 b e).2.step hb⟩), (fun b e => by cases e; exact ⟨h1.size, Own.new _ _ _⟩), (fun j e => ⟨(h4 j e).1, (h4 j e).2.below hb⟩), (fun e => hX.below (h5 e) hb)⟩
theorem RvSt.new_ (h : RvSt w W xs ab vb none X false) {j : Nat} (hj : W.heap.size ≤ j) (hr : Rdr W' j xs 0) (hb : Below W.heap.size W W') : RvSt w W' xs ab vb (some j) X false := by
  obtain ⟨h1, h2, h3, h4, h5⟩ := h
  exact ⟨bl_trans h1 hb, (fun b e => ⟨(h2 b e).1, (h2 b e).2.step hb⟩), (fun b e => ⟨(h3 b e).1, (h3 b e).2.step hb⟩), (fun i e => by cases e; exact ⟨Nat.le_trans h1.size hj, hr⟩), (fun e => by cases e)⟩
theorem own_apart {W : World} {b v : Nat} {T U : TypeId} {cs ds : Array Value} (h : Own W b T cs) (k : Own W v U ds) (hne : cs.size ≠ ds.size) : b ≠ v := by
  rintro rfl
  have e := h.symm.trans k
  injection e with e
  injection e with e1 e2 e3
  exact hne (by rw [e1])
theorem RvSt.read_ {j : Nat} {Y : World → Prop} (h : RvSt w W xs ab vb (some j) X false) (R : W.grownBy W' (some j)) (hx : Y W') : RvSt w W' xs ab vb none Y true := by
  obtain ⟨h1, h2, h3, h4, h5⟩ := h
  have hj := (h4 j rfl).1
  obtain ⟨A, n, c, ho, _⟩ := (h4 j rfl).2
  exact ⟨bl_only h1 R hj, (fun b e => ⟨(h2 b e).1, (h2 b e).2.grown R (fun e2 => own_apart (h2 b e).2 ho (show (9 : Nat) ≠ 2 by decide) (Option.some.inj e2))⟩), (fun b e => ⟨(h3 b e).1, (h3 b e).2.grown R (fun e2 => own_apart (h3 b e).2 ho (show (5 : Nat) ≠ 2 by decide) (Option.some.inj e2))⟩), (fun i e => by cases e), (fun _ => hx)⟩
theorem RvSt.rdr_ {j : Nat} (h : RvSt w W xs ab vb (some j) X dn) : Rdr W j xs 0 := (h.2.2.2.1 j rfl).2
theorem RvSt.le_ {j : Nat} (h : RvSt w W xs ab vb (some j) X dn) : w.heap.size ≤ j := (h.2.2.2.1 j rfl).1
theorem RvSt.a_ {b : Nat} (h : RvSt w W xs (some b) vb rd X dn) : Own W b 37 zA9 := (h.2.1 b rfl).2
theorem RvSt.v_ {b v : Nat} (h : RvSt w W xs (some b) (some v) rd X dn) (Y : Array Value) : Own (W.setRow b Y) v 39 zV5 :=
  own_rowO (h.2.2.1 v rfl).2 (own_apart (h.2.2.1 v rfl).2 h.a_ (by decide))
theorem RvSt.b1_ {b : Nat} (h : RvSt w W xs (some b) vb rd X dn) (Y : Array Value) : Below w.heap.size w (W.setRow b Y) := bl_setRow h.1 (h.2.1 b rfl).1
theorem RvSt.b2_ {b v : Nat} (h : RvSt w W xs (some b) (some v) rd X dn) (Y Z : Array Value) : Below w.heap.size w ((W.setRow b Y).setRow v Z) := bl_setRow (h.b1_ Y) (h.2.2.1 v rfl).1
/-- What it leaves in the end. -/
def RvR (w wx : World) (Y Z : Array Value) (X : World → Prop) (x y : Value) : Prop :=
  ∃ b v, x = .pointer (some ⟨b, 0, none⟩) ∧ y = .pointer (some ⟨v, 0, none⟩) ∧ Own wx b 37 Y ∧ Own wx v 39 Z ∧ Below w.heap.size w wx ∧ X wx
theorem RvSt.fin_ {b v : Nat} (hX : KeepX X) (h : RvSt w W xs (some b) (some v) rd X true) (Y Z : Array Value) (hY : Y.size ≠ 5) : RvR w ((W.setRow b Y).setRow v Z) Y Z X (.pointer (some ⟨b, 0, none⟩)) (.pointer (some ⟨v, 0, none⟩)) :=
  ⟨b, v, rfl, rfl, own_rowO h.a_.setRow (own_apart (h.a_.setRow (cs' := Y)) (h.v_ Y) hY), (h.v_ Y).setRow, h.b2_ Y Z, hX.rowV (hX.rowA (h.2.2.2.2 rfl) h.a_ Y) (h.v_ Y) Z⟩
end
end Go.Proofs.YtmcnpkfeipelgaaGreatDoor

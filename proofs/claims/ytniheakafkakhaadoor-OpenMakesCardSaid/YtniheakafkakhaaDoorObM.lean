/- XObM: XCqS, XCqL, XObA, XObB, XObC in one text -/
import Derived.Test.YtniheakafkakhaaDoorNgM3
import Derived.Deep.DeepCutAuto
import Derived.Test.YtniheakafkakhaaDoorNgM1
import Derived.Test.YtniheakafkakhaaDoorPfxB
import Derived.Test.YtniheakafkakhaaDoorCpC
import Derived.Test.YtniheakafkakhaaDoorCpB
import Derived.Test.YtniheakafkakhaaDoorCpH
import Derived.Test.YtniheakafkakhaaDoorEq
import Derived.Test.YtniheakafkakhaaDoorNgN
/- peerageref16.Of -/
namespace Go.Proofs.YtniheakafkakhaaDoor
open Go.RowKit

/-- The walk of the reference's Of between two statements. -/
structure ROf (w : World) (opts : Array Value) (W : World) (ov : Value) (L : List (Int × List Int)) (gv : Value) (G : List Int) : Prop where
  bel : Below w.heap.size w W
  o1 : Own W w.heap.size 23 opts
  box : OfS 89 (w.heap.size + 1) W ov L gv G
  lo : w.heap.size + 1 ≤ W.heap.size
theorem rof_end {w W X w6 : World} {opts : Array Value} {L : List (Int × List Int)} {v v' gv : Value} {G : List Int} {L' : List Cp} {q : Cp} (hI : ROf w opts W v L gv G) (h1 : CRow 89 W (w.heap.size + 1) v L') (h2 : L'.map cpK = L) (h3 : ∀ s ∈ L', s.n ≤ 1000) (h4 : W.ownsRow (w.heap.size + 1) 5 1 gv G.length (G.map (Value.int .u8))) (h5 : ∀ s ∈ L', ∀ j, (Value.slice s.A s.n s.c).ownBlock = some j → gv.ownBlock ≠ some j)
    (hX : Below W.heap.size W X) (hq : CD X (w.heap.size + 1) q) (hqn : q.n ≤ 1000) (hf : ∀ j, (Value.slice q.A q.n q.c).ownBlock = some j → W.heap.size ≤ j) (hown : w6.ownsRow (w.heap.size + 1) 89 2 v' (L'.length + 1) (cellsP L' ++ [.int .i64 q.k, .slice q.A q.n q.c])) (hgr : X.grownBy w6 v.ownBlock) : ROf w opts w6 v' (L ++ [cpK q]) gv G := by
  have hvT : ∀ j, v.ownBlock = some j → w.heap.size + 1 ≤ j := fun j hj => (row_typed h1.1 hj).2
  have R5 : Rest W w6 (fun i => v.ownBlock = some i) := (Rest.of_below hX (fun i => v.ownBlock = some i)).trans (Rest.of_grown hgr (P := fun i => v.ownBlock = some i) (fun j e => e)) (fun i _ h => h)
  exact ⟨hI.bel.trans (R5.to_below hI.bel.size (fun i hi e => by have := hvT i e; omega)), R5.own hI.o1 (fun e => by have := hvT _ e; omega), ofS_push of_types.2.2.2.2.2 h1 h2 h3 h4 h5 hX hq hqn hf hown hgr, Nat.le_trans hI.lo R5.size⟩
theorem rof_grow {w W X w' : World} {opts : Array Value} {ov gv gv' : Value} {L : List (Int × List Int)} {G zs : List Int} {m : Nat} (h : ROf w opts W ov L gv G) (hX : Below W.heap.size W X)
    (hown : w'.ownsRow (w.heap.size + 1) 5 1 gv' (G.length + m) (G.map (Value.int .u8) ++ zs.map (Value.int .u8))) (hm : m = zs.length) (hgr : X.grownBy w' gv.ownBlock) (hat : gv'.ownBlock = gv.ownBlock ∨ gv'.ownBlock = some X.heap.size) : ROf w opts w' ov L gv' (G ++ zs) := by
  obtain ⟨h1, h2, h4, h5⟩ := h
  have h4' := h4
  obtain ⟨L', _, _, _, hg, _⟩ := h4'
  have hgX := own_belowG hg hX
  have hT : ∀ j, gv.ownBlock = some j → w.heap.size + 1 ≤ j := fun j hj => (row_typed hgX hj).2
  have R := Rest.of_grown hgr (P := fun j => gv.ownBlock = some j) (fun j e => e)
  exact ⟨(bl_trans h1 hX).trans (R.to_below (bl_trans h1 hX).size (fun i hi e => by have := hT i e; omega)), R.own (h2.step hX) (fun e => by have := hT _ e; omega), ofS_grow of_types.2.2.2.2.2 h4 hX hown hm hgr hat, Nat.le_trans h5 (Nat.le_trans hX.size R.size)⟩
/-- What the reference's Of leaves. -/
def ROfEnd (w : World) (K : List (Int × List Int)) (ov : Value) (W : World) : Prop := ∃ A c L', ov = .slice A (List.length L') c ∧ Caps W W.heap.size A L'.length L' ∧ L'.map cpK = K ∧ (∀ s ∈ L', s.n ≤ 1000) ∧ Below w.heap.size w W
set_option maxRecDepth 100000 in
set_option maxHeartbeats 6400000 in
theorem rcof_any (a0 a1 a2 a3 a4 a5 : Bool) (an : Int) (h0 : 0 ≤ an) (h1 : an < 4294967296) (w : World) :
    Calls Tryd.prog 14 #[.agg #[.bool a0, .bool a1, .bool a2, .bool a3, .bool a4, .bool a5], .int .u32 an] w fun e w' => ∃ ov, e = .returned ov ∧ ROfEnd w (ofK a0 a1 a2 a3 a4 a5 an) ov w' := by
  have hOf := Lib.hid (fun W => of_any 4 an W (by omega) (by omega) h0 h1)
  have hI0 : ROf w #[.bool a0, .bool a1, .bool a2, .bool a3, .bool a4, .bool a5] (w.alloc (.cells #[.bool a0, .bool a1, .bool a2, .bool a3, .bool a4, .bool a5] 23)) (.slice none 0 0) [] (.slice none 0 0) [] := ⟨bl_alloc (bl_refl w) _, Own.new w _ _, OfS.nil _ _ _, by simp⟩
  have c2 := hI0.o1.cell (i := 2) (v := .bool a2) rfl
  clear h0 h1
  go_enter Tryd.func14, Tryd.ntmps14
  go_upto_region 1 with fail
  generalize hgw : w.alloc (.cells #[.bool a0, .bool a1, .bool a2, .bool a3, .bool a4, .bool a5] 23) = w0 at *
  clear hgw
  go_upto_if 8 with fail
  go_cut [5] (fun ov wx => ROf w #[.bool a0, .bool a1, .bool a2, .bool a3, .bool a4, .bool a5] wx ov (ofPut a2 1 [0, 1, 0, 1] []) (.slice none 0 0) [])
  case first =>
    cases a2
    · go_wp2_with fail
      go_meet
      exact hI0
    · skip
      obtain ⟨L1, h1, h2, h3, h4, h5⟩ := hI0.box
      obtain rfl : L1 = [] := List.map_eq_nil_iff.1 h2
      have hLn : ([] : List Cp).length ≤ 10 := by have := congrArg List.length h2; rw [List.length_map] at this; have := (show ([] : List (Int × List Int)).length ≤ 0 by simp); omega
      have bX : Below w0.heap.size w0 ((w0.alloc (.cells #[.int .u8 0, .int .u8 1, .int .u8 0, .int .u8 1] 5)).alloc (.cells #[.int .i64 1, .slice (some ⟨w0.heap.size, 0, none⟩) 4 4] 89)) := bl_alloc (bl_alloc (bl_refl _) _) _
      have oD := (Own.new w0 5 #[.int .u8 0, .int .u8 1, .int .u8 0, .int .u8 1]).alloc (.cells #[.int .i64 1, .slice (some ⟨w0.heap.size, 0, none⟩) 4 4] 89)
      have oS := Own.new (w0.alloc (.cells #[.int .u8 0, .int .u8 1, .int .u8 0, .int .u8 1] 5)) 89 #[.int .i64 1, .slice (some ⟨w0.heap.size, 0, none⟩) 4 4]
      rw [World.size_alloc] at oS
      have hr := Lib.hid (own_belowG h1.1 bX)
      have hlo := hI0.lo
      have hCD : CD ((w0.alloc (.cells #[.int .u8 0, .int .u8 1, .int .u8 0, .int .u8 1] 5)).alloc (.cells #[.int .i64 1, .slice (some ⟨w0.heap.size, 0, none⟩) 4 4] 89)) (w.heap.size + 1) ⟨1, some ⟨w0.heap.size, 0, none⟩, 4, 4, [0, 1, 0, 1]⟩ := ⟨Own.rowC (xs := [0, 1, 0, 1]) oD rfl (by omega) (show (4 : Nat) ≤ maxLen by unfold maxLen; omega), rfl, by simp⟩
      go_wp2_with (at_builtin; refine wpList_append_grow _ rfl _ _ rfl sl_rcps (w.heap.size + 1) _ ([] : List Cp).length (cellsP ([] : List Cp)) rfl hr.out (w0.heap.size + 1 + 1) (some ⟨w0.heap.size + 1, 0, none⟩) 1 1 [.int .i64 1, .slice (some ⟨w0.heap.size, 0, none⟩) 4 4] rfl rfl (Shows.of_owned (xs := [.int .i64 1, .slice (some ⟨w0.heap.size, 0, none⟩) 4 4]) oS (Nat.lt_succ_self _)) (oneP _ _ _ _) (by unfold maxLen; omega) (by omega) (Nat.le_trans hlo bX.size) ?_; intro v6 w6 hrow6 hg6)
      have hN := rof_end (q := ⟨1, some ⟨w0.heap.size, 0, none⟩, 4, 4, [0, 1, 0, 1]⟩) hI0 h1 h2 h3 h4 h5 bX hCD (by show 4 ≤ 1000; omega) (fun j hj => by cases hj; exact Nat.le_refl _) hrow6 hg6
      go_meet
      exact hN
  case rest =>
  clear hI0 c2
  have hl1 := Lib.hid (show (ofPut a2 1 [0, 1, 0, 1] []).length ≤ 1 from ofPut_len a2 1 [0, 1, 0, 1] [])
  have HK : Hid (ofK a0 a1 a2 a3 a4 a5 an = ofPut (decide (0 < (ofG a4 a5 2).length)) 69 (ofG a4 a5 2) (ofPut a0 65 (digitsOf 4 an) (ofPut a1 6 [] (ofPut true 2 [] (ofPut a3 1 [0, 2, 0, 1] (ofPut a2 1 [0, 1, 0, 1] [])))))) := Lib.hid rfl
  generalize ofPut a2 1 [0, 1, 0, 1] [] = L1 at *
  obtain ⟨w1, hw1⟩ : ∃ z, z = wc := ⟨_, rfl⟩
  subst hw1
  have hI1 := hcut
  clear hcut
  have c3 := hI1.o1.cell (i := 3) (v := .bool a3) rfl
  go_upto_if 15 with fail
  go_cut [5] (fun ov wx => ROf w #[.bool a0, .bool a1, .bool a2, .bool a3, .bool a4, .bool a5] wx ov (ofPut a3 1 [0, 2, 0, 1] L1) (.slice none 0 0) [])
  case first =>
    cases a3
    · go_wp2_with fail
      go_meet
      exact hI1
    · skip
      obtain ⟨L1, h1, h2, h3, h4, h5⟩ := hI1.box
      obtain ⟨A1, c1, rfl⟩ := h1.form
      have hLn : L1.length ≤ 10 := by have := congrArg List.length h2; rw [List.length_map] at this; have := hl1.out; omega
      have bX : Below w1.heap.size w1 ((w1.alloc (.cells #[.int .u8 0, .int .u8 2, .int .u8 0, .int .u8 1] 5)).alloc (.cells #[.int .i64 1, .slice (some ⟨w1.heap.size, 0, none⟩) 4 4] 89)) := bl_alloc (bl_alloc (bl_refl _) _) _
      have oD := (Own.new w1 5 #[.int .u8 0, .int .u8 2, .int .u8 0, .int .u8 1]).alloc (.cells #[.int .i64 1, .slice (some ⟨w1.heap.size, 0, none⟩) 4 4] 89)
      have oS := Own.new (w1.alloc (.cells #[.int .u8 0, .int .u8 2, .int .u8 0, .int .u8 1] 5)) 89 #[.int .i64 1, .slice (some ⟨w1.heap.size, 0, none⟩) 4 4]
      rw [World.size_alloc] at oS
      have hr := Lib.hid (own_belowG h1.1 bX)
      have hlo := hI1.lo
      have hCD : CD ((w1.alloc (.cells #[.int .u8 0, .int .u8 2, .int .u8 0, .int .u8 1] 5)).alloc (.cells #[.int .i64 1, .slice (some ⟨w1.heap.size, 0, none⟩) 4 4] 89)) (w.heap.size + 1) ⟨1, some ⟨w1.heap.size, 0, none⟩, 4, 4, [0, 2, 0, 1]⟩ := ⟨Own.rowC (xs := [0, 2, 0, 1]) oD rfl (by omega) (show (4 : Nat) ≤ maxLen by unfold maxLen; omega), rfl, by simp⟩
      go_wp2_with (at_builtin; refine wpList_append_grow _ rfl _ _ rfl sl_rcps (w.heap.size + 1) _ L1.length (cellsP L1) rfl hr.out (w1.heap.size + 1 + 1) (some ⟨w1.heap.size + 1, 0, none⟩) 1 1 [.int .i64 1, .slice (some ⟨w1.heap.size, 0, none⟩) 4 4] rfl rfl (Shows.of_owned (xs := [.int .i64 1, .slice (some ⟨w1.heap.size, 0, none⟩) 4 4]) oS (Nat.lt_succ_self _)) (oneP _ _ _ _) (by unfold maxLen; omega) (by omega) (Nat.le_trans hlo bX.size) ?_; intro v6 w6 hrow6 hg6)
      have hN := rof_end (q := ⟨1, some ⟨w1.heap.size, 0, none⟩, 4, 4, [0, 2, 0, 1]⟩) hI1 h1 h2 h3 h4 h5 bX hCD (by show 4 ≤ 1000; omega) (fun j hj => by cases hj; exact Nat.le_refl _) hrow6 hg6
      go_meet
      exact hN
  case rest =>
  clear hI1 c3
  have hl2 := Lib.hid (ofPut_len a3 1 [0, 2, 0, 1] L1)
  generalize ofPut a3 1 [0, 2, 0, 1] L1 = L2 at *
  obtain ⟨w2, hw2⟩ : ∃ z, z = wc := ⟨_, rfl⟩
  subst hw2
  have hI2 := hcut
  clear hcut
  obtain ⟨L1, h1, h2, h3, h4, h5⟩ := hI2.box
  obtain ⟨A1, c1, rfl⟩ := h1.form
  have hLn : L1.length ≤ 10 := by have := congrArg List.length h2; rw [List.length_map] at this; have := (show L2.length ≤ 2 by have := hl1.out; have := hl2.out; omega); omega
  have bX : Below w2.heap.size w2 (w2.alloc (.cells #[.int .i64 2, .slice none 0 0] 89)) := bl_alloc (bl_refl _) _
  have oS := Own.new w2 89 #[.int .i64 2, .slice none 0 0]
  have hr := Lib.hid (own_belowG h1.1 bX)
  have hlo := hI2.lo
  have hCD : CD (w2.alloc (.cells #[.int .i64 2, .slice none 0 0] 89)) (w.heap.size + 1) ⟨2, none, 0, 0, []⟩ := ⟨World.ownsRow_nil _ _ _ _, rfl, by simp⟩
  go_upto_region 7 with (at_builtin; refine wpList_append_grow _ rfl _ _ rfl sl_rcps (w.heap.size + 1) _ L1.length (cellsP L1) rfl hr.out (w2.heap.size + 1) (some ⟨w2.heap.size, 0, none⟩) 1 1 [.int .i64 2, .slice none 0 0] rfl rfl (Shows.of_owned (xs := [.int .i64 2, .slice none 0 0]) oS (Nat.lt_succ_self _)) (oneP _ _ _ _) (by unfold maxLen; omega) (by omega) (Nat.le_trans hlo bX.size) ?_; intro v6 w6 hrow6 hg6)
  have hN := rof_end (q := ⟨2, none, 0, 0, []⟩) hI2 h1 h2 h3 h4 h5 bX hCD (by show 0 ≤ 1000; omega) (fun j hj => by cases hj) hrow6 hg6
  have hl3 := Lib.hid (ofPut_len true 2 [] L2)
  change ROf w #[.bool a0, .bool a1, .bool a2, .bool a3, .bool a4, .bool a5] w6 _ (ofPut true 2 [] L2) _ _ at hN
  generalize ofPut true 2 [] L2 = L3 at *
  have hI3 := hN
  have c1 := hI3.o1.cell (i := 1) (v := .bool a1) rfl
  clear hN hI2 h1 h2 h3 h4 h5 bX oS hr hlo hCD hrow6 hg6 hLn
  generalize w6 = w3 at *
  go_upto_if 26 with fail
  go_cut [5] (fun ov wx => ROf w #[.bool a0, .bool a1, .bool a2, .bool a3, .bool a4, .bool a5] wx ov (ofPut a1 6 [] L3) (.slice none 0 0) [])
  case first =>
    cases a1
    · go_wp2_with fail
      go_meet
      exact hI3
    · skip
      obtain ⟨L1, h1, h2, h3, h4, h5⟩ := hI3.box
      obtain ⟨A1, c1, rfl⟩ := h1.form
      have hLn : L1.length ≤ 10 := by have := congrArg List.length h2; rw [List.length_map] at this; have := (show L3.length ≤ 3 by have := hl1.out; have := hl2.out; have := hl3.out; omega); omega
      have bX : Below w3.heap.size w3 (w3.alloc (.cells #[.int .i64 6, .slice none 0 0] 89)) := bl_alloc (bl_refl _) _
      have oS := Own.new w3 89 #[.int .i64 6, .slice none 0 0]
      have hr := Lib.hid (own_belowG h1.1 bX)
      have hlo := hI3.lo
      have hCD : CD (w3.alloc (.cells #[.int .i64 6, .slice none 0 0] 89)) (w.heap.size + 1) ⟨6, none, 0, 0, []⟩ := ⟨World.ownsRow_nil _ _ _ _, rfl, by simp⟩
      go_wp2_with (at_builtin; refine wpList_append_grow _ rfl _ _ rfl sl_rcps (w.heap.size + 1) _ L1.length (cellsP L1) rfl hr.out (w3.heap.size + 1) (some ⟨w3.heap.size, 0, none⟩) 1 1 [.int .i64 6, .slice none 0 0] rfl rfl (Shows.of_owned (xs := [.int .i64 6, .slice none 0 0]) oS (Nat.lt_succ_self _)) (oneP _ _ _ _) (by unfold maxLen; omega) (by omega) (Nat.le_trans hlo bX.size) ?_; intro v6 w6 hrow6 hg6)
      have hN := rof_end (q := ⟨6, none, 0, 0, []⟩) hI3 h1 h2 h3 h4 h5 bX hCD (by show 0 ≤ 1000; omega) (fun j hj => by cases hj) hrow6 hg6
      go_meet
      exact hN
  case rest =>
  clear hI3 c1
  have hl4 := Lib.hid (ofPut_len a1 6 [] L3)
  generalize ofPut a1 6 [] L3 = L4 at *
  obtain ⟨w4, hw4⟩ : ∃ z, z = wc := ⟨_, rfl⟩
  subst hw4
  have hI4 := hcut
  clear hcut
  have hb4 := Lib.hid (show L4.length ≤ 4 by have := hl1.out; have := hl2.out; have := hl3.out; have := hl4.out; omega)
  clear hl1 hl2 hl3 hl4
  have c0 := hI4.o1.cell (i := 0) (v := .bool a0) rfl
  go_upto_if 32 with fail
  go_cut [5] (fun ov wx => ROf w #[.bool a0, .bool a1, .bool a2, .bool a3, .bool a4, .bool a5] wx ov (ofPut a0 65 (digitsOf 4 an) L4) (.slice none 0 0) [])
  case first =>
    cases a0
    · go_wp2_with fail
      go_meet
      exact hI4
    · skip
      go_wp2_with fail
      refine (hOf.out _).mono ?_
      rintro e w5 ⟨v5, rfl, hr5, hb5⟩
      obtain ⟨A5, c5, rfl⟩ := own_form hr5
      have hs5 := hb5.size
      obtain ⟨L1, h1, h2, h3, h4, h5⟩ := hI4.box
      obtain ⟨A1, c1, rfl⟩ := h1.form
      have hLn : L1.length ≤ 10 := by have := congrArg List.length h2; rw [List.length_map] at this; have := hb4.out; omega
      have bX : Below w4.heap.size w4 (w5.alloc (.cells #[.int .i64 65, .slice A5 4 c5] 89)) := bl_alloc hb5 _
      have oS := Own.new w5 89 #[.int .i64 65, .slice A5 4 c5]
      have hr := Lib.hid (own_belowG h1.1 bX)
      have hlo := hI4.lo
      have hCD : CD (w5.alloc (.cells #[.int .i64 65, .slice A5 4 c5] 89)) (w.heap.size + 1) ⟨65, A5, 4, c5, digitsOf 4 an⟩ := ⟨own_belowG (own_leG hr5 hlo) (bl_alloc (bl_refl _) _), (digitsOf_len 4 an).symm, digitsOf_range 4 an⟩
      go_wp2_with (at_builtin; refine wpList_append_grow _ rfl _ _ rfl sl_rcps (w.heap.size + 1) _ L1.length (cellsP L1) rfl hr.out (w5.heap.size + 1) (some ⟨w5.heap.size, 0, none⟩) 1 1 [.int .i64 65, .slice A5 4 c5] rfl rfl (Shows.of_owned (xs := [.int .i64 65, .slice A5 4 c5]) oS (Nat.lt_succ_self _)) (oneP _ _ _ _) (by unfold maxLen; omega) (by omega) (by simp; omega) ?_; intro v6 w6 hrow6 hg6)
      have hN := rof_end (q := ⟨65, A5, 4, c5, digitsOf 4 an⟩) hI4 h1 h2 h3 h4 h5 bX hCD (by show 4 ≤ 1000; omega) (fun j hj => (row_typed hr5 hj).2) hrow6 hg6
      go_meet
      exact hN
  case rest =>
  clear hI4 c0
  have hl5 := Lib.hid (ofPut_len a0 65 (digitsOf 4 an) L4)
  generalize ofPut a0 65 (digitsOf 4 an) L4 = L5 at *
  obtain ⟨w5, hw5⟩ : ∃ z, z = wc := ⟨_, rfl⟩
  subst hw5
  have hI5 := hcut
  clear hcut
  have c4 := hI5.o1.cell (i := 4) (v := .bool a4) rfl
  have hbx5 := hI5.box
  obtain ⟨_, hrw5, _, _, _, _⟩ := hbx5
  obtain ⟨oA, oc, rfl⟩ := hrw5.form
  clear hrw5
  rename_i LL _ _ _ _
  have hgl5 : Hid (([] : List Int).length ≤ 0) := Lib.hid (by simp)
  go_upto_if 40 with fail
  go_cut [6] (fun gv wx => ROf w #[.bool a0, .bool a1, .bool a2, .bool a3, .bool a4, .bool a5] wx (.slice oA LL.length oc) L5 gv (([] : List Int) ++ (if a4 then [0, 1, 1, 3] else [])))
  case first =>
    cases a4
    · skip
      go_wp2_with fail
      go_meet
      rw [if_neg (by decide), List.append_nil]
      exact hI5
    · skip
      obtain ⟨L1, h1, h2, h3, h4, h5⟩ := hI5.box
      have bX := bl_alloc (bl_refl w5) (.cells #[.int .u8 0, .int .u8 1, .int .u8 1, .int .u8 3] 5)
      have oS := Own.new w5 5 #[.int .u8 0, .int .u8 1, .int .u8 1, .int .u8 3]
      have hr := Lib.hid (own_belowG h4 bX)
      have hlo := hI5.lo
      go_wp2_with (at_builtin; refine wpList_append_at _ rfl _ _ rfl sl_bytes (w.heap.size + 1) _ _ _ rfl hr.out (w5.heap.size + 1) (some ⟨w5.heap.size, 0, none⟩) 4 4 [.int .u8 0, .int .u8 1, .int .u8 1, .int .u8 3] rfl rfl (Shows.of_owned (xs := [.int .u8 0, .int .u8 1, .int .u8 1, .int .u8 3]) oS (Nat.lt_succ_self _)) (one8 [0, 1, 1, 3]) (by unfold maxLen; have := hgl5.out; omega) (by have := hgl5.out; omega) (by simp; omega) ?_; intro v6 w6 hrow6 hg6 hat6)
      have hN := rof_grow (zs := [0, 1, 1, 3]) hI5 bX hrow6 rfl hg6 hat6
      go_meet
      first | rw [if_pos rfl] | rw [if_pos trivial]
      exact hN
  case rest =>
  clear hI5 c4
  obtain ⟨w6, hw6⟩ : ∃ z, z = wc := ⟨_, rfl⟩
  subst hw6
  have hI6 := hcut
  clear hcut
  have c5 := hI6.o1.cell (i := 5) (v := .bool a5) rfl
  have hgl6 : Hid ((([] : List Int) ++ (if a4 = true then [0, 1, 1, 3] else [])).length ≤ 4) := Lib.hid (by cases a4 <;> simp)
  have hGe : Hid ((([] : List Int) ++ (if a4 = true then [0, 1, 1, 3] else [])) ++ (if a5 = true then [0, 2, 1, 3] else []) = ofG a4 a5 2) := Lib.hid (by cases a4 <;> cases a5 <;> rfl)
  generalize (([] : List Int) ++ (if a4 = true then [0, 1, 1, 3] else [])) = G6 at *
  go_upto_if 45 with fail
  go_cut [6] (fun gv wx => ROf w #[.bool a0, .bool a1, .bool a2, .bool a3, .bool a4, .bool a5] wx (.slice oA LL.length oc) L5 gv (G6 ++ (if a5 then [0, 2, 1, 3] else [])))
  case first =>
    cases a5
    · skip
      go_wp2_with fail
      go_meet
      rw [if_neg (by decide), List.append_nil]
      exact hI6
    · skip
      obtain ⟨L1, h1, h2, h3, h4, h5⟩ := hI6.box
      obtain ⟨gA, gc, rfl⟩ := own_form h4
      have bX := bl_alloc (bl_refl w6) (.cells #[.int .u8 0, .int .u8 2, .int .u8 1, .int .u8 3] 5)
      have oS := Own.new w6 5 #[.int .u8 0, .int .u8 2, .int .u8 1, .int .u8 3]
      have hr := Lib.hid (own_belowG h4 bX)
      have hlo := hI6.lo
      go_wp2_with (at_builtin; refine wpList_append_at _ rfl _ _ rfl sl_bytes (w.heap.size + 1) _ _ _ rfl hr.out (w6.heap.size + 1) (some ⟨w6.heap.size, 0, none⟩) 4 4 [.int .u8 0, .int .u8 2, .int .u8 1, .int .u8 3] rfl rfl (Shows.of_owned (xs := [.int .u8 0, .int .u8 2, .int .u8 1, .int .u8 3]) oS (Nat.lt_succ_self _)) (one8 [0, 2, 1, 3]) (by unfold maxLen; have := hgl6.out; omega) (by have := hgl6.out; omega) (by simp; omega) ?_; intro v6 w6 hrow6 hg6 hat6)
      have hN := rof_grow (zs := [0, 2, 1, 3]) hI6 bX hrow6 rfl hg6 hat6
      go_meet
      first | rw [if_pos rfl] | rw [if_pos trivial]
      exact hN
  case rest =>
  clear hI6 c5
  obtain ⟨w7, hw7⟩ : ∃ z, z = wc := ⟨_, rfl⟩
  subst hw7
  have hI7 := hcut
  clear hcut
  rw [hGe.out] at hI7
  have hGn := Lib.hid (ofG_ok a4 a5 2)
  clear hGe hgl5 hgl6
  generalize ofG a4 a5 2 = G at *
  have hbx7 := hI7.box
  obtain ⟨L1, h1, h2, h3, h4, h5⟩ := hbx7
  obtain ⟨gA, gc, rfl⟩ := own_form h4
  have hbl := Lib.hid hI7.bel
  have hlo := hI7.lo
  have hLn : L1.length ≤ 10 := by have := congrArg List.length h2; rw [List.length_map] at this; have := hb4.out; have := hl5.out; omega
  obtain ⟨oA1, oc1, ho1⟩ := h1.form
  injection ho1 with ho1 ho2 ho3
  subst ho1 ho3
  replace h1 : CRow 89 w7 (w.heap.size + 1) (.slice oA L1.length oc) L1 := by rw [← ho2]; exact h1
  rw [ho2]
  clear ho2 hI7
  by_cases hG0 : 0 < G.length
  · have hd : decide (0 < G.length) = true := decide_eq_true hG0
    rw [hd] at HK
    have bX : Below w7.heap.size w7 (w7.alloc (.cells #[.int .i64 69, .slice gA G.length gc] 89)) := bl_alloc (bl_refl _) _
    have oS := Own.new w7 89 #[.int .i64 69, .slice gA G.length gc]
    have hr := Lib.hid (own_belowG h1.1 bX)
    have hCD : CD (w7.alloc (.cells #[.int .i64 69, .slice gA G.length gc] 89)) (w.heap.size + 1) ⟨69, gA, G.length, gc, G⟩ := ⟨own_belowG h4 bX, rfl, hGn.out.2⟩
    have HCR := Lib.hid (h1.below bX)
    have H3 := Lib.hid h3
    have HM := Lib.hid h2
    have hGl := hGn.out.1
    clear h1 h2 h3 h4 h5
    go_wp2_with (at_builtin; refine wpList_append_grow _ rfl _ _ rfl sl_rcps (w.heap.size + 1) _ L1.length (cellsP L1) rfl hr.out (w7.heap.size + 1) (some ⟨w7.heap.size, 0, none⟩) 1 1 [.int .i64 69, .slice gA G.length gc] rfl rfl (Shows.of_owned (xs := [.int .i64 69, .slice gA G.length gc]) oS (Nat.lt_succ_self _)) (oneP _ _ _ _) (by unfold maxLen; omega) (by omega) (by simp; omega) ?_; intro v6 w6 hrow6 hg6)
    have hP := CRow.push of_types.2.2.2.2.2 (q := ⟨69, gA, G.length, gc, G⟩) HCR.out hCD hrow6 hg6
    obtain ⟨A6, c6, rfl⟩ := hP.form
    have hE : ROfEnd w (ofK a0 a1 a2 a3 a4 a5 an) (.slice A6 (L1 ++ [(⟨69, gA, G.length, gc, G⟩ : Cp)]).length c6) w6 := ⟨A6, c6, _, rfl, hP.caps, by rw [List.map_append, HM.out, HK.out]; rfl, fun s hs => by
      rcases List.mem_append.1 hs with hs | hs
      · exact H3.out s hs
      · rw [List.mem_singleton] at hs
        subst hs
        show G.length ≤ 1000
        omega, (bl_trans hbl.out bX).grown hg6 (bl_trans hbl.out bX).size (fun j hj => by have := (row_typed hr.out hj).2; omega)⟩
    have HE := Lib.hid hE
    clear hE hP hrow6 hg6 hCD oS
    go_wp2
    go_ret
    exact ⟨_, rfl, HE.out⟩
  · have hd : decide (0 < G.length) = false := decide_eq_false hG0
    rw [hd] at HK
    have hE : ROfEnd w (ofK a0 a1 a2 a3 a4 a5 an) (.slice oA L1.length oc) w7 := ⟨oA, oc, L1, rfl, h1.caps, by rw [h2, HK.out]; rfl, h3, hbl.out⟩
    have HE := Lib.hid hE
    clear hE h1 h2 h3 h4 h5
    go_wp2
    go_ret
    exact ⟨_, rfl, HE.out⟩
end Go.Proofs.YtniheakafkakhaaDoor

/- CapabilityOptions: the walk -/
namespace Go.Proofs.YtniheakafkakhaaDoor
open Go.RowKit Go.Sort

theorem big_dig4 (n : Int) (h0 : 0 ≤ n) (h1 : n < 4294967296) : big (digitsOf 4 n) = n := by
  rw [digitsOf_4]
  simp [big]
  omega
def okK (p : Int × List Int) : Bool := decide (0 ≤ p.1 ∧ p.1 ≤ 255 ∧ p.2.length ≤ 255)
theorem ofK_says (a0 a1 a2 a3 a4 a5 : Bool) (n : Int) : (ofK a0 a1 a2 a3 a4 a5 n).all okK = true ∧ sysK (ofK a0 a1 a2 a3 a4 a5 n) = (if a0 then some (big (digitsOf 4 n)) else none) ∧ famK 1 (ofK a0 a1 a2 a3 a4 a5 n) = a2 ∧ famK 2 (ofK a0 a1 a2 a3 a4 a5 n) = a3 ∧
    hasK 6 0 (ofK a0 a1 a2 a3 a4 a5 n) = a1 ∧ modK 1 (ofK a0 a1 a2 a3 a4 a5 n) = (if a4 then 3 else 0) ∧ modK 2 (ofK a0 a1 a2 a3 a4 a5 n) = (if a5 then 3 else 0) := by
  cases a0 <;> cases a1 <;> cases a2 <;> cases a3 <;> cases a4 <;> cases a5 <;> exact ⟨rfl, rfl, rfl, rfl, rfl, rfl, rfl⟩
theorem all_okK {ss : List Cp} (h : ∀ s ∈ ss, s.n = s.xs.length) : ss.all cpOk = (ss.map cpK).all okK := by
  rw [List.all_map, Bool.eq_iff_iff, List.all_eq_true, List.all_eq_true]
  have e : ∀ s ∈ ss, cpOk s = okK (cpK s) := fun s hs => by
    unfold cpOk okK cpK
    rw [h s hs]
  constructor
  · intro h1 s hs
    exact (e s hs).symm.trans (h1 s hs)
  · intro h1 s hs
    exact (e s hs).trans (h1 s hs)
set_option maxRecDepth 100000 in
theorem cpmode_any (b : Bool) (w : World) : Calls Tryd.prog 16 #[.bool b] w fun e w' => e = .returned (.int .i64 (if b then 3 else 0)) ∧ w = w' := by
  cases b
  · go_enter Tryd.func16, Tryd.ntmps16
    go_wp2
    go_ret
    exact ⟨rfl, rfl⟩
  · go_enter Tryd.func16, Tryd.ntmps16
    go_wp2
    go_ret
    exact ⟨rfl, rfl⟩
set_option maxRecDepth 100000 in
set_option maxHeartbeats 6400000 in
theorem cpopts_all (a0 a1 a2 a3 a4 a5 : Bool) (an : Int) (h0 : 0 ≤ an) (h1 : an < 4294967296) (w : World) (hf : Fams w) :
    Calls Tryd.prog 3 #[.agg #[.bool a0, .bool a1, .bool a2, .bool a3, .bool a4, .bool a5], .int .u32 an] w fun e w' => e = .returned (.bool true) ∧ Below w.heap.size w w' := by
  have hb0 := bl_alloc (bl_refl w) (.cells #[.bool a0, .bool a1, .bool a2, .bool a3, .bool a4, .bool a5] 23)
  have o0 := Own.new w 23 #[.bool a0, .bool a1, .bool a2, .bool a3, .bool a4, .bool a5]
  have hOf := Lib.hid (fun W hF => cof_any a0 a1 a2 a3 a4 a5 an h0 h1 W hF)
  have hROf := Lib.hid (fun W => rcof_any a0 a1 a2 a3 a4 a5 an h0 h1 W)
  have hSay := Lib.hid (ofK_says a0 a1 a2 a3 a4 a5 an)
  have hBig := Lib.hid (big_dig4 an h0 h1)
  have HF := Lib.hid hf
  clear h0 h1 hf
  go_enter Tryd.func3, Tryd.ntmps3
  go_wp2_with (refine wpList_load_row rfl 23 _ rfl w.heap.size rfl 23 #[.bool a0, .bool a1, .bool a2, .bool a3, .bool a4, .bool a5] (0, 0) (.struct (Tryd.prog.fieldsOf 23)) o0 op_descO rfl (op_infoO _ _ _ _ _ _) ?_)
  refine (hOf.out _ (HF.out.below hb0)).mono ?_
  rintro e w1 ⟨A, c, L, rfl, hC, hM, hs, hb1⟩
  have HM := Lib.hid hM
  have HS := Lib.hid hs
  have HC := Lib.hid hC
  have hLn : Hid (L.length ≤ 6) := Lib.hid (by
    have := congrArg List.length hM
    rw [List.length_map] at this
    rw [this]
    unfold ofK
    refine Nat.le_trans (ofPut_len _ _ _ _) (Nat.succ_le_succ (Nat.le_trans (ofPut_len _ _ _ _) (Nat.succ_le_succ (Nat.le_trans (ofPut_len _ _ _ _) (Nat.succ_le_succ (Nat.le_trans (ofPut_len _ _ _ _) (Nat.succ_le_succ (ofL_len a2 a3 2)))))))))
  have o1 := o0.step hb1
  have hb2 := bl_trans hb0 hb1
  clear hC hM hs hb0 hb1 o0
  go_wp2_with fail
  refine wp_region_held_drew (S := (fun X => Own X w.heap.size 23 #[.bool a0, .bool a1, .bool a2, .bool a3, .bool a4, .bool a5])) (by kernel_rfl) o1.drew (fun hHeld => ?_)
  refine wpAnyH_take (i := 0) (v := ?_) rfl (by kernel_rfl) (by kernel_rfl) (by kernel_rfl) (fun _ _ _ h => h) (Or.inl ⟨by rfl, ?_⟩) (by assumption) ?_
  rotate_left
  · (intro W hSw; have s0 : Own W w.heap.size 23 #[.bool a0, .bool a1, .bool a2, .bool a3, .bool a4, .bool a5] := hSw; have q0 := s0.cell (i := 0) (v := .bool a0) rfl; have q1 := s0.cell (i := 1) (v := .bool a1) rfl; have q2 := s0.cell (i := 2) (v := .bool a2) rfl; have q3 := s0.cell (i := 3) (v := .bool a3) rfl; have q4 := s0.cell (i := 4) (v := .bool a4) rfl; have q5 := s0.cell (i := 5) (v := .bool a5) rfl; go_simp; try with_reducible rfl)
  simp only [Act.put, List.getElem_toArray, List.getElem_cons_zero, List.setIfInBounds_toArray, List.set_cons_zero, List.set_cons_succ]
  refine wpAnyH_take (i := 2) (v := ?_) rfl (by kernel_rfl) (by kernel_rfl) (by kernel_rfl) (fun _ _ _ h => h) (Or.inl ⟨by rfl, ?_⟩) (by assumption) ?_
  rotate_left
  · (intro W hSw; have s0 : Own W w.heap.size 23 #[.bool a0, .bool a1, .bool a2, .bool a3, .bool a4, .bool a5] := hSw; have q0 := s0.cell (i := 0) (v := .bool a0) rfl; have q1 := s0.cell (i := 1) (v := .bool a1) rfl; have q2 := s0.cell (i := 2) (v := .bool a2) rfl; have q3 := s0.cell (i := 3) (v := .bool a3) rfl; have q4 := s0.cell (i := 4) (v := .bool a4) rfl; have q5 := s0.cell (i := 5) (v := .bool a5) rfl; go_simp; try with_reducible rfl)
  simp only [Act.put, List.getElem_toArray, List.getElem_cons_zero, List.getElem_cons_succ, List.setIfInBounds_toArray, List.set_cons_zero, List.set_cons_succ]
  refine wpAnyH_take (i := 3) (v := ?_) rfl (by kernel_rfl) (by kernel_rfl) (by kernel_rfl) (fun _ _ _ h => h) (Or.inl ⟨by rfl, ?_⟩) (by assumption) ?_
  rotate_left
  · (intro W hSw; have s0 : Own W w.heap.size 23 #[.bool a0, .bool a1, .bool a2, .bool a3, .bool a4, .bool a5] := hSw; have q0 := s0.cell (i := 0) (v := .bool a0) rfl; have q1 := s0.cell (i := 1) (v := .bool a1) rfl; have q2 := s0.cell (i := 2) (v := .bool a2) rfl; have q3 := s0.cell (i := 3) (v := .bool a3) rfl; have q4 := s0.cell (i := 4) (v := .bool a4) rfl; have q5 := s0.cell (i := 5) (v := .bool a5) rfl; go_simp; try with_reducible rfl)
  simp only [Act.put, List.getElem_toArray, List.getElem_cons_zero, List.getElem_cons_succ, List.setIfInBounds_toArray, List.set_cons_zero, List.set_cons_succ]
  refine wpAnyH_ready (rs := [1]) (by kernel_rfl) (by simp) ?_
  refine (AllReadyH.cons rfl (fun K hK => ?_) AllReadyH.nil)
  go_simp
  go_at_call 13
  refine (back16_any A L.length c L w1.drew (HC.out.step (bl_drewN (bl_refl w1) 1)) (by have := hLn.out; omega)).mono ?_
  rintro e w3 ⟨A3, c3, rfl, hC3, hb3⟩
  have hb3x := bl_trans (bl_drewN (bl_refl w1) 1) hb3
  have o3 := o1.step hb3x
  refine hK.out _ _ o3 (fun hHeld2 => ?_)
  clear hK K hHeld
  have hHeld := hHeld2
  clear hHeld2
  try simp only [Act.put, List.getElem_toArray, List.getElem_cons_zero, List.getElem_cons_succ, List.setIfInBounds_toArray, List.set_cons_zero, List.set_cons_succ]
  refine wpAnyH_ready (rs := [4]) (by kernel_rfl) (by simp) ?_
  refine (AllReadyH.cons rfl (fun K hK => ?_) AllReadyH.nil)
  go_simp
  go_at_call 14
  refine (hROf.out w3).mono ?_
  rintro e w4 ⟨ov, rfl, A4, c4, L4, rfl, hC4, hM4, hs4, hb4⟩
  have o4 := o3.step hb4
  have hC34 := hC3.step hb4
  refine hK.out _ _ o4 (fun hHeld2 => ?_)
  clear hK K hHeld
  have hHeld := hHeld2
  clear hHeld2
  try simp only [Act.put, List.getElem_toArray, List.getElem_cons_zero, List.getElem_cons_succ, List.setIfInBounds_toArray, List.set_cons_zero, List.set_cons_succ]
  refine wpAnyH_ready (rs := [5]) (by kernel_rfl) (by simp) ?_
  refine (AllReadyH.cons rfl (fun K hK => ?_) AllReadyH.nil)
  have hEq : decide (L.map cpK = L4.map cpK) = true := decide_eq_true (HM.out.trans hM4.symm)
  have hl4 : L4.length ≤ 6 := by have := congrArg List.length (HM.out.trans hM4.symm); rw [List.length_map, List.length_map] at this; have := hLn.out; omega
  have hSm := rcsame_any A3 A4 L.length L4.length c3 c4 L L4 w4 hC34 hC4 (by have := hLn.out; omega) (by omega)
  rw [hEq] at hSm
  go_simp
  go_at_call 12
  refine hSm.mono ?_
  rintro e w5 ⟨rfl, hb5⟩
  have o5 := o4.step hb5
  refine hK.out _ _ o5 (fun hHeld2 => ?_)
  clear hK K hHeld
  have hHeld := hHeld2
  clear hHeld2
  try simp only [Act.put, List.getElem_toArray, List.getElem_cons_zero, List.getElem_cons_succ, List.setIfInBounds_toArray, List.set_cons_zero, List.set_cons_succ]
  refine wpAnyH_take (i := 6) (v := ?_) rfl (by kernel_rfl) (by kernel_rfl) (by kernel_rfl) (fun _ _ _ h => h) (Or.inl ⟨by rfl, ?_⟩) (by assumption) ?_
  rotate_left
  · (intro W hSw; have s0 := hSw; go_simp; try with_reducible rfl)
  simp only [Act.put, List.getElem_toArray, List.getElem_cons_zero, List.getElem_cons_succ, List.setIfInBounds_toArray, List.set_cons_zero, List.set_cons_succ]
  refine wpAnyH_done (by kernel_rfl) ?_ _
  have hbA := bl_trans (bl_trans hb3x hb4) hb5
  have hb6 := bl_trans hb2 hbA
  have HC6 := Lib.hid (HC.out.step hbA)
  have hI6 := o5
  clear o1 o3 o4 o5 hC3 hC4 hC34 hM4 hs4 hb3 hb4 hb5 hb3x hb2 hbA hSm hEq hl4
  generalize w5 = w6 at *
  have hsys := Lib.hid (csys_any A L.length c L w6 HC6.out (by have := hLn.out; omega))
  rw [HM.out] at hsys
  rw [hSay.out.2.1] at hsys
  have q0 := hI6.cell (i := 0) (v := .bool a0) rfl
  have q1 := hI6.cell (i := 1) (v := .bool a1) rfl
  have q2 := hI6.cell (i := 2) (v := .bool a2) rfl
  have q3 := hI6.cell (i := 3) (v := .bool a3) rfl
  have q4 := hI6.cell (i := 4) (v := .bool a4) rfl
  have q5 := hI6.cell (i := 5) (v := .bool a5) rfl
  clear q0 q1 q2 q3 q4 q5
  cases a0
  · skip
    rw [if_neg (by decide)] at hsys
    go_wp2_with fail
    refine hsys.out.mono ?_
    rintro e w7 ⟨rfl, hb7⟩
    have hI7 := hI6.step hb7
    have hb8 := bl_trans hb6 hb7
    have HC7 := Lib.hid (HC6.out.step hb7)
    clear hI6 hb6 hb7 hsys
    have q0 := cell_regrown (hI7.cell (i := 0) (v := .bool false) rfl)
    have q1 := cell_regrown (hI7.cell (i := 1) (v := .bool a1) rfl)
    have q2 := cell_regrown (hI7.cell (i := 2) (v := .bool a2) rfl)
    have q3 := cell_regrown (hI7.cell (i := 3) (v := .bool a3) rfl)
    have q4 := cell_regrown (hI7.cell (i := 4) (v := .bool a4) rfl)
    have q5 := cell_regrown (hI7.cell (i := 5) (v := .bool a5) rfl)
    have hAll : L.all cpOk = true := by rw [all_okK (fun s hs => (HC7.out.2.1 s hs).1.1), HM.out]; exact hSay.out.1
    have al := Lib.hid (rg_ofC (w := w7) (fun W _ => alive16_any W))
    have cv := Lib.hid (rg_ofC (w := w7) (fun W hW => cvalid_any A L.length c L W (HC7.out.step hW) (by have := hLn.out; omega) (fun s hs => by have := HS.out s hs; omega)))
    rw [hAll] at cv
    have f1 := Lib.hid (rg_ofC (w := w7) (fun W hW => cfamily_any 1 rfl A L.length c L W (HC7.out.step hW) (by have := hLn.out; omega) (fun s hs => by have := HS.out s hs; omega) (HF.out.below (bl_trans hb8 hW))))
    have f2 := Lib.hid (rg_ofC (w := w7) (fun W hW => cfamily_any 2 rfl A L.length c L W (HC7.out.step hW) (by have := hLn.out; omega) (fun s hs => by have := HS.out s hs; omega) (HF.out.below (bl_trans hb8 hW))))
    have ch := Lib.hid (rg_ofC (w := w7) (fun W hW => chas_any 6 0 A L.length c L W (HC7.out.step hW) (by have := hLn.out; omega)))
    have m1 := Lib.hid (rg_ofC (w := w7) (fun W hW => cmode_any 1 rfl A L.length c L W (HC7.out.step hW) (by have := hLn.out; omega) (fun s hs => by have := HS.out s hs; omega) (HF.out.below (bl_trans hb8 hW))))
    have m2 := Lib.hid (rg_ofC (w := w7) (fun W hW => cmode_any 2 rfl A L.length c L W (HC7.out.step hW) (by have := hLn.out; omega) (fun s hs => by have := HS.out s hs; omega) (HF.out.below (bl_trans hb8 hW))))
    rw [HM.out] at f1 f2 ch m1 m2
    rw [hSay.out.2.2.1] at f1
    rw [hSay.out.2.2.2.1] at f2
    rw [hSay.out.2.2.2.2.1] at ch
    rw [hSay.out.2.2.2.2.2.1] at m1
    rw [hSay.out.2.2.2.2.2.2] at m2
    have k1 := Lib.hid (rg_ofC (w := w7) (fun W _ => (cpmode_any a4 W).mono (fun e w' h => ⟨h.1, by rw [← h.2]; exact bl_refl _⟩)))
    have k2 := Lib.hid (rg_ofC (w := w7) (fun W _ => (cpmode_any a5 W).mono (fun e w' h => ⟨h.1, by rw [← h.2]; exact bl_refl _⟩)))
    generalize (if a4 = true then (3 : Int) else 0) = V4 at *
    generalize (if a5 = true then (3 : Int) else 0) = V5 at *
    clear hI7
    go_wp2_with fail
    refine wp_region_quiet_below (by kernel_rfl) (by kernel_rfl) ?_
    repeat (first | go_big_quiet_skip | go_big_quiet_step (with_reducible first | exact al.out _ _ | exact cv.out _ _ | exact f1.out _ _ | exact f2.out _ _ | exact ch.out _ _ | exact m1.out _ _ | exact m2.out _ _ | exact k1.out _ _ | exact k2.out _ _))
    refine wpQuiet_nil ?_
    first | rintro w' ⟨⟨dq, osq⟩, rfl⟩ | rintro ⟨dq, osq⟩
    have hb9 := bl_trans hb8 (below_regrown w7 dq osq)
    generalize hgz : grow (redrawn w7 dq) osq = w9 at *
    clear q0 q1 q2 q3 q4 q5 al cv f1 f2 ch m1 m2 k1 k2 hgz
    go_wp2
    go_ret
    exact ⟨rfl, hb9⟩
  · skip
    rw [if_pos rfl, hBig.out] at hsys
    go_wp2_with fail
    refine hsys.out.mono ?_
    rintro e w7 ⟨rfl, hb7⟩
    have hI7 := hI6.step hb7
    have hb8 := bl_trans hb6 hb7
    have HC7 := Lib.hid (HC6.out.step hb7)
    clear hI6 hb6 hb7 hsys
    have q0 := cell_regrown (hI7.cell (i := 0) (v := .bool true) rfl)
    have q1 := cell_regrown (hI7.cell (i := 1) (v := .bool a1) rfl)
    have q2 := cell_regrown (hI7.cell (i := 2) (v := .bool a2) rfl)
    have q3 := cell_regrown (hI7.cell (i := 3) (v := .bool a3) rfl)
    have q4 := cell_regrown (hI7.cell (i := 4) (v := .bool a4) rfl)
    have q5 := cell_regrown (hI7.cell (i := 5) (v := .bool a5) rfl)
    have hAll : L.all cpOk = true := by rw [all_okK (fun s hs => (HC7.out.2.1 s hs).1.1), HM.out]; exact hSay.out.1
    have al := Lib.hid (rg_ofC (w := w7) (fun W _ => alive16_any W))
    have cv := Lib.hid (rg_ofC (w := w7) (fun W hW => cvalid_any A L.length c L W (HC7.out.step hW) (by have := hLn.out; omega) (fun s hs => by have := HS.out s hs; omega)))
    rw [hAll] at cv
    have f1 := Lib.hid (rg_ofC (w := w7) (fun W hW => cfamily_any 1 rfl A L.length c L W (HC7.out.step hW) (by have := hLn.out; omega) (fun s hs => by have := HS.out s hs; omega) (HF.out.below (bl_trans hb8 hW))))
    have f2 := Lib.hid (rg_ofC (w := w7) (fun W hW => cfamily_any 2 rfl A L.length c L W (HC7.out.step hW) (by have := hLn.out; omega) (fun s hs => by have := HS.out s hs; omega) (HF.out.below (bl_trans hb8 hW))))
    have ch := Lib.hid (rg_ofC (w := w7) (fun W hW => chas_any 6 0 A L.length c L W (HC7.out.step hW) (by have := hLn.out; omega)))
    have m1 := Lib.hid (rg_ofC (w := w7) (fun W hW => cmode_any 1 rfl A L.length c L W (HC7.out.step hW) (by have := hLn.out; omega) (fun s hs => by have := HS.out s hs; omega) (HF.out.below (bl_trans hb8 hW))))
    have m2 := Lib.hid (rg_ofC (w := w7) (fun W hW => cmode_any 2 rfl A L.length c L W (HC7.out.step hW) (by have := hLn.out; omega) (fun s hs => by have := HS.out s hs; omega) (HF.out.below (bl_trans hb8 hW))))
    rw [HM.out] at f1 f2 ch m1 m2
    rw [hSay.out.2.2.1] at f1
    rw [hSay.out.2.2.2.1] at f2
    rw [hSay.out.2.2.2.2.1] at ch
    rw [hSay.out.2.2.2.2.2.1] at m1
    rw [hSay.out.2.2.2.2.2.2] at m2
    have k1 := Lib.hid (rg_ofC (w := w7) (fun W _ => (cpmode_any a4 W).mono (fun e w' h => ⟨h.1, by rw [← h.2]; exact bl_refl _⟩)))
    have k2 := Lib.hid (rg_ofC (w := w7) (fun W _ => (cpmode_any a5 W).mono (fun e w' h => ⟨h.1, by rw [← h.2]; exact bl_refl _⟩)))
    generalize (if a4 = true then (3 : Int) else 0) = V4 at *
    generalize (if a5 = true then (3 : Int) else 0) = V5 at *
    clear hI7
    go_wp2_with fail
    refine wp_region_quiet_below (by kernel_rfl) (by kernel_rfl) ?_
    repeat (first | go_big_quiet_skip | go_big_quiet_step (with_reducible first | exact al.out _ _ | exact cv.out _ _ | exact f1.out _ _ | exact f2.out _ _ | exact ch.out _ _ | exact m1.out _ _ | exact m2.out _ _ | exact k1.out _ _ | exact k2.out _ _))
    refine wpQuiet_nil ?_
    first | rintro w' ⟨⟨dq, osq⟩, rfl⟩ | rintro ⟨dq, osq⟩
    have hb9 := bl_trans hb8 (below_regrown w7 dq osq)
    generalize hgz : grow (redrawn w7 dq) osq = w9 at *
    clear q0 q1 q2 q3 q4 q5 al cv f1 f2 ch m1 m2 k1 k2 hgz
    go_wp2
    go_ret
    exact ⟨rfl, hb9⟩
end Go.Proofs.YtniheakafkakhaaDoor

/- open.fits, open.Bytes, open.Valid -/
namespace Go.Proofs.YtniheakafkakhaaDoor
open Go.RowKit Go.Sort
/-- Whether the numbers of an OPEN are right. -/
def numB (p q r : Int) : Bool := !(p == 0) && (!(r == 0) && ((q == 0) || (decide (3 ≤ q) && decide (q ≤ 65535))))
def fitB (p q r sa : Int) (sb : Bool) : Bool := numB p q r && (if sb = true then sa == p else decide (p ≤ 65535))
theorem fitB_q {p q r sa : Int} {sb : Bool} (h : fitB p q r sa sb = true) : 0 ≤ q ∧ q ≤ 65535 := by
  unfold fitB numB at h
  rw [Bool.and_eq_true, Bool.and_eq_true, Bool.and_eq_true, Bool.or_eq_true, Bool.and_eq_true, decide_eq_true_iff, decide_eq_true_iff, beq_iff_eq] at h
  omega
set_option maxRecDepth 100000 in
set_option maxHeartbeats 3200000 in
theorem ofits_any (p q r : Int) (A : Option Addr) (n c : Nat) (ss : List Cp) (w : World) (h : Caps w w.heap.size A n ss) (hn : n ≤ 1000) :
    Calls Tryd.prog 70 #[.agg #[.int .u32 p, .int .i64 q, .int .u32 r, .slice A n c]] w fun e w' => e = .returned (.bool (fitB p q r ((sysK (ss.map cpK)).getD 0) (sysK (ss.map cpK)).isSome)) ∧ Below w.heap.size w w' := by
  have hb0 := bl_alloc (bl_refl w) (.cells #[.int .u32 p, .int .i64 q, .int .u32 r, .slice A n c] 47)
  have o0 := Own.new w 47 #[.int .u32 p, .int .i64 q, .int .u32 r, .slice A n c]
  have hSy := Lib.hid (csys_any A n c ss _ (h.step hb0) (by omega))
  generalize (sysK (ss.map cpK)).getD 0 = sa at *
  generalize (sysK (ss.map cpK)).isSome = sb at *
  have HK : Hid (fitB p q r sa sb = (numB p q r && (if sb = true then sa == p else decide (p ≤ 65535)))) := Lib.hid rfl
  have HN : Hid (numB p q r = (!(p == 0) && (!(r == 0) && ((q == 0) || (decide (3 ≤ q) && decide (q ≤ 65535)))))) := Lib.hid rfl
  obtain ⟨e0, e1, e2, e3⟩ := own_end o0
  clear h hn
  by_cases hp : p = 0
  · have hv := Lib.hid (show fitB p q r sa sb = false by rw [HK.out, HN.out, hp]; rfl)
    subst hp
    clear HK HN
    go_enter Tryd.func70, Tryd.ntmps70
    go_wp2
    go_ret
    exact ⟨by rw [hv.out]; first | done | rfl, hb0⟩
  · have ep : (p == 0) = false := by simpa using hp
    by_cases hr : r = 0
    · have hv := Lib.hid (show fitB p q r sa sb = false by rw [HK.out, HN.out, hr, ep]; rfl)
      subst hr
      clear HK HN hp
      go_enter Tryd.func70, Tryd.ntmps70
      go_wp2
      go_ret
      exact ⟨by rw [hv.out]; first | done | rfl, hb0⟩
    · have er : (r == 0) = false := by simpa using hr
      clear hp hr
      by_cases hq : q = 0
      · have hnum := Lib.hid (show numB p q r = true by rw [HN.out, ep, er, hq]; rfl)
        subst hq
        rcases (show sb = false ∨ sb = true ∧ (sa == p) = true ∨ sb = true ∧ (sa == p) = false by cases sb <;> cases (sa == p) <;> simp) with rfl | ⟨rfl, es⟩ | ⟨rfl, es⟩
        · have hv := Lib.hid (show fitB p 0 r sa false = decide (p ≤ 65535) by rw [HK.out, hnum.out]; simp)
          clear HK HN hnum
          go_enter Tryd.func70, Tryd.ntmps70
          go_wp2_with fail
          refine hSy.out.mono ?_
          rintro e w2 ⟨rfl, hb2⟩
          have hb3 := bl_trans hb0 hb2
          have o2 := o0.step hb2
          clear hSy e0 e1 e2 e3 o0
          obtain ⟨e0, e1, e2, e3⟩ := own_end o2
          go_wp2
          go_ret
          exact ⟨by rw [hv.out]; first | done | rfl, hb3⟩
        · have hv := Lib.hid (show fitB p 0 r sa true = true by rw [HK.out, hnum.out]; simp [es])
          clear HK HN hnum
          go_enter Tryd.func70, Tryd.ntmps70
          go_wp2_with fail
          refine hSy.out.mono ?_
          rintro e w2 ⟨rfl, hb2⟩
          have hb3 := bl_trans hb0 hb2
          have o2 := o0.step hb2
          clear hSy e0 e1 e2 e3 o0
          obtain ⟨e0, e1, e2, e3⟩ := own_end o2
          go_wp2
          go_ret
          exact ⟨by rw [hv.out]; first | done | rfl, hb3⟩
        · have hv := Lib.hid (show fitB p 0 r sa true = false by rw [HK.out, hnum.out]; simp [es])
          clear HK HN hnum
          go_enter Tryd.func70, Tryd.ntmps70
          go_wp2_with fail
          refine hSy.out.mono ?_
          rintro e w2 ⟨rfl, hb2⟩
          have hb3 := bl_trans hb0 hb2
          have o2 := o0.step hb2
          clear hSy e0 e1 e2 e3 o0
          obtain ⟨e0, e1, e2, e3⟩ := own_end o2
          go_wp2
          go_ret
          exact ⟨by rw [hv.out]; first | done | rfl, hb3⟩
      · have eq : (q == 0) = false := by simpa using hq
        have nq : (q != 0) = true := by simpa using hq
        clear hq
        by_cases h3 : q < 3
        · have d3 : decide (q < 3) = true := decide_eq_true h3
          have hv := Lib.hid (show fitB p q r sa sb = false by rw [HK.out, HN.out, ep, er, eq, decide_eq_false (show ¬ 3 ≤ q by omega)]; rfl)
          clear HK HN h3
          go_enter Tryd.func70, Tryd.ntmps70
          go_wp2
          go_ret
          exact ⟨by rw [hv.out]; first | done | rfl, hb0⟩
        · have d3 : decide (q < 3) = false := decide_eq_false h3
          by_cases h6 : 65535 < q
          · have d6 : decide (65535 < q) = true := decide_eq_true h6
            have hv := Lib.hid (show fitB p q r sa sb = false by rw [HK.out, HN.out, ep, er, eq, decide_eq_false (show ¬ q ≤ 65535 by omega), Bool.and_false]; rfl)
            clear HK HN h3 h6
            go_enter Tryd.func70, Tryd.ntmps70
            go_wp2
            go_ret
            exact ⟨by rw [hv.out]; first | done | rfl, hb0⟩
          · have d6 : decide (65535 < q) = false := decide_eq_false h6
            have hnum := Lib.hid (show numB p q r = true by rw [HN.out, ep, er, eq, decide_eq_true (show 3 ≤ q by omega), decide_eq_true (show q ≤ 65535 by omega)]; rfl)
            clear h3 h6
            rcases (show sb = false ∨ sb = true ∧ (sa == p) = true ∨ sb = true ∧ (sa == p) = false by cases sb <;> cases (sa == p) <;> simp) with rfl | ⟨rfl, es⟩ | ⟨rfl, es⟩
            · have hv := Lib.hid (show fitB p q r sa false = decide (p ≤ 65535) by rw [HK.out, hnum.out]; simp)
              clear HK HN hnum
              go_enter Tryd.func70, Tryd.ntmps70
              go_wp2_with fail
              refine hSy.out.mono ?_
              rintro e w2 ⟨rfl, hb2⟩
              have hb3 := bl_trans hb0 hb2
              have o2 := o0.step hb2
              clear hSy e0 e1 e2 e3 o0
              obtain ⟨e0, e1, e2, e3⟩ := own_end o2
              go_wp2
              go_ret
              exact ⟨by rw [hv.out]; first | done | rfl, hb3⟩
            · have hv := Lib.hid (show fitB p q r sa true = true by rw [HK.out, hnum.out]; simp [es])
              clear HK HN hnum
              go_enter Tryd.func70, Tryd.ntmps70
              go_wp2_with fail
              refine hSy.out.mono ?_
              rintro e w2 ⟨rfl, hb2⟩
              have hb3 := bl_trans hb0 hb2
              have o2 := o0.step hb2
              clear hSy e0 e1 e2 e3 o0
              obtain ⟨e0, e1, e2, e3⟩ := own_end o2
              go_wp2
              go_ret
              exact ⟨by rw [hv.out]; first | done | rfl, hb3⟩
            · have hv := Lib.hid (show fitB p q r sa true = false by rw [HK.out, hnum.out]; simp [es])
              clear HK HN hnum
              go_enter Tryd.func70, Tryd.ntmps70
              go_wp2_with fail
              refine hSy.out.mono ?_
              rintro e w2 ⟨rfl, hb2⟩
              have hb3 := bl_trans hb0 hb2
              have o2 := o0.step hb2
              clear hSy e0 e1 e2 e3 o0
              obtain ⟨e0, e1, e2, e3⟩ := own_end o2
              go_wp2
              go_ret
              exact ⟨by rw [hv.out]; first | done | rfl, hb3⟩
/-- The parameter of an OPEN's form. -/
def oPar (ss : List Cp) : List Int := if ss = [] then [] else 2 :: ((cpsForm ss).length : Int) :: cpsForm ss
/-- The form of an OPEN. -/
def oFormK (num q r : Int) (P : List Int) : List Int := [4] ++ (digitsOf 2 num ++ (digitsOf 2 q ++ (digitsOf 4 r ++ ([(P.length : Int)] ++ P))))
def oNum (p : Int) : Int := if 65535 < p then 23456 else p
def oOk (p q r : Int) (ss : List Cp) : Bool := ss.all cpOk && (decide ((cpsForm ss).length ≤ 253) && fitB p q r ((sysK (ss.map cpK)).getD 0) (sysK (ss.map cpK)).isSome)
/-- What open.Bytes gives. -/
def OBytesR (p q r : Int) (ss : List Cp) (w : World) (e : Ending) (w' : World) : Prop := ∃ A' n' c', e = .returned (.tuple #[.slice A' n' c', .bool (oOk p q r ss)]) ∧ Bytes w' w'.heap.size A' n' (if oOk p q r ss = true then oFormK (oNum p) q r (oPar ss) else []) ∧ Below w.heap.size w w'
theorem parts_six {W : World} {j : Nat} {T : TypeId} {A1 A2 A3 A4 A5 A6 : Option Addr} {n1 n2 n3 n4 n5 n6 c1 c2 c3 c4 c5 c6 : Nat} {xs1 xs2 xs3 xs4 xs5 xs6 : List Int} (ho : Own W j T #[.slice A1 n1 c1, .slice A2 n2 c2, .slice A3 n3 c3, .slice A4 n4 c4, .slice A5 n5 c5, .slice A6 n6 c6]) (h1 : Bytes W W.heap.size A1 n1 xs1) (h2 : Bytes W W.heap.size A2 n2 xs2) (h3 : Bytes W W.heap.size A3 n3 xs3) (h4 : Bytes W W.heap.size A4 n4 xs4) (h5 : Bytes W W.heap.size A5 n5 xs5) (h6 : Bytes W W.heap.size A6 n6 xs6) :
    Parts W W.heap.size (some ⟨j, 0, none⟩) 6 [⟨A1, n1, c1, xs1⟩, ⟨A2, n2, c2, xs2⟩, ⟨A3, n3, c3, xs3⟩, ⟨A4, n4, c4, xs4⟩, ⟨A5, n5, c5, xs5⟩, ⟨A6, n6, c6, xs6⟩] := by
  refine ⟨rfl, fun p hp => ?_, Shows.of_owned ho ho.lt⟩
  simp at hp
  rcases hp with rfl | rfl | rfl | rfl | rfl | rfl
  · exact h1
  · exact h2
  · exact h3
  · exact h4
  · exact h5
  · exact h6
theorem Bytes.stp {W W' : World} {A : Option Addr} {n : Nat} {xs : List Int} (h : Bytes W W.heap.size A n xs) (hb : Below W.heap.size W W') : Bytes W' W'.heap.size A n xs := (h.below hb).more hb.size
set_option maxRecDepth 100000 in
/-- The last Cat of open.Bytes: six parts. -/
theorem ocat6 {W : World} {A2 A3 A4 A6 : Option Addr} {n6 c2 c3 c4 c6 : Nat} {num q r : Int} {P : List Int} (h2 : Bytes W W.heap.size A2 2 (digitsOf 2 num)) (h3 : Bytes W W.heap.size A3 2 (digitsOf 2 q)) (h4 : Bytes W W.heap.size A4 4 (digitsOf 4 r)) (h6 : Bytes W W.heap.size A6 n6 P) (hP : n6 ≤ 255) :
    Calls Tryd.prog 53 #[.slice (some ⟨W.heap.size + 1 + 1, 0, none⟩) 6 6] (((W.alloc (.cells #[.int .u8 4] 5)).alloc (.cells #[.int .u8 n6] 5)).alloc (.cells #[.slice (some ⟨W.heap.size, 0, none⟩) 1 1, .slice A2 2 c2, .slice A3 2 c3, .slice A4 4 c4, .slice (some ⟨W.heap.size + 1, 0, none⟩) 1 1, .slice A6 n6 c6] 43)) fun e w' => ∃ B d, e = .returned (.slice B (oFormK num q r P).length d) ∧ Bytes w' w'.heap.size B (oFormK num q r P).length (oFormK num q r P) ∧ Below W.heap.size W w' := by
  have s1 : (W.alloc (.cells #[.int .u8 4] 5)).heap.size = W.heap.size + 1 := by simp
  have s2 : ((W.alloc (.cells #[.int .u8 4] 5)).alloc (.cells #[.int .u8 n6] 5)).heap.size = W.heap.size + 1 + 1 := by simp
  have hb := bl_alloc (bl_alloc (bl_alloc (bl_refl W) (.cells #[.int .u8 4] 5)) (.cells #[.int .u8 n6] 5)) (.cells #[.slice (some ⟨W.heap.size, 0, none⟩) 1 1, .slice A2 2 c2, .slice A3 2 c3, .slice A4 4 c4, .slice (some ⟨W.heap.size + 1, 0, none⟩) 1 1, .slice A6 n6 c6] 43)
  have o1 := ((Own.new W 5 #[.int .u8 4]).alloc (.cells #[.int .u8 n6] 5)).alloc (.cells #[.slice (some ⟨W.heap.size, 0, none⟩) 1 1, .slice A2 2 c2, .slice A3 2 c3, .slice A4 4 c4, .slice (some ⟨W.heap.size + 1, 0, none⟩) 1 1, .slice A6 n6 c6] 43)
  have o5 := (Own.new (W.alloc (.cells #[.int .u8 4] 5)) 5 #[.int .u8 n6]).alloc (.cells #[.slice (some ⟨W.heap.size, 0, none⟩) 1 1, .slice A2 2 c2, .slice A3 2 c3, .slice A4 4 c4, .slice (some ⟨W.heap.size + 1, 0, none⟩) 1 1, .slice A6 n6 c6] 43)
  rw [s1] at o5
  have oj := Own.new ((W.alloc (.cells #[.int .u8 4] 5)).alloc (.cells #[.int .u8 n6] 5)) 43 #[.slice (some ⟨W.heap.size, 0, none⟩) 1 1, .slice A2 2 c2, .slice A3 2 c3, .slice A4 4 c4, .slice (some ⟨W.heap.size + 1, 0, none⟩) 1 1, .slice A6 n6 c6]
  rw [s2] at oj
  have hpt := parts_six (c1 := 1) (c5 := 1) oj (Bytes.of_owned (xs := [4]) o1 (by intro x hx; rw [List.mem_singleton] at hx; omega) o1.lt) (h2.stp hb) (h3.stp hb) (h4.stp hb) (Bytes.of_owned (xs := [(n6 : Int)]) o5 (by intro x hx; rw [List.mem_singleton] at hx; omega) o5.lt) (h6.stp hb)
  have hn6 : n6 = P.length := h6.1
  have hfl : flat [⟨some ⟨W.heap.size, 0, none⟩, 1, 1, [4]⟩, ⟨A2, 2, c2, digitsOf 2 num⟩, ⟨A3, 2, c3, digitsOf 2 q⟩, ⟨A4, 4, c4, digitsOf 4 r⟩, ⟨some ⟨W.heap.size + 1, 0, none⟩, 1, 1, [(n6 : Int)]⟩, ⟨A6, n6, c6, P⟩] = oFormK num q r P := by simp [flat, oFormK, hn6]
  have hlen : (oFormK num q r P).length ≤ 1000 := by
    unfold oFormK
    rw [List.length_append, List.length_append, List.length_append, List.length_append, List.length_append, digitsOf_len, digitsOf_len, digitsOf_len]
    simp
    omega
  refine (cat_bytes (c := 6) hpt (by omega) (by rw [hfl]; omega)).mono ?_
  rw [hfl]
  rintro e w' ⟨B, d, rfl, ho, hb2⟩
  exact ⟨B, d, rfl, ho, bl_trans hb hb2⟩
set_option maxRecDepth 100000 in
/-- The Cat of the parameter: two parts. -/
theorem ocat2 {W : World} {A2 : Option Addr} {n2 c2 : Nat} {xs : List Int} (h2 : Bytes W W.heap.size A2 n2 xs) (hP : n2 ≤ 253) :
    Calls Tryd.prog 53 #[.slice (some ⟨W.heap.size + 1, 0, none⟩) 2 2] ((W.alloc (.cells #[.int .u8 2, .int .u8 n2] 5)).alloc (.cells #[.slice (some ⟨W.heap.size, 0, none⟩) 2 2, .slice A2 n2 c2] 43)) fun e w' => ∃ B d, e = .returned (.slice B (n2 + 2) d) ∧ Bytes w' w'.heap.size B (n2 + 2) (2 :: (n2 : Int) :: xs) ∧ Below W.heap.size W w' := by
  have s1 : (W.alloc (.cells #[.int .u8 2, .int .u8 n2] 5)).heap.size = W.heap.size + 1 := by simp
  have hb := bl_alloc (bl_alloc (bl_refl W) (.cells #[.int .u8 2, .int .u8 n2] 5)) (.cells #[.slice (some ⟨W.heap.size, 0, none⟩) 2 2, .slice A2 n2 c2] 43)
  have o1 := (Own.new W 5 #[.int .u8 2, .int .u8 n2]).alloc (.cells #[.slice (some ⟨W.heap.size, 0, none⟩) 2 2, .slice A2 n2 c2] 43)
  have oj := Own.new (W.alloc (.cells #[.int .u8 2, .int .u8 n2] 5)) 43 #[.slice (some ⟨W.heap.size, 0, none⟩) 2 2, .slice A2 n2 c2]
  rw [s1] at oj
  have hpt := parts_two (c1 := 2) oj (Bytes.of_owned (xs := [2, (n2 : Int)]) o1 (by intro x hx; simp at hx; omega) o1.lt) (h2.stp hb)
  have hn2 : n2 = xs.length := h2.1
  have hfl : flat [⟨some ⟨W.heap.size, 0, none⟩, 2, 2, [2, (n2 : Int)]⟩, ⟨A2, n2, c2, xs⟩] = 2 :: (n2 : Int) :: xs := by simp [flat]
  refine (cat_bytes (c := 2) hpt (by omega) (by rw [hfl]; simp; omega)).mono ?_
  rw [hfl]
  rintro e w' ⟨B, d, rfl, ho, hb2⟩
  have hl : (2 :: (n2 : Int) :: xs).length = n2 + 2 := by simp; omega
  rw [hl] at ho ⊢
  exact ⟨B, d, rfl, ho, bl_trans hb hb2⟩
theorem obytesR_no {p q r : Int} {ss : List Cp} {w w' : World} (h : oOk p q r ss = false) (hb : Below w.heap.size w w') : OBytesR p q r ss w (.returned (.tuple #[.slice none 0 0, .bool false])) w' :=
  ⟨none, 0, 0, by rw [h], by rw [h]; exact Bytes.nil _ _ _, hb⟩
theorem obytesR_yes {p q r : Int} {ss : List Cp} {w w' : World} {B : Option Addr} {k d : Nat} {num : Int} {P : List Int} (h : oOk p q r ss = true) (hm : oNum p = num) (hP : oPar ss = P) (hx : Bytes w' w'.heap.size B k (oFormK num q r P)) (hb : Below w.heap.size w w') : OBytesR p q r ss w (.returned (.tuple #[.slice B k d, .bool true])) w' :=
  ⟨B, k, d, by rw [h], by rw [h, if_pos rfl, hm, hP]; exact hx, hb⟩
set_option maxRecDepth 100000 in
set_option maxHeartbeats 12800000 in
theorem obytes_any (p q r : Int) (A : Option Addr) (n c : Nat) (ss : List Cp) (w : World) (h : Caps w w.heap.size A n ss) (hn : n ≤ 1000) (hs : ∀ s ∈ ss, s.n ≤ 1000) (hp0 : 0 ≤ p ∧ p < 4294967296) (hr0 : 0 ≤ r ∧ r < 4294967296) :
    Calls Tryd.prog 24 #[.agg #[.int .u32 p, .int .i64 q, .int .u32 r, .slice A n c]] w fun e w' => OBytesR p q r ss w e w' := by
  have hb0 := bl_alloc (bl_refl w) (.cells #[.int .u32 p, .int .i64 q, .int .u32 r, .slice A n c] 47)
  have o0 := Own.new w 47 #[.int .u32 p, .int .i64 q, .int .u32 r, .slice A n c]
  have HC := Lib.hid (h.step hb0)
  have HN := Lib.hid h.1
  have hB := Lib.hid (cbytes_any A n c ss _ HC.out hn hs)
  have hFi : Hid (∀ W, Below (w.alloc (.cells #[.int .u32 p, .int .i64 q, .int .u32 r, .slice A n c] 47)).heap.size (w.alloc (.cells #[.int .u32 p, .int .i64 q, .int .u32 r, .slice A n c] 47)) W → Calls Tryd.prog 70 #[.agg #[.int .u32 p, .int .i64 q, .int .u32 r, .slice A n c]] W fun e w' => e = .returned (.bool (fitB p q r ((sysK (ss.map cpK)).getD 0) (sysK (ss.map cpK)).isSome)) ∧ Below W.heap.size W w') := Lib.hid fun W hb => ofits_any p q r A n c ss W (HC.out.step hb) hn
  have HO : Hid (oOk p q r ss = (ss.all cpOk && (decide ((cpsForm ss).length ≤ 253) && fitB p q r ((sysK (ss.map cpK)).getD 0) (sysK (ss.map cpK)).isSome))) := Lib.hid rfl
  have hFq : Hid (fitB p q r ((sysK (ss.map cpK)).getD 0) (sysK (ss.map cpK)).isSome = true → 0 ≤ q ∧ q ≤ 65535) := Lib.hid fitB_q
  generalize fitB p q r ((sysK (ss.map cpK)).getD 0) (sysK (ss.map cpK)).isSome = fb at *
  obtain ⟨e0, e1, e2, e3⟩ := own_end o0
  clear h hs
  go_enter Tryd.func24, Tryd.ntmps24
  go_wp2_with fail
  refine hB.out.mono ?_
  rintro e w2 ⟨A2, n2, c2, rfl, hx2, hc2, hb2⟩
  have hb3 := bl_trans hb0 hb2
  have o2 := o0.step hb2
  clear hB e0 e1 e2 e3 o0 HC
  generalize hok : ss.all cpOk = ok at *
  obtain ⟨e0, e1, e2, e3⟩ := own_end o2
  cases ok
  · have hv : oOk p q r ss = false := by rw [HO.out]; rfl
    have HV := Lib.hid hv
    clear hv hx2 hok
    go_wp2
    go_ret2
    exact obytesR_no HV.out hb3
  · rw [if_pos rfl] at hx2
    have HX2 := Lib.hid hx2
    have hl2 := Lib.hid hx2.1
    clear hx2 hok
    by_cases h253 : (253 : Int) < n2
    · have d1 : decide ((253 : Int) < n2) = true := decide_eq_true h253
      have HV := Lib.hid (show oOk p q r ss = false by rw [HO.out, decide_eq_false (show ¬ (cpsForm ss).length ≤ 253 by rw [← hl2.out]; omega)]; rfl)
      clear HO h253
      go_wp2
      go_ret2
      exact obytesR_no HV.out hb3
    · have d1 : decide ((253 : Int) < n2) = false := decide_eq_false h253
      have hn2 : n2 ≤ 253 := by omega
      have HN2 := Lib.hid hn2
      have HV := Lib.hid (show oOk p q r ss = fb by rw [HO.out, decide_eq_true (show (cpsForm ss).length ≤ 253 by rw [← hl2.out]; omega)]; simp)
      clear HO h253 hn2
      go_wp2_with fail
      refine (hFi.out _ hb2).mono ?_
      rintro e w3 ⟨rfl, hb4⟩
      have hb5 := bl_trans hb3 hb4
      have o3 := o2.step hb4
      have HX3 := Lib.hid (HX2.out.stp hb4)
      clear HX2 e0 e1 e2 e3 o2 hb3 hb4 hFi
      obtain ⟨e0, e1, e2, e3⟩ := own_end o3
      cases fb
      · go_wp2
        go_ret2
        exact obytesR_no HV.out hb5
      · have hqq := hFq.out rfl
        have hq0 := Lib.hid hqq
        have wq : IntKind.u32.wrap q = q := IntWalk.u32_in _ (by omega)
        have hp1 := Lib.hid hp0
        have hr1 := Lib.hid hr0
        clear hFq hqq hp0 hr0 d1 hb2 hc2
        by_cases hbig : 65535 < p
        · have d2 : decide (65535 < p) = true := decide_eq_true hbig
          have hm := Lib.hid (show oNum p = 23456 by unfold oNum; rw [if_pos hbig])
          clear hbig
          rcases Nat.eq_zero_or_pos n with hz | hz
          · have hPe := Lib.hid (show oPar ss = [] by have : ss = [] := List.length_eq_zero_iff.1 (by rw [← HN.out]; exact hz); rw [this]; rfl)
            subst hz
            go_wp2_with fail
            refine (put_yes 2 23456 _ (by omega) (by omega) (by have := hp1.out; omega) (by show 23456 < 65536; have := hp1.out; omega)).mono ?_
            rintro e w4 ⟨rfl, hown, hc4⟩
            have hb6 := bl_trans hb5 hc4
            have o4 := o3.step hc4
            have P4 := Lib.hid (Bytes.of_owned hown (digitsOf_range _ _) hown.lt)
            have HX4 := Lib.hid (HX3.out.stp hc4)
            clear HX3 e0 e1 e2 e3 o3 hb5 hown
            obtain ⟨e0, e1, e2, e3⟩ := own_end o4
            go_wp2_with fail
            refine (put_yes 2 q _ (by omega) (by omega) (by have := hq0.out; omega) (by show q < 65536; have := hq0.out; omega)).mono ?_
            rintro e w5 ⟨rfl, hown, hc5⟩
            have hb7 := bl_trans hb6 hc5
            have o5 := o4.step hc5
            have Q5 := Lib.hid (Bytes.of_owned hown (digitsOf_range _ _) hown.lt)
            have HX5 := Lib.hid (HX4.out.stp hc5)
            have P5 := Lib.hid (P4.out.stp hc5)
            clear HX4 P4 e0 e1 e2 e3 o4 hb6 hown
            obtain ⟨e0, e1, e2, e3⟩ := own_end o5
            go_wp2_with fail
            refine (put_yes 4 r _ (by omega) (by omega) (by have := hr1.out; omega) (by show r < 4294967296; have := hr1.out; omega)).mono ?_
            rintro e w6 ⟨rfl, hown, hc6⟩
            have hb8 := bl_trans hb7 hc6
            have o6 := o5.step hc6
            have R6 := Lib.hid (Bytes.of_owned hown (digitsOf_range _ _) hown.lt)
            have HX6 := Lib.hid (HX5.out.stp hc6)
            have P6 := Lib.hid (P5.out.stp hc6)
            have Q6 := Lib.hid (Q5.out.stp hc6)
            clear HX5 P5 Q5 e0 e1 e2 e3 o5 hb7 hown hc4 hc5 hc6
            obtain ⟨e0, e1, e2, e3⟩ := own_end o6
            go_wp2_with fail
            have h6 := ocat6 (W := w6) (num := 23456) (q := q) (r := r) (c2 := 2) (c3 := 2) (c4 := 4) (c6 := 0) P6.out Q6.out R6.out (Bytes.nil _ _ none) (by omega)
            refine h6.mono ?_
            rintro e w8 ⟨B, d, rfl, hx, hc8⟩
            have hb9 := bl_trans hb8 hc8
            go_wp2
            go_ret2
            exact obytesR_yes HV.out hm.out hPe.out hx hb9
          · have hPe := Lib.hid (show oPar ss = 2 :: (n2 : Int) :: cpsForm ss by unfold oPar; rw [if_neg (by intro he; rw [he] at HN; have := HN.out; simp at this; omega), hl2.out])
            have dz : decide ((0 : Int) < n) = true := decide_eq_true (by omega)
            have dz2 : decide (0 < n) = true := decide_eq_true hz
            have dz3 : ¬ n = 0 := by omega
            go_wp2_with fail
            refine (put_yes 2 23456 _ (by omega) (by omega) (by have := hp1.out; omega) (by show 23456 < 65536; have := hp1.out; omega)).mono ?_
            rintro e w4 ⟨rfl, hown, hc4⟩
            have hb6 := bl_trans hb5 hc4
            have o4 := o3.step hc4
            have P4 := Lib.hid (Bytes.of_owned hown (digitsOf_range _ _) hown.lt)
            have HX4 := Lib.hid (HX3.out.stp hc4)
            clear HX3 e0 e1 e2 e3 o3 hb5 hown
            obtain ⟨e0, e1, e2, e3⟩ := own_end o4
            go_wp2_with fail
            refine (put_yes 2 q _ (by omega) (by omega) (by have := hq0.out; omega) (by show q < 65536; have := hq0.out; omega)).mono ?_
            rintro e w5 ⟨rfl, hown, hc5⟩
            have hb7 := bl_trans hb6 hc5
            have o5 := o4.step hc5
            have Q5 := Lib.hid (Bytes.of_owned hown (digitsOf_range _ _) hown.lt)
            have HX5 := Lib.hid (HX4.out.stp hc5)
            have P5 := Lib.hid (P4.out.stp hc5)
            clear HX4 P4 e0 e1 e2 e3 o4 hb6 hown
            obtain ⟨e0, e1, e2, e3⟩ := own_end o5
            go_wp2_with fail
            refine (put_yes 4 r _ (by omega) (by omega) (by have := hr1.out; omega) (by show r < 4294967296; have := hr1.out; omega)).mono ?_
            rintro e w6 ⟨rfl, hown, hc6⟩
            have hb8 := bl_trans hb7 hc6
            have o6 := o5.step hc6
            have R6 := Lib.hid (Bytes.of_owned hown (digitsOf_range _ _) hown.lt)
            have HX6 := Lib.hid (HX5.out.stp hc6)
            have P6 := Lib.hid (P5.out.stp hc6)
            have Q6 := Lib.hid (Q5.out.stp hc6)
            clear HX5 P5 Q5 e0 e1 e2 e3 o5 hb7 hown hc4 hc5 hc6
            obtain ⟨e0, e1, e2, e3⟩ := own_end o6
            have wn : IntKind.u8.wrap n2 = n2 := IntWalk.u8_in _ (by have := HN2.out; omega)
            have wn2 : IntKind.u8.wrap (n2 + 2) = n2 + 2 := IntWalk.u8_in _ (by have := HN2.out; omega)
            have wn3 : IntKind.u8.wrap ((n2 + 2 : Nat) : Int) = ((n2 + 2 : Nat) : Int) := IntWalk.u8_in _ (by have := HN2.out; omega)
            go_wp2_with fail
            refine (ocat2 (W := w6) HX6.out HN2.out).mono ?_
            rintro e w7 ⟨B7, d7, rfl, hx7, hc7⟩
            have hb9 := bl_trans hb8 hc7
            have P7 := Lib.hid (P6.out.stp hc7)
            have Q7 := Lib.hid (Q6.out.stp hc7)
            have R7 := Lib.hid (R6.out.stp hc7)
            have HX7 := Lib.hid hx7
            clear P6 Q6 R6 HX6 hx7 e0 e1 e2 e3 o6 hb8 hc7
            go_wp2_with fail
            have h6 := ocat6 (W := w7) (num := 23456) (q := q) (r := r) (c2 := 2) (c3 := 2) (c4 := 4) (c6 := d7) P7.out Q7.out R7.out HX7.out (by have := HN2.out; omega)
            refine h6.mono ?_
            rintro e w8 ⟨B, d, rfl, hx, hc8⟩
            have hb10 := bl_trans hb9 hc8
            go_wp2
            go_ret2
            exact obytesR_yes HV.out hm.out hPe.out hx hb10
        · have d2 : decide (65535 < p) = false := decide_eq_false hbig
          have hm := Lib.hid (show oNum p = p by unfold oNum; rw [if_neg hbig])
          have hp2 : p ≤ 65535 := by omega
          have hp1 := Lib.hid (show 0 ≤ p ∧ p ≤ 65535 from ⟨hp1.out.1, hp2⟩)
          clear hbig hp2
          rcases Nat.eq_zero_or_pos n with hz | hz
          · have hPe := Lib.hid (show oPar ss = [] by have : ss = [] := List.length_eq_zero_iff.1 (by rw [← HN.out]; exact hz); rw [this]; rfl)
            subst hz
            go_wp2_with fail
            refine (put_yes 2 p _ (by omega) (by omega) (by have := hp1.out; omega) (by show p < 65536; have := hp1.out; omega)).mono ?_
            rintro e w4 ⟨rfl, hown, hc4⟩
            have hb6 := bl_trans hb5 hc4
            have o4 := o3.step hc4
            have P4 := Lib.hid (Bytes.of_owned hown (digitsOf_range _ _) hown.lt)
            have HX4 := Lib.hid (HX3.out.stp hc4)
            clear HX3 e0 e1 e2 e3 o3 hb5 hown
            obtain ⟨e0, e1, e2, e3⟩ := own_end o4
            go_wp2_with fail
            refine (put_yes 2 q _ (by omega) (by omega) (by have := hq0.out; omega) (by show q < 65536; have := hq0.out; omega)).mono ?_
            rintro e w5 ⟨rfl, hown, hc5⟩
            have hb7 := bl_trans hb6 hc5
            have o5 := o4.step hc5
            have Q5 := Lib.hid (Bytes.of_owned hown (digitsOf_range _ _) hown.lt)
            have HX5 := Lib.hid (HX4.out.stp hc5)
            have P5 := Lib.hid (P4.out.stp hc5)
            clear HX4 P4 e0 e1 e2 e3 o4 hb6 hown
            obtain ⟨e0, e1, e2, e3⟩ := own_end o5
            go_wp2_with fail
            refine (put_yes 4 r _ (by omega) (by omega) (by have := hr1.out; omega) (by show r < 4294967296; have := hr1.out; omega)).mono ?_
            rintro e w6 ⟨rfl, hown, hc6⟩
            have hb8 := bl_trans hb7 hc6
            have o6 := o5.step hc6
            have R6 := Lib.hid (Bytes.of_owned hown (digitsOf_range _ _) hown.lt)
            have HX6 := Lib.hid (HX5.out.stp hc6)
            have P6 := Lib.hid (P5.out.stp hc6)
            have Q6 := Lib.hid (Q5.out.stp hc6)
            clear HX5 P5 Q5 e0 e1 e2 e3 o5 hb7 hown hc4 hc5 hc6
            obtain ⟨e0, e1, e2, e3⟩ := own_end o6
            go_wp2_with fail
            have h6 := ocat6 (W := w6) (num := p) (q := q) (r := r) (c2 := 2) (c3 := 2) (c4 := 4) (c6 := 0) P6.out Q6.out R6.out (Bytes.nil _ _ none) (by omega)
            refine h6.mono ?_
            rintro e w8 ⟨B, d, rfl, hx, hc8⟩
            have hb9 := bl_trans hb8 hc8
            go_wp2
            go_ret2
            exact obytesR_yes HV.out hm.out hPe.out hx hb9
          · have hPe := Lib.hid (show oPar ss = 2 :: (n2 : Int) :: cpsForm ss by unfold oPar; rw [if_neg (by intro he; rw [he] at HN; have := HN.out; simp at this; omega), hl2.out])
            have dz : decide ((0 : Int) < n) = true := decide_eq_true (by omega)
            have dz2 : decide (0 < n) = true := decide_eq_true hz
            have dz3 : ¬ n = 0 := by omega
            go_wp2_with fail
            refine (put_yes 2 p _ (by omega) (by omega) (by have := hp1.out; omega) (by show p < 65536; have := hp1.out; omega)).mono ?_
            rintro e w4 ⟨rfl, hown, hc4⟩
            have hb6 := bl_trans hb5 hc4
            have o4 := o3.step hc4
            have P4 := Lib.hid (Bytes.of_owned hown (digitsOf_range _ _) hown.lt)
            have HX4 := Lib.hid (HX3.out.stp hc4)
            clear HX3 e0 e1 e2 e3 o3 hb5 hown
            obtain ⟨e0, e1, e2, e3⟩ := own_end o4
            go_wp2_with fail
            refine (put_yes 2 q _ (by omega) (by omega) (by have := hq0.out; omega) (by show q < 65536; have := hq0.out; omega)).mono ?_
            rintro e w5 ⟨rfl, hown, hc5⟩
            have hb7 := bl_trans hb6 hc5
            have o5 := o4.step hc5
            have Q5 := Lib.hid (Bytes.of_owned hown (digitsOf_range _ _) hown.lt)
            have HX5 := Lib.hid (HX4.out.stp hc5)
            have P5 := Lib.hid (P4.out.stp hc5)
            clear HX4 P4 e0 e1 e2 e3 o4 hb6 hown
            obtain ⟨e0, e1, e2, e3⟩ := own_end o5
            go_wp2_with fail
            refine (put_yes 4 r _ (by omega) (by omega) (by have := hr1.out; omega) (by show r < 4294967296; have := hr1.out; omega)).mono ?_
            rintro e w6 ⟨rfl, hown, hc6⟩
            have hb8 := bl_trans hb7 hc6
            have o6 := o5.step hc6
            have R6 := Lib.hid (Bytes.of_owned hown (digitsOf_range _ _) hown.lt)
            have HX6 := Lib.hid (HX5.out.stp hc6)
            have P6 := Lib.hid (P5.out.stp hc6)
            have Q6 := Lib.hid (Q5.out.stp hc6)
            clear HX5 P5 Q5 e0 e1 e2 e3 o5 hb7 hown hc4 hc5 hc6
            obtain ⟨e0, e1, e2, e3⟩ := own_end o6
            have wn : IntKind.u8.wrap n2 = n2 := IntWalk.u8_in _ (by have := HN2.out; omega)
            have wn2 : IntKind.u8.wrap (n2 + 2) = n2 + 2 := IntWalk.u8_in _ (by have := HN2.out; omega)
            have wn3 : IntKind.u8.wrap ((n2 + 2 : Nat) : Int) = ((n2 + 2 : Nat) : Int) := IntWalk.u8_in _ (by have := HN2.out; omega)
            go_wp2_with fail
            refine (ocat2 (W := w6) HX6.out HN2.out).mono ?_
            rintro e w7 ⟨B7, d7, rfl, hx7, hc7⟩
            have hb9 := bl_trans hb8 hc7
            have P7 := Lib.hid (P6.out.stp hc7)
            have Q7 := Lib.hid (Q6.out.stp hc7)
            have R7 := Lib.hid (R6.out.stp hc7)
            have HX7 := Lib.hid hx7
            clear P6 Q6 R6 HX6 hx7 e0 e1 e2 e3 o6 hb8 hc7
            go_wp2_with fail
            have h6 := ocat6 (W := w7) (num := p) (q := q) (r := r) (c2 := 2) (c3 := 2) (c4 := 4) (c6 := d7) P7.out Q7.out R7.out HX7.out (by have := HN2.out; omega)
            refine h6.mono ?_
            rintro e w8 ⟨B, d, rfl, hx, hc8⟩
            have hb10 := bl_trans hb9 hc8
            go_wp2
            go_ret2
            exact obytesR_yes HV.out hm.out hPe.out hx hb10
set_option maxRecDepth 100000 in
/-- open.Valid. -/
theorem ovalid17_any (p q r : Int) (A : Option Addr) (n c : Nat) (ss : List Cp) (w : World) (h : Caps w w.heap.size A n ss) (hn : n ≤ 1000) (hs : ∀ s ∈ ss, s.n ≤ 1000) (hp0 : 0 ≤ p ∧ p < 4294967296) (hr0 : 0 ≤ r ∧ r < 4294967296) :
    Calls Tryd.prog 27 #[.agg #[.int .u32 p, .int .i64 q, .int .u32 r, .slice A n c]] w fun e w' => e = .returned (.bool (oOk p q r ss)) ∧ Below w.heap.size w w' := by
  have hb0 := bl_alloc (bl_refl w) (.cells #[.int .u32 p, .int .i64 q, .int .u32 r, .slice A n c] 47)
  have o0 := Own.new w 47 #[.int .u32 p, .int .i64 q, .int .u32 r, .slice A n c]
  have hB := Lib.hid (obytes_any p q r A n c ss _ (h.step hb0) hn hs hp0 hr0)
  obtain ⟨e0, e1, e2, e3⟩ := own_end o0
  clear h hs hp0 hr0
  go_enter Tryd.func27, Tryd.ntmps27
  go_wp2_with fail
  refine hB.out.mono ?_
  rintro e w2 ⟨A2, n2, c2, rfl, _, hb2⟩
  have hb3 := bl_trans hb0 hb2
  go_wp2
  go_ret
  exact ⟨rfl, hb3⟩
end Go.Proofs.YtniheakafkakhaaDoor

/- peeragelaw17: Back, alive; peerageref17: Make, Same -/
namespace Go.Proofs.YtniheakafkakhaaDoor
open Go.RowKit Go.Sort
set_option maxRecDepth 100000 in
theorem ro_descN : Tryd.prog.underlying 41 = some (.struct (Tryd.prog.fieldsOf 41)) := by kernel_rfl
set_option maxRecDepth 100000 in
theorem ro_infoN (a b c d : Value) : (Tryd.prog.info? 41).map (·.size) = some (#[a, b, c, d] : Array Value).size := by kernel_rfl
set_option maxRecDepth 100000 in
set_option maxHeartbeats 1600000 in
theorem back17_any (p q r : Int) (A : Option Addr) (n c : Nat) (ss : List Cp) (w : World) (h : Caps w w.heap.size A n ss) (hn : n ≤ 100000) :
    Calls Tryd.prog 34 #[.agg #[.int .u32 p, .int .i64 q, .int .u32 r, .slice A n c]] w fun e w' => ∃ A' c', e = .returned (.agg #[.int .u32 p, .int .i64 q, .int .u32 r, .slice A' n c']) ∧ Caps w' w'.heap.size A' n ss ∧ Below w.heap.size w w' := by
  have hb0 := bl_alloc (bl_alloc (bl_refl w) (.cells #[.int .u32 p, .int .i64 q, .int .u32 r, .slice A n c] 47)) (.cells #[.int .u32 0, .int .i64 0, .int .u32 0, .slice none 0 0] 41)
  have o0 := (Own.new w 47 #[.int .u32 p, .int .i64 q, .int .u32 r, .slice A n c]).alloc (.cells #[.int .u32 0, .int .i64 0, .int .u32 0, .slice none 0 0] 41)
  have o1 := Own.new (w.alloc (.cells #[.int .u32 p, .int .i64 q, .int .u32 r, .slice A n c] 47)) 41 #[.int .u32 0, .int .i64 0, .int .u32 0, .slice none 0 0]
  have HC := Lib.hid (h.step hb0)
  rw [show (w.alloc (.cells #[.int .u32 p, .int .i64 q, .int .u32 r, .slice A n c] 47)).heap.size = w.heap.size + 1 by simp] at o1
  clear h
  go_enter Tryd.func34, Tryd.ntmps34
  go_wp2_with fail
  generalize ((w.alloc (.cells #[.int .u32 p, .int .i64 q, .int .u32 r, .slice A n c] 47)).alloc (.cells #[.int .u32 0, .int .i64 0, .int .u32 0, .slice none 0 0] 41)) = X at *
  refine wp_region_held_drew (S := (fun X => Own X w.heap.size 47 #[.int .u32 p, .int .i64 q, .int .u32 r, .slice A n c])) (by kernel_rfl) o0.drew (fun hHeld => ?_)
  refine wpAnyH_take (i := 0) (v := ?_) rfl (by kernel_rfl) (by kernel_rfl) (by kernel_rfl) (fun _ _ _ h => h) (Or.inl ⟨by rfl, ?_⟩) (by assumption) ?_
  rotate_left
  · (intro W hSw; have s0 : Own W w.heap.size 47 #[.int .u32 p, .int .i64 q, .int .u32 r, .slice A n c] := hSw; obtain ⟨e0, e1, e2, e3⟩ := own_end s0; go_simp; try with_reducible rfl)
  simp only [Act.put, List.getElem_toArray, List.getElem_cons_zero, List.setIfInBounds_toArray, List.set_cons_zero, List.set_cons_succ]
  refine wpAnyH_take (i := 1) (v := ?_) rfl (by kernel_rfl) (by kernel_rfl) (by kernel_rfl) (fun _ _ _ h => h) (Or.inl ⟨by rfl, ?_⟩) (by assumption) ?_
  rotate_left
  · (intro W hSw; have s0 : Own W w.heap.size 47 #[.int .u32 p, .int .i64 q, .int .u32 r, .slice A n c] := hSw; obtain ⟨e0, e1, e2, e3⟩ := own_end s0; go_simp; try with_reducible rfl)
  simp only [Act.put, List.getElem_toArray, List.getElem_cons_zero, List.getElem_cons_succ, List.setIfInBounds_toArray, List.set_cons_zero, List.set_cons_succ]
  refine wpAnyH_take (i := 2) (v := ?_) rfl (by kernel_rfl) (by kernel_rfl) (by kernel_rfl) (fun _ _ _ h => h) (Or.inl ⟨by rfl, ?_⟩) (by assumption) ?_
  rotate_left
  · (intro W hSw; have s0 : Own W w.heap.size 47 #[.int .u32 p, .int .i64 q, .int .u32 r, .slice A n c] := hSw; obtain ⟨e0, e1, e2, e3⟩ := own_end s0; go_simp; try with_reducible rfl)
  simp only [Act.put, List.getElem_toArray, List.getElem_cons_zero, List.getElem_cons_succ, List.setIfInBounds_toArray, List.set_cons_zero, List.set_cons_succ]
  refine wpAnyH_take (i := 3) (v := ?_) rfl (by kernel_rfl) (by kernel_rfl) (by kernel_rfl) (fun _ _ _ h => h) (Or.inl ⟨by rfl, ?_⟩) (by assumption) ?_
  rotate_left
  · (intro W hSw; have s0 : Own W w.heap.size 47 #[.int .u32 p, .int .i64 q, .int .u32 r, .slice A n c] := hSw; obtain ⟨e0, e1, e2, e3⟩ := own_end s0; go_simp; try with_reducible rfl)
  simp only [Act.put, List.getElem_toArray, List.getElem_cons_zero, List.getElem_cons_succ, List.setIfInBounds_toArray, List.set_cons_zero, List.set_cons_succ]
  refine wpAnyH_take (i := 4) (v := ?_) rfl (by kernel_rfl) (by kernel_rfl) (by kernel_rfl) (fun _ _ _ h => h) (Or.inl ⟨by rfl, ?_⟩) (by assumption) ?_
  rotate_left
  · (intro W hSw; have s0 : Own W w.heap.size 47 #[.int .u32 p, .int .i64 q, .int .u32 r, .slice A n c] := hSw; obtain ⟨e0, e1, e2, e3⟩ := own_end s0; go_simp; try with_reducible rfl)
  simp only [Act.put, List.getElem_toArray, List.getElem_cons_zero, List.getElem_cons_succ, List.setIfInBounds_toArray, List.set_cons_zero, List.set_cons_succ]
  refine wpAnyH_take (i := 5) (v := ?_) rfl (by kernel_rfl) (by kernel_rfl) (by kernel_rfl) (fun _ _ _ h => h) (Or.inl ⟨by rfl, ?_⟩) (by assumption) ?_
  rotate_left
  · (intro W hSw; have s0 : Own W w.heap.size 47 #[.int .u32 p, .int .i64 q, .int .u32 r, .slice A n c] := hSw; obtain ⟨e0, e1, e2, e3⟩ := own_end s0; go_simp; try with_reducible rfl)
  simp only [Act.put, List.getElem_toArray, List.getElem_cons_zero, List.getElem_cons_succ, List.setIfInBounds_toArray, List.set_cons_zero, List.set_cons_succ]
  refine wpAnyH_take (i := 6) (v := ?_) rfl (by kernel_rfl) (by kernel_rfl) (by kernel_rfl) (fun _ _ _ h => h) (Or.inl ⟨by rfl, ?_⟩) (by assumption) ?_
  rotate_left
  · (intro W hSw; have s0 : Own W w.heap.size 47 #[.int .u32 p, .int .i64 q, .int .u32 r, .slice A n c] := hSw; obtain ⟨e0, e1, e2, e3⟩ := own_end s0; go_simp; try with_reducible rfl)
  simp only [Act.put, List.getElem_toArray, List.getElem_cons_zero, List.getElem_cons_succ, List.setIfInBounds_toArray, List.set_cons_zero, List.set_cons_succ]
  refine wpAnyH_take (i := 7) (v := ?_) rfl (by kernel_rfl) (by kernel_rfl) (by kernel_rfl) (fun _ _ _ h => h) (Or.inl ⟨by rfl, ?_⟩) (by assumption) ?_
  rotate_left
  · (intro W hSw; have s0 : Own W w.heap.size 47 #[.int .u32 p, .int .i64 q, .int .u32 r, .slice A n c] := hSw; obtain ⟨e0, e1, e2, e3⟩ := own_end s0; go_simp; try with_reducible rfl)
  simp only [Act.put, List.getElem_toArray, List.getElem_cons_zero, List.getElem_cons_succ, List.setIfInBounds_toArray, List.set_cons_zero, List.set_cons_succ]
  refine wpAnyH_ready (rs := [8]) (by kernel_rfl) (by simp) ?_
  refine (AllReadyH.cons rfl (fun K hK => ?_) AllReadyH.nil)
  go_simp
  go_at_call 13
  refine (back16_any A n c ss X.drew (HC.out.step (bl_drewN (bl_refl X) 1)) hn).mono ?_
  rintro e w2 ⟨A2, c2, rfl, hC2, hb2⟩
  have hb3 := bl_trans (bl_drewN (bl_refl X) 1) hb2
  have o2 := o0.step hb3
  have o3 := o1.step hb3
  refine hK.out _ _ o2 (fun hHeld2 => ?_)
  clear hK K hHeld
  have hHeld := hHeld2
  clear hHeld2
  try simp only [Act.put, List.getElem_toArray, List.getElem_cons_zero, List.getElem_cons_succ, List.setIfInBounds_toArray, List.set_cons_zero, List.set_cons_succ]
  refine wpAnyH_take (i := 9) (v := ?_) rfl (by kernel_rfl) (by kernel_rfl) (by kernel_rfl) (fun _ _ _ h => h) (Or.inl ⟨by rfl, ?_⟩) (by assumption) ?_
  rotate_left
  · (intro W hSw; skip; go_simp; try with_reducible rfl)
  simp only [Act.put, List.getElem_toArray, List.getElem_cons_zero, List.getElem_cons_succ, List.setIfInBounds_toArray, List.set_cons_zero, List.set_cons_succ]
  have oZ := (((o3.set_ 0 (.int .u32 p)).set_ 1 (.int .i64 q)).set_ 2 (.int .u32 r)).set_ 3 (.slice A2 n c2)
  have hbx := bl_trans hb0 hb3
  have hl1 : w.heap.size ≤ w.heap.size + 1 := by omega
  have hl2 := hbx.size
  have hl3 : w2.heap.size ≤ w2.heap.size := Nat.le_refl _
  have hbZ := (((hbx.setCell (p := ⟨w.heap.size + 1, 0, none⟩) hl1 (.int .u32 p)).setCell (p := ⟨w.heap.size + 1, 1, none⟩) hl1 (.int .i64 q)).setCell (p := ⟨w.heap.size + 1, 2, none⟩) hl1 (.int .u32 r)).setCell (p := ⟨w.heap.size + 1, 3, none⟩) hl1 (.slice A2 n c2)
  have hCZ : Caps ((((w2.setCell ⟨w.heap.size + 1, 0, none⟩ (.int .u32 p)).setCell ⟨w.heap.size + 1, 1, none⟩ (.int .i64 q)).setCell ⟨w.heap.size + 1, 2, none⟩ (.int .u32 r)).setCell ⟨w.heap.size + 1, 3, none⟩ (.slice A2 n c2)) w2.heap.size A2 n ss := (((hC2.otherW o3 (noCap_open 0 0 0 _ (by simp) (by simp)) 0 (.int .u32 p)).otherW (o3.set_ 0 (.int .u32 p)) (noCap_open p 0 0 _ (by simp) (by simp)) 1 (.int .i64 q)).otherW ((o3.set_ 0 (.int .u32 p)).set_ 1 (.int .i64 q)) (noCap_open p q 0 _ (by simp) (by simp)) 2 (.int .u32 r)).otherW (((o3.set_ 0 (.int .u32 p)).set_ 1 (.int .i64 q)).set_ 2 (.int .u32 r)) (noCap_open p q r _ (by simp) (by simp)) 3 (.slice A2 n c2)
  have oY := (((o2.far (p := ⟨w.heap.size + 1, 0, none⟩) (by show _ ≠ _; simp <;> omega) (.int .u32 p)).far (p := ⟨w.heap.size + 1, 1, none⟩) (by show _ ≠ _; simp <;> omega) (.int .i64 q)).far (p := ⟨w.heap.size + 1, 2, none⟩) (by show _ ≠ _; simp <;> omega) (.int .u32 r)).far (p := ⟨w.heap.size + 1, 3, none⟩) (by show _ ≠ _; simp <;> omega) (.slice A2 n c2)
  refine wpAnyH_ready (rs := [10]) (by kernel_rfl) (by simp) ?_
  refine (AllReadyH.cons rfl (fun K hK => ?_) AllReadyH.nil)
  have z0 := o3.frozen 0
  have z1 := o3.frozen 1
  have z2 := o3.frozen 2
  have z3 := o3.frozen 3
  obtain ⟨y0, y1, y2, y3⟩ := own_end o3
  go_simp
  refine hK.out _ _ oY (fun hHeld2 => ?_)
  clear hK K hHeld
  have hHeld := hHeld2
  clear hHeld2
  try simp only [Act.put, List.getElem_toArray, List.getElem_cons_zero, List.getElem_cons_succ, List.setIfInBounds_toArray, List.set_cons_zero, List.set_cons_succ]
  refine wpAnyH_done (by kernel_rfl) ?_ _
  go_wp2
  exact bodyPost_ret (results_cell1N (p := 2) (fn := Tryd.f34) rfl _ _ (w.heap.size + 1) 41 #[.int .u32 p, .int .i64 q, .int .u32 r, .slice A2 n c2] _ rfl oZ ro_descN rfl (ro_infoN _ _ _ _)) rfl ⟨A2, c2, rfl, hCZ.more (by simp), hbZ⟩
set_option maxRecDepth 100000 in
set_option maxHeartbeats 3200000 in
theorem rmake17_any (a0 a1 a2 a3 a4 a5 : Bool) (an hd id : Int) (h0 : 0 ≤ an) (h1 : an < 4294967296) (w : World) :
    Calls Tryd.prog 36 #[.agg #[.bool a0, .bool a1, .bool a2, .bool a3, .bool a4, .bool a5], .int .u32 an, .int .i64 hd, .int .u32 id] w fun e w' => ∃ A c L', e = .returned (.agg #[.int .u32 an, .int .i64 hd, .int .u32 id, .slice A (List.length L') c]) ∧ L'.map cpK = ofK a0 a1 a2 a3 a4 a5 an ∧ (∀ s ∈ L', s.n ≤ 1000) ∧ Caps w' w'.heap.size A L'.length L' ∧ Below w.heap.size w w' := by
  obtain ⟨X, hX, oA, oR, hbX, hXs⟩ := two_boxesN w #[.bool a0, .bool a1, .bool a2, .bool a3, .bool a4, .bool a5] #[.int .u32 0, .int .i64 0, .int .u32 0, .slice none 0 0] 23 41
  clear hXs
  have hO := Lib.hid (rcof_any a0 a1 a2 a3 a4 a5 an h0 h1 X)
  obtain ⟨e0, e1, e2, e3, e4, e5⟩ := own_six oA
  clear h0 h1
  go_enter Tryd.func36, Tryd.ntmps36
  go_upto_region 1 with fail
  rw [← hX]
  clear hX
  go_wp2_with fail
  refine hO.out.mono ?_
  rintro e w2 ⟨ov, rfl, A, c, L', rfl, hC, hk, hs, hb2⟩
  have oR2 := oR.step hb2
  have hb3 := bl_trans hbX hb2
  clear oA oR hbX hb2 e0 e1 e2 e3 e4 e5 hO
  obtain ⟨e0, e1, e2, e3⟩ := own_end oR2
  have f0 := oR2.frozen 0
  have f1 := oR2.frozen 1
  have f2 := oR2.frozen 2
  have f3 := oR2.frozen 3
  have hbz : w.heap.size ≤ w.heap.size + 1 := by omega
  have oZ := sets4_own (a := .int .u32 an) (b := .int .i64 hd) (c := .int .u32 id) (d := .slice A L'.length c) oR2
  have hbZ := sets4_below (a := .int .u32 an) (b := .int .i64 hd) (c := .int .u32 id) (d := .slice A L'.length c) hb3 hbz
  have hCZ := sets4_caps (p := an) (q := hd) (r := id) (v := .slice A L'.length c) hC oR2
  have HCZ := Lib.hid hCZ
  have HOZ := Lib.hid oZ
  have HBZ := Lib.hid hbZ
  clear hCZ oZ hbZ hC hb3 oR2
  go_wp2
  exact bodyPost_ret (results_cell1N (p := 8) (fn := Tryd.f36) rfl _ _ (w.heap.size + 1) 41 #[.int .u32 an, .int .i64 hd, .int .u32 id, .slice A L'.length c] _ rfl HOZ.out ro_descN rfl (ro_infoN _ _ _ _)) rfl ⟨A, c, L', rfl, hk, hs, HCZ.out, HBZ.out⟩
set_option maxRecDepth 100000 in
set_option maxHeartbeats 3200000 in
theorem rsame17_any (p q r : Int) (A : Option Addr) (n c : Nat) (p' q' r' : Int) (A' : Option Addr) (n' c' : Nat) (ss ts : List Cp) (w : World) (h : Caps w w.heap.size A n ss) (h' : Caps w w.heap.size A' n' ts) (hn : n ≤ 100000) (hn' : n' ≤ 100000) :
    Calls Tryd.prog 33 #[.agg #[.int .u32 p, .int .i64 q, .int .u32 r, .slice A n c], .agg #[.int .u32 p', .int .i64 q', .int .u32 r', .slice A' n' c']] w fun e w' => e = .returned (.bool (p == p' && (q == q' && (r == r' && decide (ss.map cpK = ts.map cpK))))) ∧ Below w.heap.size w w' := by
  obtain ⟨X, hX, oA, oB, hbX, hXs⟩ := two_boxesN w #[.int .u32 p, .int .i64 q, .int .u32 r, .slice A n c] #[.int .u32 p', .int .i64 q', .int .u32 r', .slice A' n' c'] 41 41
  clear hXs
  have hS := Lib.hid (rcsame_any A A' n n' c c' ss ts X (h.step hbX) (h'.step hbX) hn hn')
  generalize decide (ss.map cpK = ts.map cpK) = sm at *
  have HK : Hid ((p == p' && (q == q' && (r == r' && sm))) = (p == p' && (q == q' && (r == r' && sm)))) := Lib.hid rfl
  obtain ⟨a0, a1, a2, a3⟩ := own_end oA
  obtain ⟨b0, b1, b2, b3⟩ := own_end oB
  clear h h' hn hn'
  generalize hv : (p == p' && (q == q' && (r == r' && sm))) = v at HK ⊢
  replace hv := Lib.hid hv
  clear HK
  rcases hp : (p == p') with _ | _
  · have HV := Lib.hid (show v = false by rw [← hv.out, hp]; rfl)
    clear hv
    have hp2 : ¬ p = p' := by simpa using hp
    go_enter Tryd.func33, Tryd.ntmps33
    go_upto_region 1 with fail
    rw [← hX]
    clear hX
    go_wp2
    go_ret
    exact ⟨by rw [HV.out]; first | done | rfl, hbX⟩
  · rcases hq : (q == q') with _ | _
    · have HV := Lib.hid (show v = false by rw [← hv.out, hp, hq]; rfl)
      clear hv
      go_enter Tryd.func33, Tryd.ntmps33
      go_upto_region 1 with fail
      rw [← hX]
      clear hX
      go_wp2
      go_ret
      exact ⟨by rw [HV.out]; first | done | rfl, hbX⟩
    · rcases hr : (r == r') with _ | _
      · have HV := Lib.hid (show v = false by rw [← hv.out, hp, hq, hr]; rfl)
        clear hv
        go_enter Tryd.func33, Tryd.ntmps33
        go_upto_region 1 with fail
        rw [← hX]
        clear hX
        go_wp2
        go_ret
        exact ⟨by rw [HV.out]; first | done | rfl, hbX⟩
      · have HV := Lib.hid (show v = sm by rw [← hv.out, hp, hq, hr]; rfl)
        clear hv
        go_enter Tryd.func33, Tryd.ntmps33
        go_upto_region 1 with fail
        rw [← hX]
        clear hX
        go_wp2_with fail
        refine hS.out.mono ?_
        rintro e w2 ⟨rfl, hb2⟩
        have hb3 := bl_trans hbX hb2
        go_wp2
        go_ret
        exact ⟨by rw [HV.out]; first | done | rfl, hb3⟩
set_option maxRecDepth 100000 in
theorem alive17_any (w : World) : Calls Tryd.prog 23 #[] w fun e w' => e = .returned (.bool true) ∧ Below w.heap.size w w' := by
  have hB := Lib.hid (obytes_any 1 0 1 none 0 0 [] w (caps_nil _ _) (by omega) (by intro s hs; cases hs) (by omega) (by omega))
  go_enter Tryd.func23, Tryd.ntmps23
  go_wp2_with fail
  refine hB.out.mono ?_
  rintro e w2 ⟨A2, n2, c2, rfl, hx, hb2⟩
  rw [show oOk 1 0 1 [] = true by decide +kernel, if_pos rfl, show oFormK (oNum 1) 0 1 (oPar []) = [4, 0, 1, 0, 0, 0, 0, 0, 1, 0] by decide +kernel] at hx
  obtain rfl : n2 = 10 := hx.1
  have hb3 := bl_alloc hb2 (.cells #[.int .u8 4, .int .u8 0, .int .u8 1, .int .u8 0, .int .u8 0, .int .u8 0, .int .u8 0, .int .u8 0, .int .u8 1, .int .u8 0] 5)
  have hbE := bl_alloc (bl_refl w2) (.cells #[.int .u8 4, .int .u8 0, .int .u8 1, .int .u8 0, .int .u8 0, .int .u8 0, .int .u8 0, .int .u8 0, .int .u8 1, .int .u8 0] 5)
  have oE := Own.new w2 5 #[.int .u8 4, .int .u8 0, .int .u8 1, .int .u8 0, .int .u8 0, .int .u8 0, .int .u8 0, .int .u8 0, .int .u8 1, .int .u8 0]
  have hy := Bytes.of_owned (xs := [4, 0, 1, 0, 0, 0, 0, 0, 1, 0]) oE (by decide) oE.lt
  have hE := Lib.hid (bytesEq_any A2 (some ⟨w2.heap.size, 0, none⟩) 10 10 c2 10 _ _ _ _ _ (hx.stp hbE) hy (by omega) (by omega))
  rw [show oOk 1 0 1 [] = true by decide +kernel]
  clear hB hx hy oE
  go_wp2_with fail
  refine hE.out.mono ?_
  rintro e w3 ⟨rfl, m, rfl⟩
  have hb4 := bl_drewN hb3 m
  go_wp2
  go_ret
  exact ⟨by first | rfl | simp, hb4⟩
end Go.Proofs.YtniheakafkakhaaDoor

/- OpenMakes: the walk -/
namespace Go.Proofs.YtniheakafkakhaaDoor
open Go.RowKit Go.Sort
theorem ofK_form (a0 a1 a2 a3 a4 a5 : Bool) (n : Int) : ((ofK a0 a1 a2 a3 a4 a5 n).flatMap kFormC).length ≤ 253 := by
  cases a0 <;> cases a1 <;> cases a2 <;> cases a3 <;> cases a4 <;> cases a5 <;> exact Nat.le_of_ble_eq_true rfl
/-- Valid of an OPEN that Make made. -/
theorem oOk_of {a0 a1 a2 a3 a4 a5 : Bool} {an q r : Int} (h0 : 0 ≤ an) (h1 : an < 4294967296) {L : List Cp} (hk : L.map cpK = ofK a0 a1 a2 a3 a4 a5 an) (hl : ∀ s ∈ L, s.n = s.xs.length) : oOk an q r L = (numB an q r && (if a0 = true then true else decide (an ≤ 65535))) := by
  obtain ⟨e0, e1, _⟩ := ofK_says a0 a1 a2 a3 a4 a5 an
  unfold oOk
  rw [all_okK hl, hk, e0, cpsForm_k hl, hk, decide_eq_true (ofK_form a0 a1 a2 a3 a4 a5 an), e1, big_dig4 an h0 h1]
  unfold fitB
  cases a0 <;> simp
set_option maxRecDepth 100000 in
set_option maxHeartbeats 12800000 in
theorem opmk_all (a0 a1 a2 a3 a4 a5 : Bool) (an m0 m1 : Int) (han : 0 ≤ an ∧ an < 4294967296) (hm0 : 0 ≤ m0 ∧ m0 < 4294967296) (hm1 : 0 ≤ m1 ∧ m1 < 4294967296) (w : World) (hf : Fams w) :
    Calls Tryd.prog 5 #[.agg #[.bool a0, .bool a1, .bool a2, .bool a3, .bool a4, .bool a5], .int .u32 an, .agg #[.int .u32 m0, .int .u32 m1]] w fun e w' => e = .returned (.bool true) ∧ Below w.heap.size w w' := by
  obtain ⟨X, hX, oA, oC, hbX, hXs⟩ := two_boxesN w #[.bool a0, .bool a1, .bool a2, .bool a3, .bool a4, .bool a5] #[.int .u32 m0, .int .u32 m1] 23 62
  clear hXs
  have hMa := Lib.hid (omake_any a0 a1 a2 a3 a4 a5 an m0 m1 han.1 han.2 X (hf.below hbX))
  have hMr := Lib.hid (fun W => rmake17_any a0 a1 a2 a3 a4 a5 an m0 m1 han.1 han.2 W)
  have Han := Lib.hid han
  have Hm1 := Lib.hid hm1
  have Hm0 := Lib.hid hm0
  have wm : IntKind.i64.wrap m0 = m0 := IntWalk.i64_in _ (by omega)
  obtain ⟨d0, d1, d2, d3, d4, d5⟩ := own_six oA
  obtain ⟨k0, k1⟩ := own_twoF oC
  clear hf han hm0 hm1
  go_enter Tryd.func5, Tryd.ntmps5
  go_upto_region 1 with fail
  rw [← hX]
  clear hX
  go_wp2_with fail
  refine hMa.out.mono ?_
  rintro e w2 ⟨A1, c1, L1, rfl, hk1, hs1, hC1, hb2⟩
  have hn1 : Hid (L1.length ≤ 10) := Lib.hid (by have := congrArg List.length hk1; rw [List.length_map] at this; rw [this]; exact ofK_len _ _ _ _ _ _ _)
  have hl1 : Hid (∀ s ∈ L1, s.n = s.xs.length) := Lib.hid (fun s hs => (hC1.2.1 s hs).1.1)
  have HV := Lib.hid (oOk_of (q := m0) (r := m1) Han.out.1 Han.out.2 hk1 hl1.out)
  have HS1 := Lib.hid hs1
  have HK1 := Lib.hid hk1
  have HC1 := Lib.hid hC1
  generalize hgn : L1.length = n1 at *
  have oX := Own.new w2 47 #[.int .u32 an, .int .i64 m0, .int .u32 m1, .slice A1 n1 c1]
  have hbV := bl_alloc (bl_refl w2) (.cells #[.int .u32 an, .int .i64 m0, .int .u32 m1, .slice A1 n1 c1] 47)
  have hb3 := bl_trans hbX (bl_trans hb2 hbV)
  have oA3 := (oA.step hb2).step hbV
  have oC3 := (oC.step hb2).step hbV
  have HC3 := Lib.hid (HC1.out.step hbV)
  clear hgn hs1 hk1 hC1 HC1 oA oC hbX hb2 hbV d0 d1 d2 d3 d4 d5 k0 k1 hMa hl1
  go_upto_region 2 with fail
  generalize w2.alloc (.cells #[.int .u32 an, .int .i64 m0, .int .u32 m1, .slice A1 n1 c1] 47) = V at *
  refine wp_region_held_drew (S := (fun X => Own X w.heap.size 23 #[.bool a0, .bool a1, .bool a2, .bool a3, .bool a4, .bool a5] ∧ Own X (w.heap.size + 1) 62 #[.int .u32 m0, .int .u32 m1] ∧ Own X w2.heap.size 47 #[.int .u32 an, .int .i64 m0, .int .u32 m1, .slice A1 n1 c1])) (by kernel_rfl) ⟨oA3.drew, oC3.drew, oX.drew⟩ (fun hHeld => ?_)
  have hd10 := bl_drewN hb3 1
  have hv10 := bl_drewN (bl_refl V) 1
  have oA10 := oA3.drew
  have oC10 := oC3.drew
  have oX10 := oX.drew
  clear oA3 oC3 oX hb3
  refine wpAnyH_take (i := 0) (v := ?_) rfl (by kernel_rfl) (by kernel_rfl) (by kernel_rfl) (fun _ _ _ h => h) (Or.inl ⟨by rfl, ?_⟩) (by assumption) ?_
  rotate_left
  · (intro W hSw; have s0 : Own W w.heap.size 23 #[.bool a0, .bool a1, .bool a2, .bool a3, .bool a4, .bool a5] := hSw.1; have s1 : Own W (w.heap.size + 1) 62 #[.int .u32 m0, .int .u32 m1] := hSw.2.1; have s2 : Own W w2.heap.size 47 #[.int .u32 an, .int .i64 m0, .int .u32 m1, .slice A1 n1 c1] := hSw.2.2; obtain ⟨e0, e1, e2, e3⟩ := own_end s2; go_simp; try with_reducible rfl)
  simp only [Act.put, List.getElem_toArray, List.getElem_cons_zero, List.setIfInBounds_toArray, List.set_cons_zero, List.set_cons_succ]
  refine wpAnyH_take (i := 2) (v := ?_) rfl (by kernel_rfl) (by kernel_rfl) (by kernel_rfl) (fun _ _ _ h => h) (Or.inl ⟨by rfl, ?_⟩) (by assumption) ?_
  rotate_left
  · (intro W hSw; have s0 : Own W w.heap.size 23 #[.bool a0, .bool a1, .bool a2, .bool a3, .bool a4, .bool a5] := hSw.1; have s1 : Own W (w.heap.size + 1) 62 #[.int .u32 m0, .int .u32 m1] := hSw.2.1; have s2 : Own W w2.heap.size 47 #[.int .u32 an, .int .i64 m0, .int .u32 m1, .slice A1 n1 c1] := hSw.2.2; obtain ⟨e0, e1, e2, e3, e4, e5⟩ := own_six s0; go_simp; try with_reducible rfl)
  simp only [Act.put, List.getElem_toArray, List.getElem_cons_zero, List.getElem_cons_succ, List.setIfInBounds_toArray, List.set_cons_zero, List.set_cons_succ]
  refine wpAnyH_take (i := 3) (v := ?_) rfl (by kernel_rfl) (by kernel_rfl) (by kernel_rfl) (fun _ _ _ h => h) (Or.inl ⟨by rfl, ?_⟩) (by assumption) ?_
  rotate_left
  · (intro W hSw; skip; go_simp; try with_reducible rfl)
  simp only [Act.put, List.getElem_toArray, List.getElem_cons_zero, List.getElem_cons_succ, List.setIfInBounds_toArray, List.set_cons_zero, List.set_cons_succ]
  refine wpAnyH_take (i := 4) (v := ?_) rfl (by kernel_rfl) (by kernel_rfl) (by kernel_rfl) (fun _ _ _ h => h) (Or.inl ⟨by rfl, ?_⟩) (by assumption) ?_
  rotate_left
  · (intro W hSw; skip; go_simp; try with_reducible rfl)
  simp only [Act.put, List.getElem_toArray, List.getElem_cons_zero, List.getElem_cons_succ, List.setIfInBounds_toArray, List.set_cons_zero, List.set_cons_succ]
  refine wpAnyH_take (i := 5) (v := ?_) rfl (by kernel_rfl) (by kernel_rfl) (by kernel_rfl) (fun _ _ _ h => h) (Or.inl ⟨by rfl, ?_⟩) (by assumption) ?_
  rotate_left
  · (intro W hSw; have s0 : Own W w.heap.size 23 #[.bool a0, .bool a1, .bool a2, .bool a3, .bool a4, .bool a5] := hSw.1; have s1 : Own W (w.heap.size + 1) 62 #[.int .u32 m0, .int .u32 m1] := hSw.2.1; have s2 : Own W w2.heap.size 47 #[.int .u32 an, .int .i64 m0, .int .u32 m1, .slice A1 n1 c1] := hSw.2.2; obtain ⟨e0, e1⟩ := own_twoF s1; go_simp; try with_reducible rfl)
  simp only [Act.put, List.getElem_toArray, List.getElem_cons_zero, List.getElem_cons_succ, List.setIfInBounds_toArray, List.set_cons_zero, List.set_cons_succ]
  refine wpAnyH_take (i := 6) (v := ?_) rfl (by kernel_rfl) (by kernel_rfl) (by kernel_rfl) (fun _ _ _ h => h) (Or.inl ⟨by rfl, ?_⟩) (by assumption) ?_
  rotate_left
  · (intro W hSw; skip; go_simp; try with_reducible rfl)
  simp only [Act.put, List.getElem_toArray, List.getElem_cons_zero, List.getElem_cons_succ, List.setIfInBounds_toArray, List.set_cons_zero, List.set_cons_succ]
  refine wpAnyH_take (i := 7) (v := ?_) rfl (by kernel_rfl) (by kernel_rfl) (by kernel_rfl) (fun _ _ _ h => h) (Or.inl ⟨by rfl, ?_⟩) (by assumption) ?_
  rotate_left
  · (intro W hSw; skip; go_simp; try with_reducible rfl)
  simp only [Act.put, List.getElem_toArray, List.getElem_cons_zero, List.getElem_cons_succ, List.setIfInBounds_toArray, List.set_cons_zero, List.set_cons_succ]
  refine wpAnyH_take (i := 8) (v := ?_) rfl (by kernel_rfl) (by kernel_rfl) (by kernel_rfl) (fun _ _ _ h => h) (Or.inl ⟨by rfl, ?_⟩) (by assumption) ?_
  rotate_left
  · (intro W hSw; have s0 : Own W w.heap.size 23 #[.bool a0, .bool a1, .bool a2, .bool a3, .bool a4, .bool a5] := hSw.1; have s1 : Own W (w.heap.size + 1) 62 #[.int .u32 m0, .int .u32 m1] := hSw.2.1; have s2 : Own W w2.heap.size 47 #[.int .u32 an, .int .i64 m0, .int .u32 m1, .slice A1 n1 c1] := hSw.2.2; obtain ⟨e0, e1⟩ := own_twoF s1; go_simp; try with_reducible rfl)
  simp only [Act.put, List.getElem_toArray, List.getElem_cons_zero, List.getElem_cons_succ, List.setIfInBounds_toArray, List.set_cons_zero, List.set_cons_succ]
  refine wpAnyH_ready (rs := [1]) (by kernel_rfl) (by simp) ?_
  refine (AllReadyH.cons rfl (fun K hK => ?_) AllReadyH.nil)
  go_simp
  go_at_call 34
  refine (back17_any an m0 m1 A1 n1 c1 L1 _ (HC3.out.step hv10) (by have := hn1.out; omega)).mono ?_
  rintro e w3 ⟨A5, c5, rfl, hC5, hc11⟩
  have hd11 := bl_trans hd10 hc11
  have hv11 := bl_trans hv10 hc11
  have oA11 := oA10.step hc11
  have oC11 := oC10.step hc11
  have oX11 := oX10.step hc11
  clear oA10 oC10 oX10
  refine hK.out _ _ ⟨oA11, oC11, oX11⟩ (fun hHeld2 => ?_)
  clear hK K hHeld
  have hHeld := hHeld2
  clear hHeld2
  try simp only [Act.put, List.getElem_toArray, List.getElem_cons_zero, List.getElem_cons_succ, List.setIfInBounds_toArray, List.set_cons_zero, List.set_cons_succ]
  refine wpAnyH_ready (rs := [9]) (by kernel_rfl) (by simp) ?_
  refine (AllReadyH.cons rfl (fun K hK => ?_) AllReadyH.nil)
  go_simp
  go_at_call 36
  refine (hMr.out _).mono ?_
  rintro e w4 ⟨A6, c6, L6, rfl, hk6, hs6, hC6, hc12⟩
  have hd12 := bl_trans hd11 hc12
  have hv12 := bl_trans hv11 hc12
  have oA12 := oA11.step hc12
  have oC12 := oC11.step hc12
  have oX12 := oX11.step hc12
  clear oA11 oC11 oX11
  have hn6 : Hid (L6.length ≤ 10) := Lib.hid (by have := congrArg List.length hk6; rw [List.length_map] at this; rw [this]; exact ofK_len _ _ _ _ _ _ _)
  replace hC5 := hC5.step hc12
  refine hK.out _ _ ⟨oA12, oC12, oX12⟩ (fun hHeld2 => ?_)
  clear hK K hHeld
  have hHeld := hHeld2
  clear hHeld2
  try simp only [Act.put, List.getElem_toArray, List.getElem_cons_zero, List.getElem_cons_succ, List.setIfInBounds_toArray, List.set_cons_zero, List.set_cons_succ]
  have hsm := Lib.hid (rsame17_any an m0 m1 A5 n1 c5 an m0 m1 A6 L6.length c6 L1 L6 w4 hC5 hC6 (by have := hn1.out; omega) (by have := hn6.out; omega))
  rw [HK1.out, hk6] at hsm
  simp only [beq_self_eq_true, decide_true, Bool.and_self] at hsm
  refine wpAnyH_ready (rs := [10]) (by kernel_rfl) (by simp) ?_
  refine (AllReadyH.cons rfl (fun K hK => ?_) AllReadyH.nil)
  go_simp
  go_at_call 33
  refine (hsm.out).mono ?_
  rintro e w5 ⟨rfl, hc13⟩
  have hd13 := bl_trans hd12 hc13
  have hv13 := bl_trans hv12 hc13
  have oA13 := oA12.step hc13
  have oC13 := oC12.step hc13
  have oX13 := oX12.step hc13
  clear oA12 oC12 oX12
  refine hK.out _ _ ⟨oA13, oC13, oX13⟩ (fun hHeld2 => ?_)
  clear hK K hHeld
  have hHeld := hHeld2
  clear hHeld2
  try simp only [Act.put, List.getElem_toArray, List.getElem_cons_zero, List.getElem_cons_succ, List.setIfInBounds_toArray, List.set_cons_zero, List.set_cons_succ]
  refine wpAnyH_take (i := 11) (v := ?_) rfl (by kernel_rfl) (by kernel_rfl) (by kernel_rfl) (fun _ _ _ h => h) (Or.inl ⟨by rfl, ?_⟩) (by assumption) ?_
  rotate_left
  · (intro W hSw; skip; go_simp; try with_reducible rfl)
  simp only [Act.put, List.getElem_toArray, List.getElem_cons_zero, List.getElem_cons_succ, List.setIfInBounds_toArray, List.set_cons_zero, List.set_cons_succ]
  refine wpAnyH_done (by kernel_rfl) ?_ _
  have HCz := Lib.hid (HC3.out.step hv13)
  clear hC5 hC6 hsm hk6 hs6 hn6 HC3 hMr HK1 hv10 hv11 hv12 hv13 hd10 hd11 hd12
  have hvl := Lib.hid (fun W (hb : Below w5.heap.size w5 W) => ovalid17_any an m0 m1 A1 n1 c1 L1 W (HCz.out.step hb) (by have := hn1.out; omega) HS1.out Han.out Hm1.out)
  rw [HV.out] at hvl
  go_upto_region 4 with fail
  obtain ⟨hB, HB⟩ : ∃ b : Bool, b = (m0 == 0 || (decide (3 ≤ m0) && decide (m0 ≤ 65535))) := ⟨_, rfl⟩
  go_cut [8] (fun v8 wx => v8 = .bool hB ∧ wx = w5)
  case first =>
    obtain ⟨k0, k1⟩ := own_twoF oC13
    have HB' := Lib.hid HB
    clear HB
    by_cases h0 : m0 = 0
    · have hv : hB = true := by rw [HB'.out, h0]; rfl
      have HV0 := Lib.hid hv
      have z0 : (m0 == 0) = true := by simpa using h0
      have hz := Lib.hid h0
      clear hv h0
      go_wp2_with fail
      go_meet
      exact ⟨by rw [HV0.out], rfl⟩
    · have z0 : (m0 == 0) = false := by simpa using h0
      by_cases h3 : 3 ≤ m0
      · have d3 : decide (3 ≤ m0) = true := decide_eq_true h3
        have HV0 := Lib.hid (show hB = decide (m0 ≤ 65535) by rw [HB'.out, z0, d3]; rfl)
        clear h0
        go_wp2_with fail
        go_meet
        exact ⟨by rw [HV0.out], rfl⟩
      · have d3 : decide (3 ≤ m0) = false := decide_eq_false h3
        have HV0 := Lib.hid (show hB = false by rw [HB'.out, z0, d3]; rfl)
        clear h0
        go_wp2_with fail
        go_meet
        exact ⟨by rw [HV0.out], rfl⟩
  case rest =>
  obtain ⟨rfl, rfl⟩ := hcut
  have HN : Hid (numB an m0 m1 = (!(an == 0) && (!(m1 == 0) && hB))) := Lib.hid (by unfold numB; rw [HB])
  clear HB HV
  generalize numB an m0 m1 = nb at *
  have hAl := Lib.hid (alive17_any wc)
  go_wp2_with fail
  refine hAl.out.mono ?_
  rintro e w6 ⟨rfl, hc6⟩
  have hd6 := bl_trans hd13 hc6
  have oA6 := oA13.step hc6
  have oC6 := oC13.step hc6
  have oX6 := oX13.step hc6
  clear oA13 oC13 oX13 hd13 hAl
  obtain ⟨d0, d1, d2, d3, d4, d5⟩ := own_six oA6
  obtain ⟨k0, k1⟩ := own_twoF oC6
  obtain ⟨e0, e1, e2, e3⟩ := own_end oX6
  go_wp2_with fail
  refine (hvl.out _ hc6).mono ?_
  rintro e w7 ⟨rfl, hc7⟩
  have hd7 := bl_trans hd6 hc7
  have oA7 := oA6.step hc7
  have oC7 := oC6.step hc7
  clear oA6 oC6 oX6 hd6 d0 d1 d2 d3 d4 d5 k0 k1 e0 e1 e2 e3 hvl
  obtain ⟨d0, d1, d2, d3, d4, d5⟩ := own_six oA7
  obtain ⟨k0, k1⟩ := own_twoF oC7
  by_cases ha : an = 0
  · have z0 : (an == 0) = true := by simpa using ha
    have z1 : (an != 0) = false := by simpa using ha
    obtain rfl : nb = false := by rw [HN.out, z0]; rfl
    have hz := Lib.hid ha
    clear HN ha
    go_wp2
    go_ret
    exact ⟨by first | rfl | simp, hd7⟩
  · have z0 : (an == 0) = false := by simpa using ha
    have z1 : (an != 0) = true := by simpa using ha
    clear ha
    by_cases hm : m1 = 0
    · have y0 : (m1 == 0) = true := by simpa using hm
      have y1 : (m1 != 0) = false := by simpa using hm
      obtain rfl : nb = false := by rw [HN.out, z0, y0]; rfl
      have hz := Lib.hid hm
      clear HN hm
      go_wp2
      go_ret
      exact ⟨by first | rfl | simp, hd7⟩
    · have y0 : (m1 == 0) = false := by simpa using hm
      have y1 : (m1 != 0) = true := by simpa using hm
      clear hm
      cases hB
      · obtain rfl : nb = false := by rw [HN.out, z0, y0]; rfl
        clear HN
        go_wp2
        go_ret
        exact ⟨by first | rfl | simp, hd7⟩
      · obtain rfl : nb = true := by rw [HN.out, z0, y0]; rfl
        clear HN
        cases a0
        · generalize hdd : decide (an ≤ 65535) = dd at *
          cases dd
          · go_wp2
            go_ret
            exact ⟨by first | rfl | simp, hd7⟩
          · go_wp2
            go_ret
            exact ⟨by first | rfl | simp, hd7⟩
        · go_wp2
          go_ret
          exact ⟨by first | rfl | simp, hd7⟩
end Go.Proofs.YtniheakafkakhaaDoor

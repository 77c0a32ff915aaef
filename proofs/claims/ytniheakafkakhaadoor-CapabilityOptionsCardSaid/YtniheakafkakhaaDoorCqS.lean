/- peerageref16.Of -/
import Derived.Test.YtniheakafkakhaaDoorCqP
import Derived.Deep.DeepCutAuto
namespace Go.Proofs.YtniheakafkakhaaDoor
open Go.RowKit

/-- The walk of the reference's Of between two statements. -/
structure ROf (w : World) (opts : Array Value) (W : World) (ov : Value) (L : List (Int × List Int)) (gv : Value) (G : List Int) : Prop where
  bel : Below w.heap.size w W
  o1 : Own W w.heap.size 23 opts
  box : OfS 89 (w.heap.size + 1) W ov L gv G
  lo : w.heap.size + 1 ≤ W.heap.size
theorem rof_end {w W X w6 : World} {opts : Array Value} {L : List (Int × List Int)} {v v' gv : Value} {G : List Int} {L' : List Cp} {q : Cp} (hI : ROf w opts W v L gv G) (h1 : CRow 89 W (w.heap.size + 1) v L') (h2 : L'.map cpK = L) (h3 : ∀ s ∈ L', s.n ≤ 1000) (h4 : W.ownsRow (w.heap.size + 1) 5 1 gv G.length (G.map (Value.int .u8))) (h5 : ∀ s ∈ L', ∀ j, (Value.slice s.A s.n s.c).ownBlock = some j → gv.ownBlock ≠ some j)
    (hX : Below W.heap.size W X) (hq : CD X (w.heap.size + 1) q) (hqn : q.n ≤ 1000) (hf : ∀ j, (Value.slice q.A q.n q.c).ownBlock = some j → W.heap.size ≤ j) (hown : w6.ownsRow (w.heap.size + 1) 89 2 v' (L'.length + 1) (cellsP L' ++ [.int .i64 q.k, .slice q.A q.n q.c])) (hgr : X.grownBy w6 v.ownBlock) : ROf w opts w6 v' (L ++ [cpK q]) gv G := by
  have hvT : ∀ j, v.ownBlock = some j → w.heap.size + 1 ≤ j := fun j hj => (row_typed h1.1 hj).2
  have R5 : Rest W w6 (fun i => v.ownBlock = some i) := (Rest.of_below hX (fun i => v.ownBlock = some i)).trans (Rest.of_grown hgr (P := fun i => v.ownBlock = some i) (fun j e => e)) (fun i _ h => h)
  exact ⟨hI.bel.trans (R5.to_below hI.bel.size (fun i hi e => by have := hvT i e; omega)), R5.own hI.o1 (fun e => by have := hvT _ e; omega), ofS_push of_types.2.2.2.2.2 h1 h2 h3 h4 h5 hX hq hqn hf hown hgr, Nat.le_trans hI.lo R5.size⟩
theorem rof_grow {w W X w' : World} {opts : Array Value} {ov gv gv' : Value} {L : List (Int × List Int)} {G zs : List Int} {m : Nat} (h : ROf w opts W ov L gv G) (hX : Below W.heap.size W X)
    (hown : w'.ownsRow (w.heap.size + 1) 5 1 gv' (G.length + m) (G.map (Value.int .u8) ++ zs.map (Value.int .u8))) (hm : m = zs.length) (hgr : X.grownBy w' gv.ownBlock) (hat : gv'.ownBlock = gv.ownBlock ∨ gv'.ownBlock = some X.heap.size) : ROf w opts w' ov L gv' (G ++ zs) := by
  obtain ⟨h1, h2, h4, h5⟩ := h
  have h4' := h4
  obtain ⟨L', _, _, _, hg, _⟩ := h4'
  have hgX := own_belowG hg hX
  have hT : ∀ j, gv.ownBlock = some j → w.heap.size + 1 ≤ j := fun j hj => (row_typed hgX hj).2
  have R := Rest.of_grown hgr (P := fun j => gv.ownBlock = some j) (fun j e => e)
  exact ⟨(bl_trans h1 hX).trans (R.to_below (bl_trans h1 hX).size (fun i hi e => by have := hT i e; omega)), R.own (h2.step hX) (fun e => by have := hT _ e; omega), ofS_grow of_types.2.2.2.2.2 h4 hX hown hm hgr hat, Nat.le_trans h5 (Nat.le_trans hX.size R.size)⟩
/-- What the reference's Of leaves. -/
def ROfEnd (w : World) (K : List (Int × List Int)) (ov : Value) (W : World) : Prop := ∃ A c L', ov = .slice A (List.length L') c ∧ Caps W W.heap.size A L'.length L' ∧ L'.map cpK = K ∧ (∀ s ∈ L', s.n ≤ 1000) ∧ Below w.heap.size w W
set_option maxRecDepth 100000 in
set_option maxHeartbeats 6400000 in
theorem rcof_any (a0 a1 a2 a3 a4 a5 : Bool) (an : Int) (h0 : 0 ≤ an) (h1 : an < 4294967296) (w : World) :
    Calls Tryd.prog 14 #[.agg #[.bool a0, .bool a1, .bool a2, .bool a3, .bool a4, .bool a5], .int .u32 an] w fun e w' => ∃ ov, e = .returned ov ∧ ROfEnd w (ofK a0 a1 a2 a3 a4 a5 an) ov w' := by
  have hOf := Lib.hid (fun W => of_any 4 an W (by omega) (by omega) h0 h1)
  have hI0 : ROf w #[.bool a0, .bool a1, .bool a2, .bool a3, .bool a4, .bool a5] (w.alloc (.cells #[.bool a0, .bool a1, .bool a2, .bool a3, .bool a4, .bool a5] 23)) (.slice none 0 0) [] (.slice none 0 0) [] := ⟨bl_alloc (bl_refl w) _, Own.new w _ _, OfS.nil _ _ _, by simp⟩
  have c2 := hI0.o1.cell (i := 2) (v := .bool a2) rfl
  clear h0 h1
  go_enter Tryd.func14, Tryd.ntmps14
  go_upto_region 1 with fail
  generalize hgw : w.alloc (.cells #[.bool a0, .bool a1, .bool a2, .bool a3, .bool a4, .bool a5] 23) = w0 at *
  clear hgw
  go_upto_if 8 with fail
  go_cut [5] (fun ov wx => ROf w #[.bool a0, .bool a1, .bool a2, .bool a3, .bool a4, .bool a5] wx ov (ofPut a2 1 [0, 1, 0, 1] []) (.slice none 0 0) [])
  case first =>
    cases a2
    · go_wp2_with fail
      go_meet
      exact hI0
    · skip
      obtain ⟨L1, h1, h2, h3, h4, h5⟩ := hI0.box
      obtain rfl : L1 = [] := List.map_eq_nil_iff.1 h2
      have hLn : ([] : List Cp).length ≤ 10 := by have := congrArg List.length h2; rw [List.length_map] at this; have := (show ([] : List (Int × List Int)).length ≤ 0 by simp); omega
      have bX : Below w0.heap.size w0 ((w0.alloc (.cells #[.int .u8 0, .int .u8 1, .int .u8 0, .int .u8 1] 5)).alloc (.cells #[.int .i64 1, .slice (some ⟨w0.heap.size, 0, none⟩) 4 4] 89)) := bl_alloc (bl_alloc (bl_refl _) _) _
      have oD := (Own.new w0 5 #[.int .u8 0, .int .u8 1, .int .u8 0, .int .u8 1]).alloc (.cells #[.int .i64 1, .slice (some ⟨w0.heap.size, 0, none⟩) 4 4] 89)
      have oS := Own.new (w0.alloc (.cells #[.int .u8 0, .int .u8 1, .int .u8 0, .int .u8 1] 5)) 89 #[.int .i64 1, .slice (some ⟨w0.heap.size, 0, none⟩) 4 4]
      rw [World.size_alloc] at oS
      have hr := Lib.hid (own_belowG h1.1 bX)
      have hlo := hI0.lo
      have hCD : CD ((w0.alloc (.cells #[.int .u8 0, .int .u8 1, .int .u8 0, .int .u8 1] 5)).alloc (.cells #[.int .i64 1, .slice (some ⟨w0.heap.size, 0, none⟩) 4 4] 89)) (w.heap.size + 1) ⟨1, some ⟨w0.heap.size, 0, none⟩, 4, 4, [0, 1, 0, 1]⟩ := ⟨Own.rowC (xs := [0, 1, 0, 1]) oD rfl (by omega) (show (4 : Nat) ≤ maxLen by unfold maxLen; omega), rfl, by simp⟩
      go_wp2_with (at_builtin; refine wpList_append_grow _ rfl _ _ rfl sl_rcps (w.heap.size + 1) _ ([] : List Cp).length (cellsP ([] : List Cp)) rfl hr.out (w0.heap.size + 1 + 1) (some ⟨w0.heap.size + 1, 0, none⟩) 1 1 [.int .i64 1, .slice (some ⟨w0.heap.size, 0, none⟩) 4 4] rfl rfl (Shows.of_owned (xs := [.int .i64 1, .slice (some ⟨w0.heap.size, 0, none⟩) 4 4]) oS (Nat.lt_succ_self _)) (oneP _ _ _ _) (by unfold maxLen; omega) (by omega) (Nat.le_trans hlo bX.size) ?_; intro v6 w6 hrow6 hg6)
      have hN := rof_end (q := ⟨1, some ⟨w0.heap.size, 0, none⟩, 4, 4, [0, 1, 0, 1]⟩) hI0 h1 h2 h3 h4 h5 bX hCD (by show 4 ≤ 1000; omega) (fun j hj => by cases hj; exact Nat.le_refl _) hrow6 hg6
      go_meet
      exact hN
  case rest =>
  clear hI0 c2
  have hl1 := Lib.hid (show (ofPut a2 1 [0, 1, 0, 1] []).length ≤ 1 from ofPut_len a2 1 [0, 1, 0, 1] [])
  have HK : Hid (ofK a0 a1 a2 a3 a4 a5 an = ofPut (decide (0 < (ofG a4 a5 2).length)) 69 (ofG a4 a5 2) (ofPut a0 65 (digitsOf 4 an) (ofPut a1 6 [] (ofPut true 2 [] (ofPut a3 1 [0, 2, 0, 1] (ofPut a2 1 [0, 1, 0, 1] [])))))) := Lib.hid rfl
  generalize ofPut a2 1 [0, 1, 0, 1] [] = L1 at *
  obtain ⟨w1, hw1⟩ : ∃ z, z = wc := ⟨_, rfl⟩
  subst hw1
  have hI1 := hcut
  clear hcut
  have c3 := hI1.o1.cell (i := 3) (v := .bool a3) rfl
  go_upto_if 15 with fail
  go_cut [5] (fun ov wx => ROf w #[.bool a0, .bool a1, .bool a2, .bool a3, .bool a4, .bool a5] wx ov (ofPut a3 1 [0, 2, 0, 1] L1) (.slice none 0 0) [])
  case first =>
    cases a3
    · go_wp2_with fail
      go_meet
      exact hI1
    · skip
      obtain ⟨L1, h1, h2, h3, h4, h5⟩ := hI1.box
      obtain ⟨A1, c1, rfl⟩ := h1.form
      have hLn : L1.length ≤ 10 := by have := congrArg List.length h2; rw [List.length_map] at this; have := hl1.out; omega
      have bX : Below w1.heap.size w1 ((w1.alloc (.cells #[.int .u8 0, .int .u8 2, .int .u8 0, .int .u8 1] 5)).alloc (.cells #[.int .i64 1, .slice (some ⟨w1.heap.size, 0, none⟩) 4 4] 89)) := bl_alloc (bl_alloc (bl_refl _) _) _
      have oD := (Own.new w1 5 #[.int .u8 0, .int .u8 2, .int .u8 0, .int .u8 1]).alloc (.cells #[.int .i64 1, .slice (some ⟨w1.heap.size, 0, none⟩) 4 4] 89)
      have oS := Own.new (w1.alloc (.cells #[.int .u8 0, .int .u8 2, .int .u8 0, .int .u8 1] 5)) 89 #[.int .i64 1, .slice (some ⟨w1.heap.size, 0, none⟩) 4 4]
      rw [World.size_alloc] at oS
      have hr := Lib.hid (own_belowG h1.1 bX)
      have hlo := hI1.lo
      have hCD : CD ((w1.alloc (.cells #[.int .u8 0, .int .u8 2, .int .u8 0, .int .u8 1] 5)).alloc (.cells #[.int .i64 1, .slice (some ⟨w1.heap.size, 0, none⟩) 4 4] 89)) (w.heap.size + 1) ⟨1, some ⟨w1.heap.size, 0, none⟩, 4, 4, [0, 2, 0, 1]⟩ := ⟨Own.rowC (xs := [0, 2, 0, 1]) oD rfl (by omega) (show (4 : Nat) ≤ maxLen by unfold maxLen; omega), rfl, by simp⟩
      go_wp2_with (at_builtin; refine wpList_append_grow _ rfl _ _ rfl sl_rcps (w.heap.size + 1) _ L1.length (cellsP L1) rfl hr.out (w1.heap.size + 1 + 1) (some ⟨w1.heap.size + 1, 0, none⟩) 1 1 [.int .i64 1, .slice (some ⟨w1.heap.size, 0, none⟩) 4 4] rfl rfl (Shows.of_owned (xs := [.int .i64 1, .slice (some ⟨w1.heap.size, 0, none⟩) 4 4]) oS (Nat.lt_succ_self _)) (oneP _ _ _ _) (by unfold maxLen; omega) (by omega) (Nat.le_trans hlo bX.size) ?_; intro v6 w6 hrow6 hg6)
      have hN := rof_end (q := ⟨1, some ⟨w1.heap.size, 0, none⟩, 4, 4, [0, 2, 0, 1]⟩) hI1 h1 h2 h3 h4 h5 bX hCD (by show 4 ≤ 1000; omega) (fun j hj => by cases hj; exact Nat.le_refl _) hrow6 hg6
      go_meet
      exact hN
  case rest =>
  clear hI1 c3
  have hl2 := Lib.hid (ofPut_len a3 1 [0, 2, 0, 1] L1)
  generalize ofPut a3 1 [0, 2, 0, 1] L1 = L2 at *
  obtain ⟨w2, hw2⟩ : ∃ z, z = wc := ⟨_, rfl⟩
  subst hw2
  have hI2 := hcut
  clear hcut
  obtain ⟨L1, h1, h2, h3, h4, h5⟩ := hI2.box
  obtain ⟨A1, c1, rfl⟩ := h1.form
  have hLn : L1.length ≤ 10 := by have := congrArg List.length h2; rw [List.length_map] at this; have := (show L2.length ≤ 2 by have := hl1.out; have := hl2.out; omega); omega
  have bX : Below w2.heap.size w2 (w2.alloc (.cells #[.int .i64 2, .slice none 0 0] 89)) := bl_alloc (bl_refl _) _
  have oS := Own.new w2 89 #[.int .i64 2, .slice none 0 0]
  have hr := Lib.hid (own_belowG h1.1 bX)
  have hlo := hI2.lo
  have hCD : CD (w2.alloc (.cells #[.int .i64 2, .slice none 0 0] 89)) (w.heap.size + 1) ⟨2, none, 0, 0, []⟩ := ⟨World.ownsRow_nil _ _ _ _, rfl, by simp⟩
  go_upto_region 7 with (at_builtin; refine wpList_append_grow _ rfl _ _ rfl sl_rcps (w.heap.size + 1) _ L1.length (cellsP L1) rfl hr.out (w2.heap.size + 1) (some ⟨w2.heap.size, 0, none⟩) 1 1 [.int .i64 2, .slice none 0 0] rfl rfl (Shows.of_owned (xs := [.int .i64 2, .slice none 0 0]) oS (Nat.lt_succ_self _)) (oneP _ _ _ _) (by unfold maxLen; omega) (by omega) (Nat.le_trans hlo bX.size) ?_; intro v6 w6 hrow6 hg6)
  have hN := rof_end (q := ⟨2, none, 0, 0, []⟩) hI2 h1 h2 h3 h4 h5 bX hCD (by show 0 ≤ 1000; omega) (fun j hj => by cases hj) hrow6 hg6
  have hl3 := Lib.hid (ofPut_len true 2 [] L2)
  change ROf w #[.bool a0, .bool a1, .bool a2, .bool a3, .bool a4, .bool a5] w6 _ (ofPut true 2 [] L2) _ _ at hN
  generalize ofPut true 2 [] L2 = L3 at *
  have hI3 := hN
  have c1 := hI3.o1.cell (i := 1) (v := .bool a1) rfl
  clear hN hI2 h1 h2 h3 h4 h5 bX oS hr hlo hCD hrow6 hg6 hLn
  generalize w6 = w3 at *
  go_upto_if 26 with fail
  go_cut [5] (fun ov wx => ROf w #[.bool a0, .bool a1, .bool a2, .bool a3, .bool a4, .bool a5] wx ov (ofPut a1 6 [] L3) (.slice none 0 0) [])
  case first =>
    cases a1
    · go_wp2_with fail
      go_meet
      exact hI3
    · skip
      obtain ⟨L1, h1, h2, h3, h4, h5⟩ := hI3.box
      obtain ⟨A1, c1, rfl⟩ := h1.form
      have hLn : L1.length ≤ 10 := by have := congrArg List.length h2; rw [List.length_map] at this; have := (show L3.length ≤ 3 by have := hl1.out; have := hl2.out; have := hl3.out; omega); omega
      have bX : Below w3.heap.size w3 (w3.alloc (.cells #[.int .i64 6, .slice none 0 0] 89)) := bl_alloc (bl_refl _) _
      have oS := Own.new w3 89 #[.int .i64 6, .slice none 0 0]
      have hr := Lib.hid (own_belowG h1.1 bX)
      have hlo := hI3.lo
      have hCD : CD (w3.alloc (.cells #[.int .i64 6, .slice none 0 0] 89)) (w.heap.size + 1) ⟨6, none, 0, 0, []⟩ := ⟨World.ownsRow_nil _ _ _ _, rfl, by simp⟩
      go_wp2_with (at_builtin; refine wpList_append_grow _ rfl _ _ rfl sl_rcps (w.heap.size + 1) _ L1.length (cellsP L1) rfl hr.out (w3.heap.size + 1) (some ⟨w3.heap.size, 0, none⟩) 1 1 [.int .i64 6, .slice none 0 0] rfl rfl (Shows.of_owned (xs := [.int .i64 6, .slice none 0 0]) oS (Nat.lt_succ_self _)) (oneP _ _ _ _) (by unfold maxLen; omega) (by omega) (Nat.le_trans hlo bX.size) ?_; intro v6 w6 hrow6 hg6)
      have hN := rof_end (q := ⟨6, none, 0, 0, []⟩) hI3 h1 h2 h3 h4 h5 bX hCD (by show 0 ≤ 1000; omega) (fun j hj => by cases hj) hrow6 hg6
      go_meet
      exact hN
  case rest =>
  clear hI3 c1
  have hl4 := Lib.hid (ofPut_len a1 6 [] L3)
  generalize ofPut a1 6 [] L3 = L4 at *
  obtain ⟨w4, hw4⟩ : ∃ z, z = wc := ⟨_, rfl⟩
  subst hw4
  have hI4 := hcut
  clear hcut
  have hb4 := Lib.hid (show L4.length ≤ 4 by have := hl1.out; have := hl2.out; have := hl3.out; have := hl4.out; omega)
  clear hl1 hl2 hl3 hl4
  have c0 := hI4.o1.cell (i := 0) (v := .bool a0) rfl
  go_upto_if 32 with fail
  go_cut [5] (fun ov wx => ROf w #[.bool a0, .bool a1, .bool a2, .bool a3, .bool a4, .bool a5] wx ov (ofPut a0 65 (digitsOf 4 an) L4) (.slice none 0 0) [])
  case first =>
    cases a0
    · go_wp2_with fail
      go_meet
      exact hI4
    · skip
      go_wp2_with fail
      refine (hOf.out _).mono ?_
      rintro e w5 ⟨v5, rfl, hr5, hb5⟩
      obtain ⟨A5, c5, rfl⟩ := own_form hr5
      have hs5 := hb5.size
      obtain ⟨L1, h1, h2, h3, h4, h5⟩ := hI4.box
      obtain ⟨A1, c1, rfl⟩ := h1.form
      have hLn : L1.length ≤ 10 := by have := congrArg List.length h2; rw [List.length_map] at this; have := hb4.out; omega
      have bX : Below w4.heap.size w4 (w5.alloc (.cells #[.int .i64 65, .slice A5 4 c5] 89)) := bl_alloc hb5 _
      have oS := Own.new w5 89 #[.int .i64 65, .slice A5 4 c5]
      have hr := Lib.hid (own_belowG h1.1 bX)
      have hlo := hI4.lo
      have hCD : CD (w5.alloc (.cells #[.int .i64 65, .slice A5 4 c5] 89)) (w.heap.size + 1) ⟨65, A5, 4, c5, digitsOf 4 an⟩ := ⟨own_belowG (own_leG hr5 hlo) (bl_alloc (bl_refl _) _), (digitsOf_len 4 an).symm, digitsOf_range 4 an⟩
      go_wp2_with (at_builtin; refine wpList_append_grow _ rfl _ _ rfl sl_rcps (w.heap.size + 1) _ L1.length (cellsP L1) rfl hr.out (w5.heap.size + 1) (some ⟨w5.heap.size, 0, none⟩) 1 1 [.int .i64 65, .slice A5 4 c5] rfl rfl (Shows.of_owned (xs := [.int .i64 65, .slice A5 4 c5]) oS (Nat.lt_succ_self _)) (oneP _ _ _ _) (by unfold maxLen; omega) (by omega) (by simp; omega) ?_; intro v6 w6 hrow6 hg6)
      have hN := rof_end (q := ⟨65, A5, 4, c5, digitsOf 4 an⟩) hI4 h1 h2 h3 h4 h5 bX hCD (by show 4 ≤ 1000; omega) (fun j hj => (row_typed hr5 hj).2) hrow6 hg6
      go_meet
      exact hN
  case rest =>
  clear hI4 c0
  have hl5 := Lib.hid (ofPut_len a0 65 (digitsOf 4 an) L4)
  generalize ofPut a0 65 (digitsOf 4 an) L4 = L5 at *
  obtain ⟨w5, hw5⟩ : ∃ z, z = wc := ⟨_, rfl⟩
  subst hw5
  have hI5 := hcut
  clear hcut
  have c4 := hI5.o1.cell (i := 4) (v := .bool a4) rfl
  have hbx5 := hI5.box
  obtain ⟨_, hrw5, _, _, _, _⟩ := hbx5
  obtain ⟨oA, oc, rfl⟩ := hrw5.form
  clear hrw5
  rename_i LL _ _ _ _
  have hgl5 : Hid (([] : List Int).length ≤ 0) := Lib.hid (by simp)
  go_upto_if 40 with fail
  go_cut [6] (fun gv wx => ROf w #[.bool a0, .bool a1, .bool a2, .bool a3, .bool a4, .bool a5] wx (.slice oA LL.length oc) L5 gv (([] : List Int) ++ (if a4 then [0, 1, 1, 3] else [])))
  case first =>
    cases a4
    · skip
      go_wp2_with fail
      go_meet
      rw [if_neg (by decide), List.append_nil]
      exact hI5
    · skip
      obtain ⟨L1, h1, h2, h3, h4, h5⟩ := hI5.box
      have bX := bl_alloc (bl_refl w5) (.cells #[.int .u8 0, .int .u8 1, .int .u8 1, .int .u8 3] 5)
      have oS := Own.new w5 5 #[.int .u8 0, .int .u8 1, .int .u8 1, .int .u8 3]
      have hr := Lib.hid (own_belowG h4 bX)
      have hlo := hI5.lo
      go_wp2_with (at_builtin; refine wpList_append_at _ rfl _ _ rfl sl_bytes (w.heap.size + 1) _ _ _ rfl hr.out (w5.heap.size + 1) (some ⟨w5.heap.size, 0, none⟩) 4 4 [.int .u8 0, .int .u8 1, .int .u8 1, .int .u8 3] rfl rfl (Shows.of_owned (xs := [.int .u8 0, .int .u8 1, .int .u8 1, .int .u8 3]) oS (Nat.lt_succ_self _)) (one8 [0, 1, 1, 3]) (by unfold maxLen; have := hgl5.out; omega) (by have := hgl5.out; omega) (by simp; omega) ?_; intro v6 w6 hrow6 hg6 hat6)
      have hN := rof_grow (zs := [0, 1, 1, 3]) hI5 bX hrow6 rfl hg6 hat6
      go_meet
      first | rw [if_pos rfl] | rw [if_pos trivial]
      exact hN
  case rest =>
  clear hI5 c4
  obtain ⟨w6, hw6⟩ : ∃ z, z = wc := ⟨_, rfl⟩
  subst hw6
  have hI6 := hcut
  clear hcut
  have c5 := hI6.o1.cell (i := 5) (v := .bool a5) rfl
  have hgl6 : Hid ((([] : List Int) ++ (if a4 = true then [0, 1, 1, 3] else [])).length ≤ 4) := Lib.hid (by cases a4 <;> simp)
  have hGe : Hid ((([] : List Int) ++ (if a4 = true then [0, 1, 1, 3] else [])) ++ (if a5 = true then [0, 2, 1, 3] else []) = ofG a4 a5 2) := Lib.hid (by cases a4 <;> cases a5 <;> rfl)
  generalize (([] : List Int) ++ (if a4 = true then [0, 1, 1, 3] else [])) = G6 at *
  go_upto_if 45 with fail
  go_cut [6] (fun gv wx => ROf w #[.bool a0, .bool a1, .bool a2, .bool a3, .bool a4, .bool a5] wx (.slice oA LL.length oc) L5 gv (G6 ++ (if a5 then [0, 2, 1, 3] else [])))
  case first =>
    cases a5
    · skip
      go_wp2_with fail
      go_meet
      rw [if_neg (by decide), List.append_nil]
      exact hI6
    · skip
      obtain ⟨L1, h1, h2, h3, h4, h5⟩ := hI6.box
      obtain ⟨gA, gc, rfl⟩ := own_form h4
      have bX := bl_alloc (bl_refl w6) (.cells #[.int .u8 0, .int .u8 2, .int .u8 1, .int .u8 3] 5)
      have oS := Own.new w6 5 #[.int .u8 0, .int .u8 2, .int .u8 1, .int .u8 3]
      have hr := Lib.hid (own_belowG h4 bX)
      have hlo := hI6.lo
      go_wp2_with (at_builtin; refine wpList_append_at _ rfl _ _ rfl sl_bytes (w.heap.size + 1) _ _ _ rfl hr.out (w6.heap.size + 1) (some ⟨w6.heap.size, 0, none⟩) 4 4 [.int .u8 0, .int .u8 2, .int .u8 1, .int .u8 3] rfl rfl (Shows.of_owned (xs := [.int .u8 0, .int .u8 2, .int .u8 1, .int .u8 3]) oS (Nat.lt_succ_self _)) (one8 [0, 2, 1, 3]) (by unfold maxLen; have := hgl6.out; omega) (by have := hgl6.out; omega) (by simp; omega) ?_; intro v6 w6 hrow6 hg6 hat6)
      have hN := rof_grow (zs := [0, 2, 1, 3]) hI6 bX hrow6 rfl hg6 hat6
      go_meet
      first | rw [if_pos rfl] | rw [if_pos trivial]
      exact hN
  case rest =>
  clear hI6 c5
  obtain ⟨w7, hw7⟩ : ∃ z, z = wc := ⟨_, rfl⟩
  subst hw7
  have hI7 := hcut
  clear hcut
  rw [hGe.out] at hI7
  have hGn := Lib.hid (ofG_ok a4 a5 2)
  clear hGe hgl5 hgl6
  generalize ofG a4 a5 2 = G at *
  have hbx7 := hI7.box
  obtain ⟨L1, h1, h2, h3, h4, h5⟩ := hbx7
  obtain ⟨gA, gc, rfl⟩ := own_form h4
  have hbl := Lib.hid hI7.bel
  have hlo := hI7.lo
  have hLn : L1.length ≤ 10 := by have := congrArg List.length h2; rw [List.length_map] at this; have := hb4.out; have := hl5.out; omega
  obtain ⟨oA1, oc1, ho1⟩ := h1.form
  injection ho1 with ho1 ho2 ho3
  subst ho1 ho3
  replace h1 : CRow 89 w7 (w.heap.size + 1) (.slice oA L1.length oc) L1 := by rw [← ho2]; exact h1
  rw [ho2]
  clear ho2 hI7
  by_cases hG0 : 0 < G.length
  · have hd : decide (0 < G.length) = true := decide_eq_true hG0
    rw [hd] at HK
    have bX : Below w7.heap.size w7 (w7.alloc (.cells #[.int .i64 69, .slice gA G.length gc] 89)) := bl_alloc (bl_refl _) _
    have oS := Own.new w7 89 #[.int .i64 69, .slice gA G.length gc]
    have hr := Lib.hid (own_belowG h1.1 bX)
    have hCD : CD (w7.alloc (.cells #[.int .i64 69, .slice gA G.length gc] 89)) (w.heap.size + 1) ⟨69, gA, G.length, gc, G⟩ := ⟨own_belowG h4 bX, rfl, hGn.out.2⟩
    have HCR := Lib.hid (h1.below bX)
    have H3 := Lib.hid h3
    have HM := Lib.hid h2
    have hGl := hGn.out.1
    clear h1 h2 h3 h4 h5
    go_wp2_with (at_builtin; refine wpList_append_grow _ rfl _ _ rfl sl_rcps (w.heap.size + 1) _ L1.length (cellsP L1) rfl hr.out (w7.heap.size + 1) (some ⟨w7.heap.size, 0, none⟩) 1 1 [.int .i64 69, .slice gA G.length gc] rfl rfl (Shows.of_owned (xs := [.int .i64 69, .slice gA G.length gc]) oS (Nat.lt_succ_self _)) (oneP _ _ _ _) (by unfold maxLen; omega) (by omega) (by simp; omega) ?_; intro v6 w6 hrow6 hg6)
    have hP := CRow.push of_types.2.2.2.2.2 (q := ⟨69, gA, G.length, gc, G⟩) HCR.out hCD hrow6 hg6
    obtain ⟨A6, c6, rfl⟩ := hP.form
    have hE : ROfEnd w (ofK a0 a1 a2 a3 a4 a5 an) (.slice A6 (L1 ++ [(⟨69, gA, G.length, gc, G⟩ : Cp)]).length c6) w6 := ⟨A6, c6, _, rfl, hP.caps, by rw [List.map_append, HM.out, HK.out]; rfl, fun s hs => by
      rcases List.mem_append.1 hs with hs | hs
      · exact H3.out s hs
      · rw [List.mem_singleton] at hs
        subst hs
        show G.length ≤ 1000
        omega, (bl_trans hbl.out bX).grown hg6 (bl_trans hbl.out bX).size (fun j hj => by have := (row_typed hr.out hj).2; omega)⟩
    have HE := Lib.hid hE
    clear hE hP hrow6 hg6 hCD oS
    go_wp2
    go_ret
    exact ⟨_, rfl, HE.out⟩
  · have hd : decide (0 < G.length) = false := decide_eq_false hG0
    rw [hd] at HK
    have hE : ROfEnd w (ofK a0 a1 a2 a3 a4 a5 an) (.slice oA L1.length oc) w7 := ⟨oA, oc, L1, rfl, h1.caps, by rw [h2, HK.out]; rfl, h3, hbl.out⟩
    have HE := Lib.hid hE
    clear hE h1 h2 h3 h4 h5
    go_wp2
    go_ret
    exact ⟨_, rfl, HE.out⟩
end Go.Proofs.YtniheakafkakhaaDoor

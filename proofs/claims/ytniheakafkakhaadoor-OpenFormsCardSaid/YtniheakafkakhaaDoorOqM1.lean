/- XOqM1: XOqA, XOqB, XOqC, XOqD, XOqE, XOqH, XOqF in one text -/
import Derived.Test.YtniheakafkakhaaDoorRdrB
import Derived.Test.YtniheakafkakhaaDoorNum
import Derived.Test.YtniheakafkakhaaDoorPfxB
import Derived.Test.YtniheakafkakhaaDoorCqR
import Derived.Test.YtniheakafkakhaaDoorCpF
import Derived.Test.YtniheakafkakhaaDoorCqA
import Derived.Test.YtniheakafkakhaaDoorNgM1
/- open.parser: fail, and the steps that read the fixed fields -/
namespace Go.Proofs.YtniheakafkakhaaDoor
open Go.RowKit Go.Sort
theorem own_10 {w : World} {g : Nat} {T : TypeId} {u0 u1 u2 u3 u4 u5 u6 u7 u8 u9 : Value} (h : Own w g T #[u0, u1, u2, u3, u4, u5, u6, u7, u8, u9]) : w.cell? ⟨g, 0, none⟩ = some u0 ∧ w.cell? ⟨g, 1, none⟩ = some u1 ∧ w.cell? ⟨g, 2, none⟩ = some u2 ∧ w.cell? ⟨g, 3, none⟩ = some u3 ∧ w.cell? ⟨g, 4, none⟩ = some u4 ∧ w.cell? ⟨g, 5, none⟩ = some u5 ∧ w.cell? ⟨g, 6, none⟩ = some u6 ∧ w.cell? ⟨g, 7, none⟩ = some u7 ∧ w.cell? ⟨g, 8, none⟩ = some u8 ∧ w.cell? ⟨g, 9, none⟩ = some u9 := ⟨h.cell rfl, h.cell rfl, h.cell rfl, h.cell rfl, h.cell rfl, h.cell rfl, h.cell rfl, h.cell rfl, h.cell rfl, h.cell rfl⟩
/-- What a step leaves that has failed. -/
def PFail (w : World) (g gr : Nat) (sub at_ : Int) (ds : List Int) (w' : World) : Prop := ∃ a hd id A n c D dn dc, Own w' g 117 #[.pointer (some ⟨gr, 0, none⟩), .int .u32 (a), .int .i64 (hd), .int .u32 (id), .slice A n c, .int .i64 (4), .int .i64 (2), .int .i64 (sub), .slice D dn dc, .int .i64 (at_)] ∧ Bytes w' w'.heap.size D dn ds ∧ Below gr w w' ∧ w.heap.size ≤ w'.heap.size
theorem num_below {w w' : World} {gr : Nat} (hk : w.grownBy w' (some gr)) (hl : gr ≤ w.heap.size) : Below gr w w' := (Below.refl _ _).grown hk hl (fun j hj => by cases hj; exact Nat.le_refl _)
theorem Bytes.otherW {w : World} {B n g : Nat} {A : Option Addr} {xs : List Int} {T : TypeId} {cs : Array Value} (h : Bytes w B A n xs) (ho : Own w g T cs) (hc : ∀ (o : Nat) (z : Int), cs[o]? ≠ some (Value.int .u8 z)) (i : Nat) (u : Value) : Bytes (w.setCell ⟨g, i, none⟩ u) B A n xs := by
  refine ⟨h.1, h.2.1, ?_⟩
  rcases h.2.2 with h1 | ⟨b, o, hA, hB, hcell⟩
  · exact .inl h1
  · match hx : xs with
    | [] => exact .inl rfl
    | x :: rest =>
      have hbg : b ≠ g := by
        intro e
        subst e
        have := hcell 0 (.int .u8 x) rfl
        exact hc _ x ((cell_of_row w b (o + 0) cs T (0, 0) ho).symm.trans this)
      refine .inr ⟨b, o, hA, hB, fun j v hj => ?_⟩
      rw [World.cell?_setCell_other _ _ _ _ (by simp only [ne_eq, Addr.mk.injEq]; omega)]
      exact hcell j v hj
theorem nu8_p (gr : Nat) (a hd id : Int) (A : Option Addr) (n c : Nat) (k cd sb : Int) (D : Option Addr) (dn dc : Nat) (t : Int) : ∀ (o : Nat) (z : Int), (#[.pointer (some ⟨gr, 0, none⟩), .int .u32 (a), .int .i64 (hd), .int .u32 (id), .slice A n c, .int .i64 (k), .int .i64 (cd), .int .i64 (sb), .slice D dn dc, .int .i64 (t)] : Array Value)[o]? ≠ some (Value.int .u8 z) := by
  intro o z
  rcases o with _ | _ | _ | _ | _ | _ | _ | _ | _ | _ | o <;> simp
set_option maxRecDepth 100000 in
set_option maxHeartbeats 1600000 in
theorem ofail_any (g gr : Nat) (a hd id : Int) (A : Option Addr) (n c : Nat) (sub at_ : Int) (X : Option Addr) (xn xc : Nat) (ds : List Int) (w : World) (h : Own w g 117 #[.pointer (some ⟨gr, 0, none⟩), .int .u32 (a), .int .i64 (hd), .int .u32 (id), .slice A n c, .int .i64 (0), .int .i64 (0), .int .i64 (0), .slice none 0 0, .int .i64 (0)]) (hx : Bytes w w.heap.size X xn ds) (hl : xn ≤ 1000) :
    Calls Tryd.prog 115 #[.pointer (some ⟨g, 0, none⟩), .int .i64 sub, .int .i64 at_, .slice X xn xc] w fun e w' => (∃ u, e = .returned u) ∧ ∃ D dn dc, Own w' g 117 #[.pointer (some ⟨gr, 0, none⟩), .int .u32 (a), .int .i64 (hd), .int .u32 (id), .slice A n c, .int .i64 (4), .int .i64 (2), .int .i64 (sub), .slice D dn dc, .int .i64 (at_)] ∧ Bytes w' w'.heap.size D dn ds ∧ Below g w w' ∧ w.heap.size ≤ w'.heap.size := by
  have hg := h.lt
  have hP := parts_one (c := xc) hx 43
  have hb0 := bl_alloc (bl_refl w) (.cells #[.slice X xn xc] 43)
  have hC := Lib.hid (cat_bytes (c := 1) hP (by omega) (by rw [flat_one]; have := hx.1; show ds.length ≤ 1000000000; omega))
  rw [flat_one] at hC
  obtain ⟨q0, q1, q2, q3, q4, q5, q6, q7, q8, q9⟩ := own_10 h
  clear hP hx hl
  go_enter Tryd.func115, Tryd.ntmps115
  go_wp2_with fail
  refine hC.out.mono ?_
  rintro e w2 ⟨B, d, rfl, hB, hb2⟩
  have hb3 := bl_trans hb0 hb2
  have h2 := h.step hb3
  have hB2 := Lib.hid hB
  clear q0 q1 q2 q3 q4 q5 q6 q7 q8 q9 hC hB
  obtain ⟨q0, q1, q2, q3, q4, q5, q6, q7, q8, q9⟩ := own_10 h2
  have f5 := h2.frozen 5
  have f6 := h2.frozen 6
  have f7 := h2.frozen 7
  have f8 := h2.frozen 8
  have f9 := h2.frozen 9
  have hbg : Below g w w2 := hb3.mono (by omega)
  have hbz := ((((hbg.setCell (p := ⟨g, 5, none⟩) (Nat.le_refl _) (.int .i64 4)).setCell (p := ⟨g, 6, none⟩) (Nat.le_refl _) (.int .i64 2)).setCell (p := ⟨g, 7, none⟩) (Nat.le_refl _) (.int .i64 sub)).setCell (p := ⟨g, 8, none⟩) (Nat.le_refl _) (.slice B ds.length d)).setCell (p := ⟨g, 9, none⟩) (Nat.le_refl _) (.int .i64 at_)
  have g0 : Own (w2.setCell ⟨g, 5, none⟩ (.int .i64 4)) g 117 #[.pointer (some ⟨gr, 0, none⟩), .int .u32 (a), .int .i64 (hd), .int .u32 (id), .slice A n c, .int .i64 (4), .int .i64 (0), .int .i64 (0), .slice none 0 0, .int .i64 (0)] := h2.set_ 5 (.int .i64 4)
  have b0 := hB2.out.otherW h2 (nu8_p gr a hd id A n c _ _ _ _ _ _ _) 5 (.int .i64 4)
  have g1 : Own ((w2.setCell ⟨g, 5, none⟩ (.int .i64 4)).setCell ⟨g, 6, none⟩ (.int .i64 2)) g 117 #[.pointer (some ⟨gr, 0, none⟩), .int .u32 (a), .int .i64 (hd), .int .u32 (id), .slice A n c, .int .i64 (4), .int .i64 (2), .int .i64 (0), .slice none 0 0, .int .i64 (0)] := g0.set_ 6 (.int .i64 2)
  have b1 := b0.otherW g0 (nu8_p gr a hd id A n c _ _ _ _ _ _ _) 6 (.int .i64 2)
  have g2 : Own (((w2.setCell ⟨g, 5, none⟩ (.int .i64 4)).setCell ⟨g, 6, none⟩ (.int .i64 2)).setCell ⟨g, 7, none⟩ (.int .i64 sub)) g 117 #[.pointer (some ⟨gr, 0, none⟩), .int .u32 (a), .int .i64 (hd), .int .u32 (id), .slice A n c, .int .i64 (4), .int .i64 (2), .int .i64 (sub), .slice none 0 0, .int .i64 (0)] := g1.set_ 7 (.int .i64 sub)
  have b2 := b1.otherW g1 (nu8_p gr a hd id A n c _ _ _ _ _ _ _) 7 (.int .i64 sub)
  have g3 : Own ((((w2.setCell ⟨g, 5, none⟩ (.int .i64 4)).setCell ⟨g, 6, none⟩ (.int .i64 2)).setCell ⟨g, 7, none⟩ (.int .i64 sub)).setCell ⟨g, 8, none⟩ (.slice B ds.length d)) g 117 #[.pointer (some ⟨gr, 0, none⟩), .int .u32 (a), .int .i64 (hd), .int .u32 (id), .slice A n c, .int .i64 (4), .int .i64 (2), .int .i64 (sub), .slice B ds.length d, .int .i64 (0)] := g2.set_ 8 (.slice B ds.length d)
  have b3 := b2.otherW g2 (nu8_p gr a hd id A n c _ _ _ _ _ _ _) 8 (.slice B ds.length d)
  have g4 : Own (((((w2.setCell ⟨g, 5, none⟩ (.int .i64 4)).setCell ⟨g, 6, none⟩ (.int .i64 2)).setCell ⟨g, 7, none⟩ (.int .i64 sub)).setCell ⟨g, 8, none⟩ (.slice B ds.length d)).setCell ⟨g, 9, none⟩ (.int .i64 at_)) g 117 #[.pointer (some ⟨gr, 0, none⟩), .int .u32 (a), .int .i64 (hd), .int .u32 (id), .slice A n c, .int .i64 (4), .int .i64 (2), .int .i64 (sub), .slice B ds.length d, .int .i64 (at_)] := g3.set_ 9 (.int .i64 at_)
  have b4 := b3.otherW g3 (nu8_p gr a hd id A n c _ _ _ _ _ _ _) 9 (.int .i64 at_)
  have hBz := b4.more (B' := (((((w2.setCell ⟨g, 5, none⟩ (.int .i64 4)).setCell ⟨g, 6, none⟩ (.int .i64 2)).setCell ⟨g, 7, none⟩ (.int .i64 sub)).setCell ⟨g, 8, none⟩ (.slice B ds.length d)).setCell ⟨g, 9, none⟩ (.int .i64 at_)).heap.size) (by simp)
  have hsz := hb3.size
  have HZ := Lib.hid g4
  have HBZ := Lib.hid hbz
  have HBB := Lib.hid hBz
  clear g0 g1 g2 g3 g4 b0 b1 b2 b3 b4 hbz hBz
  go_wp2
  go_end0
  exact ⟨⟨_, rfl⟩, B, ds.length, d, HZ.out, HBB.out, HBZ.out, by simpa using hsz⟩
set_option maxRecDepth 100000 in
set_option maxHeartbeats 1600000 in
theorem rsize_yes (B g gr : Nat) (a hd id : Int) (A : Option Addr) (n c : Nat) (xs : List Int) (p : Nat) (w : World) (h : Own w g 117 #[.pointer (some ⟨gr, 0, none⟩), .int .u32 (a), .int .i64 (hd), .int .u32 (id), .slice A n c, .int .i64 (0), .int .i64 (0), .int .i64 (0), .slice none 0 0, .int .i64 (0)]) (hr : RdrB B w gr xs p) (hgr : gr < g) (hBg : B ≤ g) (hl : xs.length ≤ 1000000) (hp : p ≤ 1000000) (h10 : 10 ≤ xs.length) :
    Calls Tryd.prog 81 #[.pointer (some ⟨g, 0, none⟩)] w fun e w' => (∃ u, e = .returned u) ∧ w = w' := by
  have hun : gr < g ∧ B ≤ g ∧ p ≤ 1000000 ∧ xs.length ≤ 1000000 := ⟨hgr, hBg, hp, hl⟩
  clear hun
  have hg := h.lt
  have hrl := hr.lt
  obtain ⟨q0, q1, q2, q3, q4, q5, q6, q7, q8, q9⟩ := own_10 h
  have d10 : decide ((xs.length : Int) < 10) = false := decide_eq_false (by omega)
  go_enter Tryd.func81, Tryd.ntmps81
  go_wp2_with fail
  refine (left_any gr xs p w hr.rdr).mono ?_
  rintro e w1 ⟨rfl, rfl⟩
  go_wp2
  go_end0
  exact ⟨⟨_, rfl⟩, rfl⟩
set_option maxRecDepth 100000 in
set_option maxHeartbeats 1600000 in
theorem rsize_no (B g gr : Nat) (a hd id : Int) (A : Option Addr) (n c : Nat) (xs : List Int) (p : Nat) (w : World) (h : Own w g 117 #[.pointer (some ⟨gr, 0, none⟩), .int .u32 (a), .int .i64 (hd), .int .u32 (id), .slice A n c, .int .i64 (0), .int .i64 (0), .int .i64 (0), .slice none 0 0, .int .i64 (0)]) (hr : RdrB B w gr xs p) (hgr : gr < g) (hBg : B ≤ g) (hl : xs.length ≤ 1000000) (hp : p ≤ 1000000) (h10 : xs.length < 10) :
    Calls Tryd.prog 81 #[.pointer (some ⟨g, 0, none⟩)] w fun e w' => (∃ u, e = .returned u) ∧ PFail w g gr 0 xs.length [] w' := by
  have hun : gr < g ∧ B ≤ g ∧ p ≤ 1000000 ∧ xs.length ≤ 1000000 := ⟨hgr, hBg, hp, hl⟩
  clear hun
  have hg := h.lt
  have hrl := hr.lt
  obtain ⟨q0, q1, q2, q3, q4, q5, q6, q7, q8, q9⟩ := own_10 h
  have hs0 : w.heap.size ≤ w.heap.size := Nat.le_refl _
  have d10 : decide ((xs.length : Int) < 10) = true := decide_eq_true (by omega)
  have hrr := Lib.hid hr
  clear h10
  go_enter Tryd.func81, Tryd.ntmps81
  go_wp2_with fail
  refine (left_any gr xs p w hr.rdr).mono ?_
  rintro e w1 ⟨rfl, rfl⟩
  go_wp2_with fail
  refine (left_any gr xs p w hrr.out.rdr).mono ?_
  rintro e w1 ⟨rfl, rfl⟩
  go_wp2_with fail
  refine (ofail_any g gr _ _ _ _ _ _ 0 xs.length none 0 0 [] _ h (Bytes.nil _ _ none) (by omega)).mono ?_
  rintro e w9 ⟨⟨u, rfl⟩, D, dn, dc, ho9, hB9, hb9, hs9⟩
  have hbl := (Below.refl gr w).trans (hb9.mono (Nat.le_of_lt hgr))
  go_wp2
  go_end0
  exact ⟨⟨_, rfl⟩, _, _, _, _, _, _, _, _, _, ho9, hB9, hbl, by omega⟩
set_option maxRecDepth 100000 in
set_option maxHeartbeats 1600000 in
theorem rver_yes (B g gr : Nat) (a hd id : Int) (A : Option Addr) (n c : Nat) (xs : List Int) (p : Nat) (w : World) (h : Own w g 117 #[.pointer (some ⟨gr, 0, none⟩), .int .u32 (a), .int .i64 (hd), .int .u32 (id), .slice A n c, .int .i64 (0), .int .i64 (0), .int .i64 (0), .slice none 0 0, .int .i64 (0)]) (hr : RdrB B w gr xs p) (hgr : gr < g) (hBg : B ≤ g) (hl : xs.length ≤ 1000000) (hp : p ≤ 1000000) (hk : 1 ≤ xs.length) (hv : big (xs.take 1) = 4) :
    Calls Tryd.prog 82 #[.pointer (some ⟨g, 0, none⟩)] w fun e w' => (∃ u, e = .returned u) ∧ Own w' g 117 #[.pointer (some ⟨gr, 0, none⟩), .int .u32 (a), .int .i64 (hd), .int .u32 (id), .slice A n c, .int .i64 (0), .int .i64 (0), .int .i64 (0), .slice none 0 0, .int .i64 (0)] ∧ RdrB B w' gr (xs.drop 1) (p + 1) ∧ Below gr w w' ∧ w.heap.size ≤ w'.heap.size := by
  have hun : gr < g ∧ B ≤ g ∧ p ≤ 1000000 ∧ xs.length ≤ 1000000 := ⟨hgr, hBg, hp, hl⟩
  clear hun
  have hg := h.lt
  have hrl := hr.lt
  obtain ⟨q0, q1, q2, q3, q4, q5, q6, q7, q8, q9⟩ := own_10 h
  have hrr := Lib.hid hr
  have hlen := Lib.hid hk
  have HV := Lib.hid hv
  clear hk hv
  go_enter Tryd.func82, Tryd.ntmps82
  go_wp2_with fail
  refine (at_any gr xs p w hr.rdr).mono ?_
  rintro e w1 ⟨rfl, rfl⟩
  go_wp2_with fail
  refine (number_yesB B gr xs p 1 w hrr.out (by omega) (by omega) (by omega) (by omega) (by have := hlen.out; omega)).mono ?_
  rintro e w2 ⟨rfl, hr2, hk2⟩
  have h2 := h.grown hk2 (by intro he; cases he; omega)
  have hb2 := num_below hk2 (by omega)
  have hs0 := hk2.size
  clear q0 q1 q2 q3 q4 q5 q6 q7 q8 q9
  obtain ⟨q0, q1, q2, q3, q4, q5, q6, q7, q8, q9⟩ := own_10 h2
  rw [show big (xs.take (1 : Int).toNat) = 4 from HV.out]
  go_wp2
  go_end0
  exact ⟨⟨_, rfl⟩, h2, hr2, hb2, hs0⟩
set_option maxRecDepth 100000 in
set_option maxHeartbeats 1600000 in
theorem rver_no (B g gr : Nat) (a hd id : Int) (A : Option Addr) (n c : Nat) (xs : List Int) (p : Nat) (w : World) (h : Own w g 117 #[.pointer (some ⟨gr, 0, none⟩), .int .u32 (a), .int .i64 (hd), .int .u32 (id), .slice A n c, .int .i64 (0), .int .i64 (0), .int .i64 (0), .slice none 0 0, .int .i64 (0)]) (hr : RdrB B w gr xs p) (hgr : gr < g) (hBg : B ≤ g) (hl : xs.length ≤ 1000000) (hp : p ≤ 1000000) (hk : 1 ≤ xs.length) (hv : ¬ big (xs.take 1) = 4) :
    Calls Tryd.prog 82 #[.pointer (some ⟨g, 0, none⟩)] w fun e w' => (∃ u, e = .returned u) ∧ PFail w g gr 1 p [0, 4] w' := by
  have hun : gr < g ∧ B ≤ g ∧ p ≤ 1000000 ∧ xs.length ≤ 1000000 := ⟨hgr, hBg, hp, hl⟩
  clear hun
  have hg := h.lt
  have hrl := hr.lt
  obtain ⟨q0, q1, q2, q3, q4, q5, q6, q7, q8, q9⟩ := own_10 h
  have hrr := Lib.hid hr
  have hlen := Lib.hid hk
  have HV : Hid (¬ big (xs.take (1 : Int).toNat) = 4) := Lib.hid hv
  clear hk hv
  go_enter Tryd.func82, Tryd.ntmps82
  go_wp2_with fail
  refine (at_any gr xs p w hr.rdr).mono ?_
  rintro e w1 ⟨rfl, rfl⟩
  go_wp2_with fail
  refine (number_yesB B gr xs p 1 w hrr.out (by omega) (by omega) (by omega) (by omega) (by have := hlen.out; omega)).mono ?_
  rintro e w2 ⟨rfl, hr2, hk2⟩
  have h2 := h.grown hk2 (by intro he; cases he; omega)
  have hb2 := num_below hk2 (by omega)
  have hs0 := hk2.size
  clear q0 q1 q2 q3 q4 q5 q6 q7 q8 q9
  obtain ⟨q0, q1, q2, q3, q4, q5, q6, q7, q8, q9⟩ := own_10 h2
  generalize big (xs.take (1 : Int).toNat) = x at *
  have hx4 := HV.out
  have hx5 : (x != 4) = true := by simpa using hx4
  have hba := bl_alloc (bl_refl w2) (.cells #[.int .u8 0, .int .u8 4] 5)
  have hoa := Own.new w2 5 #[.int .u8 0, .int .u8 4]
  go_wp2_with fail
  refine (ofail_any g gr _ _ _ _ _ _ 1 p (some ⟨w2.heap.size, 0, none⟩) 2 2 [0, 4] _ (h2.step hba) (Bytes.of_owned (xs := [0, 4]) hoa (by decide) hoa.lt) (by omega)).mono ?_
  rintro e w9 ⟨⟨u, rfl⟩, D, dn, dc, ho9, hB9, hb9, hs9⟩
  have hbl := (hb2.trans (hba.mono (by have := hs0; omega))).trans (hb9.mono (Nat.le_of_lt hgr))
  have hsa := hba.size
  go_wp2
  go_end0
  exact ⟨⟨_, rfl⟩, _, _, _, _, _, _, _, _, _, ho9, hB9, hbl, by omega⟩
set_option maxRecDepth 100000 in
set_option maxHeartbeats 1600000 in
theorem rsys_yes (B g gr : Nat) (a hd id : Int) (A : Option Addr) (n c : Nat) (xs : List Int) (p : Nat) (w : World) (h : Own w g 117 #[.pointer (some ⟨gr, 0, none⟩), .int .u32 (a), .int .i64 (hd), .int .u32 (id), .slice A n c, .int .i64 (0), .int .i64 (0), .int .i64 (0), .slice none 0 0, .int .i64 (0)]) (hr : RdrB B w gr xs p) (hgr : gr < g) (hBg : B ≤ g) (hl : xs.length ≤ 1000000) (hp : p ≤ 1000000) (hk : 2 ≤ xs.length) (hv : ¬ big (xs.take 2) = 0) :
    Calls Tryd.prog 83 #[.pointer (some ⟨g, 0, none⟩)] w fun e w' => (∃ u, e = .returned u) ∧ Own w' g 117 #[.pointer (some ⟨gr, 0, none⟩), .int .u32 (big (xs.take 2)), .int .i64 (hd), .int .u32 (id), .slice A n c, .int .i64 (0), .int .i64 (0), .int .i64 (0), .slice none 0 0, .int .i64 (0)] ∧ RdrB B w' gr (xs.drop 2) (p + 2) ∧ Below gr w w' ∧ w.heap.size ≤ w'.heap.size := by
  have hun : gr < g ∧ B ≤ g ∧ p ≤ 1000000 ∧ xs.length ≤ 1000000 := ⟨hgr, hBg, hp, hl⟩
  clear hun
  have hg := h.lt
  have hrl := hr.lt
  obtain ⟨q0, q1, q2, q3, q4, q5, q6, q7, q8, q9⟩ := own_10 h
  have hrr := Lib.hid hr
  have hlen := Lib.hid hk
  have HV : Hid (¬ big (xs.take (2 : Int).toNat) = 0) := Lib.hid hv
  obtain ⟨x, ex⟩ : ∃ x, big (xs.take 2) = x := ⟨_, rfl⟩
  rw [ex]
  have ex2 : big (xs.take (2 : Int).toNat) = x := ex
  rw [ex2] at HV
  have HE := Lib.hid ex2
  clear hk hv ex ex2
  go_enter Tryd.func83, Tryd.ntmps83
  go_wp2_with fail
  refine (at_any gr xs p w hr.rdr).mono ?_
  rintro e w1 ⟨rfl, rfl⟩
  go_wp2_with fail
  refine (number_yesB B gr xs p 2 w hrr.out (by omega) (by omega) (by omega) (by omega) (by have := hlen.out; omega)).mono ?_
  rintro e w2 ⟨rfl, hr2, hk2⟩
  have h2 := h.grown hk2 (by intro he; cases he; omega)
  have hb2 := num_below hk2 (by omega)
  have hs0 := hk2.size
  clear q0 q1 q2 q3 q4 q5 q6 q7 q8 q9
  obtain ⟨q0, q1, q2, q3, q4, q5, q6, q7, q8, q9⟩ := own_10 h2
  rw [HE.out]
  have f1 := h2.frozen 1
  have h3 : Own (w2.setCell ⟨g, 1, none⟩ (.int .u32 x)) g 117 #[.pointer (some ⟨gr, 0, none⟩), .int .u32 (x), .int .i64 (hd), .int .u32 (id), .slice A n c, .int .i64 (0), .int .i64 (0), .int .i64 (0), .slice none 0 0, .int .i64 (0)] := h2.set_ 1 (.int .u32 x)
  have hr3 := hr2.setCell (a := ⟨g, 1, none⟩) (v := .int .u32 x) hBg (by show g ≠ gr; omega)
  have hb3 := hb2.setCell (p := ⟨g, 1, none⟩) (Nat.le_of_lt hgr) (.int .u32 x)
  have hz3 : (w2.setCell ⟨g, 1, none⟩ (.int .u32 x)).heap.size = w2.heap.size := by simp
  have hs3 : w.heap.size ≤ (w2.setCell ⟨g, 1, none⟩ (.int .u32 x)).heap.size := by omega
  have H3 := Lib.hid h3
  have R3 := Lib.hid hr3
  have S3 := Lib.hid hs3
  clear h3 hr3 hz3 hs3
  have hx0 : (x == 0) = false := by have := HV.out; simpa using this
  go_wp2
  go_end0
  exact ⟨⟨_, rfl⟩, H3.out, R3.out, hb3, S3.out⟩
set_option maxRecDepth 100000 in
set_option maxHeartbeats 1600000 in
theorem rsys_no (B g gr : Nat) (a hd id : Int) (A : Option Addr) (n c : Nat) (xs : List Int) (p : Nat) (w : World) (h : Own w g 117 #[.pointer (some ⟨gr, 0, none⟩), .int .u32 (a), .int .i64 (hd), .int .u32 (id), .slice A n c, .int .i64 (0), .int .i64 (0), .int .i64 (0), .slice none 0 0, .int .i64 (0)]) (hr : RdrB B w gr xs p) (hgr : gr < g) (hBg : B ≤ g) (hl : xs.length ≤ 1000000) (hp : p ≤ 1000000) (hk : 2 ≤ xs.length) (hv : big (xs.take 2) = 0) :
    Calls Tryd.prog 83 #[.pointer (some ⟨g, 0, none⟩)] w fun e w' => (∃ u, e = .returned u) ∧ PFail w g gr 2 p [] w' := by
  have hun : gr < g ∧ B ≤ g ∧ p ≤ 1000000 ∧ xs.length ≤ 1000000 := ⟨hgr, hBg, hp, hl⟩
  clear hun
  have hg := h.lt
  have hrl := hr.lt
  obtain ⟨q0, q1, q2, q3, q4, q5, q6, q7, q8, q9⟩ := own_10 h
  have hrr := Lib.hid hr
  have hlen := Lib.hid hk
  have HE : Hid (big (xs.take (2 : Int).toNat) = 0) := Lib.hid hv
  clear hk hv
  go_enter Tryd.func83, Tryd.ntmps83
  go_wp2_with fail
  refine (at_any gr xs p w hr.rdr).mono ?_
  rintro e w1 ⟨rfl, rfl⟩
  go_wp2_with fail
  refine (number_yesB B gr xs p 2 w hrr.out (by omega) (by omega) (by omega) (by omega) (by have := hlen.out; omega)).mono ?_
  rintro e w2 ⟨rfl, hr2, hk2⟩
  have h2 := h.grown hk2 (by intro he; cases he; omega)
  have hb2 := num_below hk2 (by omega)
  have hs0 := hk2.size
  clear q0 q1 q2 q3 q4 q5 q6 q7 q8 q9
  obtain ⟨q0, q1, q2, q3, q4, q5, q6, q7, q8, q9⟩ := own_10 h2
  rw [HE.out]
  have f1 := h2.frozen 1
  have h3 : Own (w2.setCell ⟨g, 1, none⟩ (.int .u32 0)) g 117 #[.pointer (some ⟨gr, 0, none⟩), .int .u32 (0), .int .i64 (hd), .int .u32 (id), .slice A n c, .int .i64 (0), .int .i64 (0), .int .i64 (0), .slice none 0 0, .int .i64 (0)] := h2.set_ 1 (.int .u32 0)
  have hr3 := hr2.setCell (a := ⟨g, 1, none⟩) (v := .int .u32 0) hBg (by show g ≠ gr; omega)
  have hb3 := hb2.setCell (p := ⟨g, 1, none⟩) (Nat.le_of_lt hgr) (.int .u32 0)
  have hz3 : (w2.setCell ⟨g, 1, none⟩ (.int .u32 0)).heap.size = w2.heap.size := by simp
  have hs3 : w.heap.size ≤ (w2.setCell ⟨g, 1, none⟩ (.int .u32 0)).heap.size := by omega
  have H3 := Lib.hid h3
  have R3 := Lib.hid hr3
  have S3 := Lib.hid hs3
  clear h3 hr3 hz3 hs3
  have hs0 := S3.out
  go_wp2_with fail
  refine (ofail_any g gr _ _ _ _ _ _ 2 p none 0 0 [] _ H3.out (Bytes.nil _ _ none) (by omega)).mono ?_
  rintro e w9 ⟨⟨u, rfl⟩, D, dn, dc, ho9, hB9, hb9, hs9⟩
  have hbl := hb3.trans (hb9.mono (Nat.le_of_lt hgr))
  go_wp2
  go_end0
  exact ⟨⟨_, rfl⟩, _, _, _, _, _, _, _, _, _, ho9, hB9, hbl, by omega⟩
set_option maxRecDepth 100000 in
set_option maxHeartbeats 1600000 in
theorem rid_yes (B g gr : Nat) (a hd id : Int) (A : Option Addr) (n c : Nat) (xs : List Int) (p : Nat) (w : World) (h : Own w g 117 #[.pointer (some ⟨gr, 0, none⟩), .int .u32 (a), .int .i64 (hd), .int .u32 (id), .slice A n c, .int .i64 (0), .int .i64 (0), .int .i64 (0), .slice none 0 0, .int .i64 (0)]) (hr : RdrB B w gr xs p) (hgr : gr < g) (hBg : B ≤ g) (hl : xs.length ≤ 1000000) (hp : p ≤ 1000000) (hk : 4 ≤ xs.length) (hv : ¬ big (xs.take 4) = 0) :
    Calls Tryd.prog 85 #[.pointer (some ⟨g, 0, none⟩)] w fun e w' => (∃ u, e = .returned u) ∧ Own w' g 117 #[.pointer (some ⟨gr, 0, none⟩), .int .u32 (a), .int .i64 (hd), .int .u32 (big (xs.take 4)), .slice A n c, .int .i64 (0), .int .i64 (0), .int .i64 (0), .slice none 0 0, .int .i64 (0)] ∧ RdrB B w' gr (xs.drop 4) (p + 4) ∧ Below gr w w' ∧ w.heap.size ≤ w'.heap.size := by
  have hun : gr < g ∧ B ≤ g ∧ p ≤ 1000000 ∧ xs.length ≤ 1000000 := ⟨hgr, hBg, hp, hl⟩
  clear hun
  have hg := h.lt
  have hrl := hr.lt
  obtain ⟨q0, q1, q2, q3, q4, q5, q6, q7, q8, q9⟩ := own_10 h
  have hrr := Lib.hid hr
  have hlen := Lib.hid hk
  have HV : Hid (¬ big (xs.take (4 : Int).toNat) = 0) := Lib.hid hv
  obtain ⟨x, ex⟩ : ∃ x, big (xs.take 4) = x := ⟨_, rfl⟩
  rw [ex]
  have ex2 : big (xs.take (4 : Int).toNat) = x := ex
  rw [ex2] at HV
  have HE := Lib.hid ex2
  clear hk hv ex ex2
  go_enter Tryd.func85, Tryd.ntmps85
  go_wp2_with fail
  refine (at_any gr xs p w hr.rdr).mono ?_
  rintro e w1 ⟨rfl, rfl⟩
  go_wp2_with fail
  refine (number_yesB B gr xs p 4 w hrr.out (by omega) (by omega) (by omega) (by omega) (by have := hlen.out; omega)).mono ?_
  rintro e w2 ⟨rfl, hr2, hk2⟩
  have h2 := h.grown hk2 (by intro he; cases he; omega)
  have hb2 := num_below hk2 (by omega)
  have hs0 := hk2.size
  clear q0 q1 q2 q3 q4 q5 q6 q7 q8 q9
  obtain ⟨q0, q1, q2, q3, q4, q5, q6, q7, q8, q9⟩ := own_10 h2
  rw [HE.out]
  have f3 := h2.frozen 3
  have h3 : Own (w2.setCell ⟨g, 3, none⟩ (.int .u32 x)) g 117 #[.pointer (some ⟨gr, 0, none⟩), .int .u32 (a), .int .i64 (hd), .int .u32 (x), .slice A n c, .int .i64 (0), .int .i64 (0), .int .i64 (0), .slice none 0 0, .int .i64 (0)] := h2.set_ 3 (.int .u32 x)
  have hr3 := hr2.setCell (a := ⟨g, 3, none⟩) (v := .int .u32 x) hBg (by show g ≠ gr; omega)
  have hb3 := hb2.setCell (p := ⟨g, 3, none⟩) (Nat.le_of_lt hgr) (.int .u32 x)
  have hz3 : (w2.setCell ⟨g, 3, none⟩ (.int .u32 x)).heap.size = w2.heap.size := by simp
  have hs3 : w.heap.size ≤ (w2.setCell ⟨g, 3, none⟩ (.int .u32 x)).heap.size := by omega
  have H3 := Lib.hid h3
  have R3 := Lib.hid hr3
  have S3 := Lib.hid hs3
  clear h3 hr3 hz3 hs3
  have hx0 : (x == 0) = false := by have := HV.out; simpa using this
  go_wp2
  go_end0
  exact ⟨⟨_, rfl⟩, H3.out, R3.out, hb3, S3.out⟩
set_option maxRecDepth 100000 in
set_option maxHeartbeats 1600000 in
theorem rid_no (B g gr : Nat) (a hd id : Int) (A : Option Addr) (n c : Nat) (xs : List Int) (p : Nat) (w : World) (h : Own w g 117 #[.pointer (some ⟨gr, 0, none⟩), .int .u32 (a), .int .i64 (hd), .int .u32 (id), .slice A n c, .int .i64 (0), .int .i64 (0), .int .i64 (0), .slice none 0 0, .int .i64 (0)]) (hr : RdrB B w gr xs p) (hgr : gr < g) (hBg : B ≤ g) (hl : xs.length ≤ 1000000) (hp : p ≤ 1000000) (hk : 4 ≤ xs.length) (hv : big (xs.take 4) = 0) :
    Calls Tryd.prog 85 #[.pointer (some ⟨g, 0, none⟩)] w fun e w' => (∃ u, e = .returned u) ∧ PFail w g gr 3 p [] w' := by
  have hun : gr < g ∧ B ≤ g ∧ p ≤ 1000000 ∧ xs.length ≤ 1000000 := ⟨hgr, hBg, hp, hl⟩
  clear hun
  have hg := h.lt
  have hrl := hr.lt
  obtain ⟨q0, q1, q2, q3, q4, q5, q6, q7, q8, q9⟩ := own_10 h
  have hrr := Lib.hid hr
  have hlen := Lib.hid hk
  have HE : Hid (big (xs.take (4 : Int).toNat) = 0) := Lib.hid hv
  clear hk hv
  go_enter Tryd.func85, Tryd.ntmps85
  go_wp2_with fail
  refine (at_any gr xs p w hr.rdr).mono ?_
  rintro e w1 ⟨rfl, rfl⟩
  go_wp2_with fail
  refine (number_yesB B gr xs p 4 w hrr.out (by omega) (by omega) (by omega) (by omega) (by have := hlen.out; omega)).mono ?_
  rintro e w2 ⟨rfl, hr2, hk2⟩
  have h2 := h.grown hk2 (by intro he; cases he; omega)
  have hb2 := num_below hk2 (by omega)
  have hs0 := hk2.size
  clear q0 q1 q2 q3 q4 q5 q6 q7 q8 q9
  obtain ⟨q0, q1, q2, q3, q4, q5, q6, q7, q8, q9⟩ := own_10 h2
  rw [HE.out]
  have f3 := h2.frozen 3
  have h3 : Own (w2.setCell ⟨g, 3, none⟩ (.int .u32 0)) g 117 #[.pointer (some ⟨gr, 0, none⟩), .int .u32 (a), .int .i64 (hd), .int .u32 (0), .slice A n c, .int .i64 (0), .int .i64 (0), .int .i64 (0), .slice none 0 0, .int .i64 (0)] := h2.set_ 3 (.int .u32 0)
  have hr3 := hr2.setCell (a := ⟨g, 3, none⟩) (v := .int .u32 0) hBg (by show g ≠ gr; omega)
  have hb3 := hb2.setCell (p := ⟨g, 3, none⟩) (Nat.le_of_lt hgr) (.int .u32 0)
  have hz3 : (w2.setCell ⟨g, 3, none⟩ (.int .u32 0)).heap.size = w2.heap.size := by simp
  have hs3 : w.heap.size ≤ (w2.setCell ⟨g, 3, none⟩ (.int .u32 0)).heap.size := by omega
  have H3 := Lib.hid h3
  have R3 := Lib.hid hr3
  have S3 := Lib.hid hs3
  clear h3 hr3 hz3 hs3
  have hs0 := S3.out
  go_wp2_with fail
  refine (ofail_any g gr _ _ _ _ _ _ 3 p none 0 0 [] _ H3.out (Bytes.nil _ _ none) (by omega)).mono ?_
  rintro e w9 ⟨⟨u, rfl⟩, D, dn, dc, ho9, hB9, hb9, hs9⟩
  have hbl := hb3.trans (hb9.mono (Nat.le_of_lt hgr))
  go_wp2
  go_end0
  exact ⟨⟨_, rfl⟩, _, _, _, _, _, _, _, _, _, ho9, hB9, hbl, by omega⟩
set_option maxRecDepth 100000 in
set_option maxHeartbeats 1600000 in
theorem rhold_yes (B g gr : Nat) (a hd id : Int) (A : Option Addr) (n c : Nat) (xs : List Int) (p : Nat) (w : World) (h : Own w g 117 #[.pointer (some ⟨gr, 0, none⟩), .int .u32 (a), .int .i64 (hd), .int .u32 (id), .slice A n c, .int .i64 (0), .int .i64 (0), .int .i64 (0), .slice none 0 0, .int .i64 (0)]) (hr : RdrB B w gr xs p) (hgr : gr < g) (hBg : B ≤ g) (hl : xs.length ≤ 1000000) (hp : p ≤ 1000000) (hk : 2 ≤ xs.length) (hv : big (xs.take 2) = 0 ∨ 3 ≤ big (xs.take 2)) (hx : big (xs.take 2) ≤ 65535) :
    Calls Tryd.prog 84 #[.pointer (some ⟨g, 0, none⟩)] w fun e w' => (∃ u, e = .returned u) ∧ Own w' g 117 #[.pointer (some ⟨gr, 0, none⟩), .int .u32 (a), .int .i64 (big (xs.take 2)), .int .u32 (id), .slice A n c, .int .i64 (0), .int .i64 (0), .int .i64 (0), .slice none 0 0, .int .i64 (0)] ∧ RdrB B w' gr (xs.drop 2) (p + 2) ∧ Below gr w w' ∧ w.heap.size ≤ w'.heap.size := by
  have hun : gr < g ∧ B ≤ g ∧ p ≤ 1000000 ∧ xs.length ≤ 1000000 := ⟨hgr, hBg, hp, hl⟩
  clear hun
  have hg := h.lt
  have hrl := hr.lt
  obtain ⟨q0, q1, q2, q3, q4, q5, q6, q7, q8, q9⟩ := own_10 h
  have hrr := Lib.hid hr
  have hlen := Lib.hid hk
  obtain ⟨x, ex⟩ : ∃ x, big (xs.take 2) = x := ⟨_, rfl⟩
  rw [ex] at hv hx ⊢
  have ex2 : big (xs.take (2 : Int).toNat) = x := ex
  have HE := Lib.hid ex2
  have HV := Lib.hid hv
  have HX := Lib.hid hx
  clear hk hv hx ex ex2
  go_enter Tryd.func84, Tryd.ntmps84
  go_wp2_with fail
  refine (at_any gr xs p w hr.rdr).mono ?_
  rintro e w1 ⟨rfl, rfl⟩
  go_wp2_with fail
  refine (number_yesB B gr xs p 2 w hrr.out (by omega) (by omega) (by omega) (by omega) (by have := hlen.out; omega)).mono ?_
  rintro e w2 ⟨rfl, hr2, hk2⟩
  have h2 := h.grown hk2 (by intro he; cases he; omega)
  have hb2 := num_below hk2 (by omega)
  have hs0 := hk2.size
  clear q0 q1 q2 q3 q4 q5 q6 q7 q8 q9
  obtain ⟨q0, q1, q2, q3, q4, q5, q6, q7, q8, q9⟩ := own_10 h2
  rw [HE.out]
  have hx0 : 0 ≤ x := by have := HV.out; omega
  have wx : IntKind.i64.wrap x = x := IntWalk.i64_in _ (by have := HX.out; omega)
  have f2 := h2.frozen 2
  have h3 : Own (w2.setCell ⟨g, 2, none⟩ (.int .i64 x)) g 117 #[.pointer (some ⟨gr, 0, none⟩), .int .u32 (a), .int .i64 (x), .int .u32 (id), .slice A n c, .int .i64 (0), .int .i64 (0), .int .i64 (0), .slice none 0 0, .int .i64 (0)] := h2.set_ 2 (.int .i64 x)
  have hr3 := hr2.setCell (a := ⟨g, 2, none⟩) (v := .int .i64 x) hBg (by show g ≠ gr; omega)
  have hb3 := hb2.setCell (p := ⟨g, 2, none⟩) (Nat.le_of_lt hgr) (.int .i64 x)
  have hz3 : (w2.setCell ⟨g, 2, none⟩ (.int .i64 x)).heap.size = w2.heap.size := by simp
  have hs3 : w.heap.size ≤ (w2.setCell ⟨g, 2, none⟩ (.int .i64 x)).heap.size := by omega
  have H3 := Lib.hid h3
  have R3 := Lib.hid hr3
  have S3 := Lib.hid hs3
  clear h3 hr3 hz3 hs3
  rcases HV.out with hz | hz
  · have d0 : decide (0 < x) = false := decide_eq_false (by omega)
    clear hz hx0
    go_wp2
    go_end0
    exact ⟨⟨_, rfl⟩, H3.out, R3.out, hb3, S3.out⟩
  · have d0 : decide (0 < x) = true := decide_eq_true (by omega)
    have d3 : decide (x < 3) = false := decide_eq_false (by omega)
    clear hz hx0
    go_wp2
    go_end0
    exact ⟨⟨_, rfl⟩, H3.out, R3.out, hb3, S3.out⟩
set_option maxRecDepth 100000 in
set_option maxHeartbeats 1600000 in
theorem rhold_no (B g gr : Nat) (a hd id : Int) (A : Option Addr) (n c : Nat) (xs : List Int) (p : Nat) (w : World) (h : Own w g 117 #[.pointer (some ⟨gr, 0, none⟩), .int .u32 (a), .int .i64 (hd), .int .u32 (id), .slice A n c, .int .i64 (0), .int .i64 (0), .int .i64 (0), .slice none 0 0, .int .i64 (0)]) (hr : RdrB B w gr xs p) (hgr : gr < g) (hBg : B ≤ g) (hl : xs.length ≤ 1000000) (hp : p ≤ 1000000) (hk : 2 ≤ xs.length) (hv : 0 < big (xs.take 2) ∧ big (xs.take 2) < 3) :
    Calls Tryd.prog 84 #[.pointer (some ⟨g, 0, none⟩)] w fun e w' => (∃ u, e = .returned u) ∧ PFail w g gr 6 p [] w' := by
  have hun : gr < g ∧ B ≤ g ∧ p ≤ 1000000 ∧ xs.length ≤ 1000000 := ⟨hgr, hBg, hp, hl⟩
  clear hun
  have hg := h.lt
  have hrl := hr.lt
  obtain ⟨q0, q1, q2, q3, q4, q5, q6, q7, q8, q9⟩ := own_10 h
  have hrr := Lib.hid hr
  have hlen := Lib.hid hk
  obtain ⟨x, ex⟩ : ∃ x, big (xs.take 2) = x := ⟨_, rfl⟩
  rw [ex] at hv
  have ex2 : big (xs.take (2 : Int).toNat) = x := ex
  have HE := Lib.hid ex2
  have HV := Lib.hid hv
  clear hk hv ex ex2
  go_enter Tryd.func84, Tryd.ntmps84
  go_wp2_with fail
  refine (at_any gr xs p w hr.rdr).mono ?_
  rintro e w1 ⟨rfl, rfl⟩
  go_wp2_with fail
  refine (number_yesB B gr xs p 2 w hrr.out (by omega) (by omega) (by omega) (by omega) (by have := hlen.out; omega)).mono ?_
  rintro e w2 ⟨rfl, hr2, hk2⟩
  have h2 := h.grown hk2 (by intro he; cases he; omega)
  have hb2 := num_below hk2 (by omega)
  have hs0 := hk2.size
  clear q0 q1 q2 q3 q4 q5 q6 q7 q8 q9
  obtain ⟨q0, q1, q2, q3, q4, q5, q6, q7, q8, q9⟩ := own_10 h2
  rw [HE.out]
  have wx : IntKind.i64.wrap x = x := IntWalk.i64_in _ (by have := HV.out; omega)
  have f2 := h2.frozen 2
  have h3 : Own (w2.setCell ⟨g, 2, none⟩ (.int .i64 x)) g 117 #[.pointer (some ⟨gr, 0, none⟩), .int .u32 (a), .int .i64 (x), .int .u32 (id), .slice A n c, .int .i64 (0), .int .i64 (0), .int .i64 (0), .slice none 0 0, .int .i64 (0)] := h2.set_ 2 (.int .i64 x)
  have hr3 := hr2.setCell (a := ⟨g, 2, none⟩) (v := .int .i64 x) hBg (by show g ≠ gr; omega)
  have hb3 := hb2.setCell (p := ⟨g, 2, none⟩) (Nat.le_of_lt hgr) (.int .i64 x)
  have hz3 : (w2.setCell ⟨g, 2, none⟩ (.int .i64 x)).heap.size = w2.heap.size := by simp
  have hs3 : w.heap.size ≤ (w2.setCell ⟨g, 2, none⟩ (.int .i64 x)).heap.size := by omega
  have H3 := Lib.hid h3
  have R3 := Lib.hid hr3
  have S3 := Lib.hid hs3
  clear h3 hr3 hz3 hs3
  have d0 : decide (0 < x) = true := decide_eq_true HV.out.1
  have d3 : decide (x < 3) = true := decide_eq_true HV.out.2
  have hs0 := S3.out
  go_wp2_with fail
  refine (ofail_any g gr _ _ _ _ _ _ 6 p none 0 0 [] _ H3.out (Bytes.nil _ _ none) (by omega)).mono ?_
  rintro e w9 ⟨⟨u, rfl⟩, D, dn, dc, ho9, hB9, hb9, hs9⟩
  have hbl := hb3.trans (hb9.mono (Nat.le_of_lt hgr))
  go_wp2
  go_end0
  exact ⟨⟨_, rfl⟩, _, _, _, _, _, _, _, _, _, ho9, hB9, hbl, by omega⟩
set_option maxRecDepth 100000 in
set_option maxHeartbeats 1600000 in
theorem rcount_yes (B g gr : Nat) (a hd id : Int) (A : Option Addr) (n c : Nat) (xs : List Int) (p : Nat) (w : World) (h : Own w g 117 #[.pointer (some ⟨gr, 0, none⟩), .int .u32 (a), .int .i64 (hd), .int .u32 (id), .slice A n c, .int .i64 (0), .int .i64 (0), .int .i64 (0), .slice none 0 0, .int .i64 (0)]) (hr : RdrB B w gr xs p) (hgr : gr < g) (hBg : B ≤ g) (hl : xs.length ≤ 1000000) (hp : p ≤ 1000000) (hk : 1 ≤ xs.length) (hv : big (xs.take 1) = ((xs.drop 1).length : Int)) :
    Calls Tryd.prog 86 #[.pointer (some ⟨g, 0, none⟩)] w fun e w' => (∃ u, e = .returned u) ∧ Own w' g 117 #[.pointer (some ⟨gr, 0, none⟩), .int .u32 (a), .int .i64 (hd), .int .u32 (id), .slice A n c, .int .i64 (0), .int .i64 (0), .int .i64 (0), .slice none 0 0, .int .i64 (0)] ∧ RdrB B w' gr (xs.drop 1) (p + 1) ∧ Below gr w w' ∧ w.heap.size ≤ w'.heap.size := by
  have hun : gr < g ∧ B ≤ g ∧ p ≤ 1000000 ∧ xs.length ≤ 1000000 := ⟨hgr, hBg, hp, hl⟩
  clear hun
  have hg := h.lt
  have hrl := hr.lt
  obtain ⟨q0, q1, q2, q3, q4, q5, q6, q7, q8, q9⟩ := own_10 h
  have hrr := Lib.hid hr
  have hlen := Lib.hid hk
  have hdl : (xs.drop 1).length ≤ 1000000 := by rw [List.length_drop]; omega
  obtain ⟨ys, hys⟩ : ∃ ys, xs.drop 1 = ys := ⟨_, rfl⟩
  rw [hys] at hv hdl ⊢
  have HYS := Lib.hid hys
  have HV : Hid (big (xs.take (1 : Int).toNat) = (ys.length : Int)) := Lib.hid hv
  clear hk hv hys
  go_enter Tryd.func86, Tryd.ntmps86
  go_wp2_with fail
  refine (at_any gr xs p w hr.rdr).mono ?_
  rintro e w1 ⟨rfl, rfl⟩
  go_wp2_with fail
  refine (number_yesB B gr xs p 1 w hrr.out (by omega) (by omega) (by omega) (by omega) (by have := hlen.out; omega)).mono ?_
  rintro e w2 ⟨rfl, hr2, hk2⟩
  have h2 := h.grown hk2 (by intro he; cases he; omega)
  have hb2 := num_below hk2 (by omega)
  have hs0 := hk2.size
  clear q0 q1 q2 q3 q4 q5 q6 q7 q8 q9
  obtain ⟨q0, q1, q2, q3, q4, q5, q6, q7, q8, q9⟩ := own_10 h2
  rw [HV.out]
  have hr2' : RdrB B w2 gr ys (p + 1) := by have := hr2; rw [show (1 : Int).toNat = 1 from rfl, HYS.out] at this; exact this
  clear hr2
  have wx : IntKind.i64.wrap ys.length = ys.length := IntWalk.i64_in _ (by omega)
  go_wp2_with fail
  refine (left_any gr ys (p + 1) w2 hr2'.rdr).mono ?_
  rintro e w3 ⟨rfl, rfl⟩
  go_wp2
  go_end0
  exact ⟨⟨_, rfl⟩, h2, hr2', hb2, hs0⟩
set_option maxRecDepth 100000 in
set_option maxHeartbeats 1600000 in
theorem rcount_no (B g gr : Nat) (a hd id : Int) (A : Option Addr) (n c : Nat) (xs : List Int) (p : Nat) (w : World) (h : Own w g 117 #[.pointer (some ⟨gr, 0, none⟩), .int .u32 (a), .int .i64 (hd), .int .u32 (id), .slice A n c, .int .i64 (0), .int .i64 (0), .int .i64 (0), .slice none 0 0, .int .i64 (0)]) (hr : RdrB B w gr xs p) (hgr : gr < g) (hBg : B ≤ g) (hl : xs.length ≤ 1000000) (hp : p ≤ 1000000) (hk : 1 ≤ xs.length) (hv : ¬ big (xs.take 1) = ((xs.drop 1).length : Int)) (hx : 0 ≤ big (xs.take 1) ∧ big (xs.take 1) ≤ 255) :
    Calls Tryd.prog 86 #[.pointer (some ⟨g, 0, none⟩)] w fun e w' => (∃ u, e = .returned u) ∧ PFail w g gr 0 p [] w' := by
  have hun : gr < g ∧ B ≤ g ∧ p ≤ 1000000 ∧ xs.length ≤ 1000000 := ⟨hgr, hBg, hp, hl⟩
  clear hun
  have hg := h.lt
  have hrl := hr.lt
  obtain ⟨q0, q1, q2, q3, q4, q5, q6, q7, q8, q9⟩ := own_10 h
  have hrr := Lib.hid hr
  have hlen := Lib.hid hk
  obtain ⟨x, ex⟩ : ∃ x, big (xs.take 1) = x := ⟨_, rfl⟩
  rw [ex] at hv hx
  have HE : Hid (big (xs.take (1 : Int).toNat) = x) := Lib.hid ex
  have HV := Lib.hid hv
  have wx : IntKind.i64.wrap x = x := IntWalk.i64_in _ (by omega)
  clear hk hv hx ex
  go_enter Tryd.func86, Tryd.ntmps86
  go_wp2_with fail
  refine (at_any gr xs p w hr.rdr).mono ?_
  rintro e w1 ⟨rfl, rfl⟩
  go_wp2_with fail
  refine (number_yesB B gr xs p 1 w hrr.out (by omega) (by omega) (by omega) (by omega) (by have := hlen.out; omega)).mono ?_
  rintro e w2 ⟨rfl, hr2, hk2⟩
  have h2 := h.grown hk2 (by intro he; cases he; omega)
  have hb2 := num_below hk2 (by omega)
  have hs0 := hk2.size
  clear q0 q1 q2 q3 q4 q5 q6 q7 q8 q9
  obtain ⟨q0, q1, q2, q3, q4, q5, q6, q7, q8, q9⟩ := own_10 h2
  rw [HE.out]
  have hr2' : RdrB B w2 gr (xs.drop 1) (p + 1) := hr2
  generalize xs.drop 1 = ys at *
  have hn1 := HV.out
  have hn2 : (x == (ys.length : Int)) = false := by simpa using hn1
  have hn3 : (x != (ys.length : Int)) = true := by simpa using hn1
  go_wp2_with fail
  refine (left_any gr ys (p + 1) w2 hr2'.rdr).mono ?_
  rintro e w3 ⟨rfl, rfl⟩
  go_wp2_with fail
  refine (ofail_any g gr _ _ _ _ _ _ 0 p none 0 0 [] _ h2 (Bytes.nil _ _ none) (by omega)).mono ?_
  rintro e w9 ⟨⟨u, rfl⟩, D, dn, dc, ho9, hB9, hb9, hs9⟩
  have hbl := hb2.trans (hb9.mono (Nat.le_of_lt hgr))
  go_wp2
  go_end0
  exact ⟨⟨_, rfl⟩, _, _, _, _, _, _, _, _, _, ho9, hB9, hbl, by omega⟩
end Go.Proofs.YtniheakafkakhaaDoor

/- open.parser: nameSystem, readParameter -/
namespace Go.Proofs.YtniheakafkakhaaDoor
open Go.RowKit Go.Sort
theorem cellsP_append (L M : List Cp) : cellsP (L ++ M) = cellsP L ++ cellsP M := by unfold cellsP; rw [List.flatMap_append]
theorem cellsP_len (M : List Cp) : (cellsP M).length = M.length * 2 := by
  induction M with
  | nil => rfl
  | cons s M ih => show (([.int .i64 s.k, .slice s.A s.n s.c] : List Value) ++ cellsP M).length = _; rw [List.length_append, ih, List.length_cons]; simp; omega
theorem cellsP_one (M : List Cp) : ∀ u ∈ cellsP M, u.oneCell' = true := by
  intro u hu
  obtain ⟨s, _, h⟩ := List.mem_flatMap.1 hu
  simp at h
  rcases h with rfl | rfl <;> rfl
theorem CRow.pushL {T : TypeId} (hT : T ≠ 5) {w w' : World} {base : Nat} {v v' : Value} {ss M : List Cp} (h : CRow T w base v ss) (hq : ∀ s ∈ M, CD w base s) (hown : w'.ownsRow base T 2 v' (ss.length + M.length) (cellsP ss ++ cellsP M)) (hg : w.grownBy w' v.ownBlock) : CRow T w' base v' (ss ++ M) := by
  have key : ∀ s, CD w base s → CD w' base s := fun s hs => ⟨row_rest hs.1 (Rest.of_grown hg (P := fun j => v.ownBlock = some j) (fun j hj => hj)) (fun j hj e => ((row_typed h.1 e).1.ne (row_typed hs.1 hj).1 hT) rfl), hs.2⟩
  refine ⟨?_, fun s hs => ?_⟩
  · rw [cellsP_append, List.length_append]
    exact hown
  · rcases List.mem_append.1 hs with hs | hs
    · exact key s (h.2 s hs)
    · exact key s (hq s hs)
theorem CRow.offG {T : TypeId} {w : World} {g i : Nat} {v u : Value} {L : List Cp} (h : CRow T w (g + 1) v L) : CRow T (w.setCell ⟨g, i, none⟩ u) (g + 1) v L :=
  h.rest (Rest.setCell w ⟨g, i, none⟩ u) (fun j t _ hb _ e => by have e2 : j = g := e; omega)
theorem CRow.len {T : TypeId} {w : World} {base n c : Nat} {A : Option Addr} {L : List Cp} (h : CRow T w base (.slice A n c) L) : n = L.length := by
  obtain ⟨A', c', e⟩ := h.form
  injection e
set_option maxRecDepth 100000 in
set_option maxHeartbeats 1600000 in
theorem nsys_none (g gr : Nat) (a hd id : Int) (A : Option Addr) (n c : Nat) (L : List Cp) (w : World) (h : Own w g 117 #[.pointer (some ⟨gr, 0, none⟩), .int .u32 (a), .int .i64 (hd), .int .u32 (id), .slice A n c, .int .i64 (0), .int .i64 (0), .int .i64 (0), .slice none 0 0, .int .i64 (0)]) (hgr : gr < g) (hC : CRow 83 w (g + 1) (.slice A n c) L) (hL : L.length ≤ 20000) (hv : sysK (L.map cpK) = none) :
    Calls Tryd.prog 88 #[.pointer (some ⟨g, 0, none⟩)] w fun e w' => (∃ u, e = .returned u) ∧ Own w' g 117 #[.pointer (some ⟨gr, 0, none⟩), .int .u32 (a), .int .i64 (hd), .int .u32 (id), .slice A n c, .int .i64 (0), .int .i64 (0), .int .i64 (0), .slice none 0 0, .int .i64 (0)] ∧ CRow 83 w' (g + 1) (.slice A n c) L ∧ Below g w w' ∧ w.heap.size ≤ w'.heap.size := by
  have hun := hgr
  clear hun
  have hg := h.lt
  have hnl := Lib.hid hC.len
  have hcp : Caps w w.heap.size A n L := by have := hC.caps; rwa [← hnl.out] at this
  have hSy := Lib.hid (csys_any A n c L w hcp (by have := hnl.out; omega))
  rw [hv] at hSy
  obtain ⟨q0, q1, q2, q3, q4, q5, q6, q7, q8, q9⟩ := own_10 h
  clear hv hcp
  go_enter Tryd.func88, Tryd.ntmps88
  go_wp2_with fail
  refine hSy.out.mono ?_
  rintro e w2 ⟨rfl, hb2⟩
  have h2 := h.step hb2
  have hC2 := hC.below hb2
  have hbg : Below g w w2 := hb2.mono (by omega)
  have hs2 := hb2.size
  clear q0 q1 q2 q3 q4 q5 q6 q7 q8 q9
  obtain ⟨q0, q1, q2, q3, q4, q5, q6, q7, q8, q9⟩ := own_10 h2
  go_wp2
  refine bodyPost_ret (results_none rfl _ _ _) rfl ?_
  exact ⟨⟨_, rfl⟩, h2, hC2, hbg, hs2⟩
set_option maxRecDepth 100000 in
set_option maxHeartbeats 1600000 in
theorem nsys_some (g gr : Nat) (a hd id : Int) (A : Option Addr) (n c : Nat) (L : List Cp) (w : World) (h : Own w g 117 #[.pointer (some ⟨gr, 0, none⟩), .int .u32 (a), .int .i64 (hd), .int .u32 (id), .slice A n c, .int .i64 (0), .int .i64 (0), .int .i64 (0), .slice none 0 0, .int .i64 (0)]) (hgr : gr < g) (hC : CRow 83 w (g + 1) (.slice A n c) L) (hL : L.length ≤ 20000) (s : Int) (hv : sysK (L.map cpK) = some s) (hs0 : ¬ s = 0) :
    Calls Tryd.prog 88 #[.pointer (some ⟨g, 0, none⟩)] w fun e w' => (∃ u, e = .returned u) ∧ Own w' g 117 #[.pointer (some ⟨gr, 0, none⟩), .int .u32 (s), .int .i64 (hd), .int .u32 (id), .slice A n c, .int .i64 (0), .int .i64 (0), .int .i64 (0), .slice none 0 0, .int .i64 (0)] ∧ CRow 83 w' (g + 1) (.slice A n c) L ∧ Below g w w' ∧ w.heap.size ≤ w'.heap.size := by
  have hz : (s == 0) = false := by simpa using hs0
  have hun := hgr
  clear hun
  have hg := h.lt
  have hnl := Lib.hid hC.len
  have hcp : Caps w w.heap.size A n L := by have := hC.caps; rwa [← hnl.out] at this
  have hSy := Lib.hid (csys_any A n c L w hcp (by have := hnl.out; omega))
  rw [hv] at hSy
  obtain ⟨q0, q1, q2, q3, q4, q5, q6, q7, q8, q9⟩ := own_10 h
  clear hv hcp
  go_enter Tryd.func88, Tryd.ntmps88
  go_wp2_with fail
  refine hSy.out.mono ?_
  rintro e w2 ⟨rfl, hb2⟩
  have h2 := h.step hb2
  have hC2 := hC.below hb2
  have hbg : Below g w w2 := hb2.mono (by omega)
  have hs2 := hb2.size
  clear q0 q1 q2 q3 q4 q5 q6 q7 q8 q9
  obtain ⟨q0, q1, q2, q3, q4, q5, q6, q7, q8, q9⟩ := own_10 h2
  have f1 := h2.frozen 1
  have h3 : Own (w2.setCell ⟨g, 1, none⟩ (.int .u32 s)) g 117 #[.pointer (some ⟨gr, 0, none⟩), .int .u32 (s), .int .i64 (hd), .int .u32 (id), .slice A n c, .int .i64 (0), .int .i64 (0), .int .i64 (0), .slice none 0 0, .int .i64 (0)] := h2.set_ 1 (.int .u32 s)
  have hb3 := hbg.setCell (p := ⟨g, 1, none⟩) (Nat.le_refl _) (.int .u32 s)
  have hs3 : w.heap.size ≤ (w2.setCell ⟨g, 1, none⟩ (.int .u32 s)).heap.size := by simpa using hs2
  have hC3 : CRow 83 (w2.setCell ⟨g, 1, none⟩ (.int .u32 s)) (g + 1) (.slice A n c) L := hC2.offG
  have H3 := Lib.hid h3
  have B3 := Lib.hid hb3
  have S3 := Lib.hid hs3
  have C3 := Lib.hid hC3
  clear h3 hb3 hs3 hC3
  go_wp2
  go_end0
  exact ⟨⟨_, rfl⟩, H3.out, C3.out, B3.out, S3.out⟩
set_option maxRecDepth 100000 in
set_option maxHeartbeats 1600000 in
theorem nsys_zero (g gr : Nat) (a hd id : Int) (A : Option Addr) (n c : Nat) (L : List Cp) (w : World) (h : Own w g 117 #[.pointer (some ⟨gr, 0, none⟩), .int .u32 (a), .int .i64 (hd), .int .u32 (id), .slice A n c, .int .i64 (0), .int .i64 (0), .int .i64 (0), .slice none 0 0, .int .i64 (0)]) (hgr : gr < g) (hC : CRow 83 w (g + 1) (.slice A n c) L) (hL : L.length ≤ 20000) (hv : sysK (L.map cpK) = some 0) :
    Calls Tryd.prog 88 #[.pointer (some ⟨g, 0, none⟩)] w fun e w' => (∃ u, e = .returned u) ∧ PFail w g gr 2 1 [] w' := by
  have hun := hgr
  clear hun
  have hg := h.lt
  have hnl := Lib.hid hC.len
  have hcp : Caps w w.heap.size A n L := by have := hC.caps; rwa [← hnl.out] at this
  have hSy := Lib.hid (csys_any A n c L w hcp (by have := hnl.out; omega))
  rw [hv] at hSy
  obtain ⟨q0, q1, q2, q3, q4, q5, q6, q7, q8, q9⟩ := own_10 h
  clear hv hcp
  go_enter Tryd.func88, Tryd.ntmps88
  go_wp2_with fail
  refine hSy.out.mono ?_
  rintro e w2 ⟨rfl, hb2⟩
  have h2 := h.step hb2
  have hC2 := hC.below hb2
  have hbg : Below g w w2 := hb2.mono (by omega)
  have hs2 := hb2.size
  clear q0 q1 q2 q3 q4 q5 q6 q7 q8 q9
  obtain ⟨q0, q1, q2, q3, q4, q5, q6, q7, q8, q9⟩ := own_10 h2
  have f1 := h2.frozen 1
  have h3 : Own (w2.setCell ⟨g, 1, none⟩ (.int .u32 0)) g 117 #[.pointer (some ⟨gr, 0, none⟩), .int .u32 (0), .int .i64 (hd), .int .u32 (id), .slice A n c, .int .i64 (0), .int .i64 (0), .int .i64 (0), .slice none 0 0, .int .i64 (0)] := h2.set_ 1 (.int .u32 0)
  have hb3 := hbg.setCell (p := ⟨g, 1, none⟩) (Nat.le_refl _) (.int .u32 0)
  have hs3 : w.heap.size ≤ (w2.setCell ⟨g, 1, none⟩ (.int .u32 0)).heap.size := by simpa using hs2
  have hC3 : CRow 83 (w2.setCell ⟨g, 1, none⟩ (.int .u32 0)) (g + 1) (.slice A n c) L := hC2.offG
  have H3 := Lib.hid h3
  have B3 := Lib.hid hb3
  have S3 := Lib.hid hs3
  have C3 := Lib.hid hC3
  clear h3 hb3 hs3 hC3
  go_wp2_with fail
  refine (ofail_any g gr _ _ _ _ _ _ 2 1 none 0 0 [] _ H3.out (Bytes.nil _ _ none) (by omega)).mono ?_
  rintro e w9 ⟨⟨u, rfl⟩, D, dn, dc, ho9, hB9, hb9, hs9⟩
  have hbl := (B3.out.trans hb9).mono (Nat.le_of_lt hgr)
  have hsz := S3.out
  go_wp2
  go_end0
  exact ⟨⟨_, rfl⟩, _, _, _, _, _, _, _, _, _, ho9, hB9, hbl, by omega⟩
/-- What one parameter is. -/
def parStep (p : Nat) (xs : List Int) : (Int × Int) ⊕ (Nat × List (Int × List Int)) :=
  if xs.length < 2 then .inl (0, p) else if xs.length < 2 + (nth xs 1).toNat then .inl (0, p) else if ¬ nth xs 0 = 2 then .inl (4, p) else
    match readC ((nth xs 1).toNat + 1) ((xs.drop 2).take (nth xs 1).toNat) with
    | none => .inl (0, p)
    | some M => .inr ((nth xs 1).toNat, M)
/-- What readParameter leaves. -/
def RPar (p : Nat) (xs : List Int) (B g gr : Nat) (a hd id : Int) (L : List Cp) (w w' : World) : Prop :=
  (∃ s t, parStep p xs = .inl (s, t) ∧ PFail w g gr s t [] w' ∧ ∃ ys q, RdrB B w' gr ys q ∧ ys.length < xs.length) ∨
  (∃ k M A n c L', parStep p xs = .inr (k, M) ∧ 2 + k ≤ xs.length ∧ Own w' g 117 #[.pointer (some ⟨gr, 0, none⟩), .int .u32 (a), .int .i64 (hd), .int .u32 (id), .slice A n c, .int .i64 (0), .int .i64 (0), .int .i64 (0), .slice none 0 0, .int .i64 (0)] ∧ RdrB B w' gr (xs.drop (2 + k)) (p + (2 + k)) ∧ CRow 83 w' (g + 1) (.slice A n c) L' ∧ L'.map cpK = L.map cpK ++ M ∧ (∀ s ∈ L', s.n ≤ 1000 ∨ s ∈ L) ∧ Below gr w w' ∧ w.heap.size ≤ w'.heap.size)
theorem rpar_fail {p : Nat} {xs : List Int} {B g gr : Nat} {a hd id : Int} {L : List Cp} {w w1 w' : World} {s t : Int} (e : parStep p xs = .inl (s, t)) {D : Option Addr} {dn dc : Nat} {a' hd' id' : Int} {A : Option Addr} {n c : Nat} (ho : Own w' g 117 #[.pointer (some ⟨gr, 0, none⟩), .int .u32 (a'), .int .i64 (hd'), .int .u32 (id'), .slice A n c, .int .i64 (4), .int .i64 (2), .int .i64 (s), .slice D dn dc, .int .i64 (t)]) (hB : Bytes w' w'.heap.size D dn []) (hb : Below gr w w1) (hb9 : Below g w1 w') (hgr : gr < g) (hs : w.heap.size ≤ w1.heap.size) (hs9 : w1.heap.size ≤ w'.heap.size) {ys : List Int} {q : Nat} (hr : RdrB B w1 gr ys q) (hBg : B ≤ g) (hlt : ys.length < xs.length) : RPar p xs B g gr a hd id L w w' :=
  .inl ⟨s, t, e, ⟨_, _, _, _, _, _, _, _, _, ho, hB, hb.trans (hb9.mono (Nat.le_of_lt hgr)), Nat.le_trans hs hs9⟩, ys, q, hr.keep hs9 (fun b hb2 => hb9.block b (by rcases hb2 with h | h <;> omega)), hlt⟩
theorem par_1 (p : Nat) (x0 : Int) : parStep p [x0] = .inl (0, p) := by unfold parStep; rw [if_pos (by simp)]
theorem par_2 (p : Nat) (x0 x1 : Int) (zs : List Int) (h : zs.length < x1.toNat) : parStep p (x0 :: x1 :: zs) = .inl (0, p) := by
  unfold parStep
  rw [if_neg (by simp), if_pos (by show zs.length + 1 + 1 < 2 + x1.toNat; omega)]
theorem par_3 (p : Nat) (x0 x1 : Int) (zs : List Int) (h : x1.toNat ≤ zs.length) (h0 : ¬ x0 = 2) : parStep p (x0 :: x1 :: zs) = .inl (4, p) := by
  unfold parStep
  rw [if_neg (by simp), if_neg (by show ¬ zs.length + 1 + 1 < 2 + x1.toNat; omega), if_pos (show ¬ nth (x0 :: x1 :: zs) 0 = 2 from h0)]
theorem par_4 (p : Nat) (x1 : Int) (zs : List Int) (h : x1.toNat ≤ zs.length) (hn : readC (x1.toNat + 1) (zs.take x1.toNat) = none) : parStep p (2 :: x1 :: zs) = .inl (0, p) := by
  unfold parStep
  rw [if_neg (by simp), if_neg (by show ¬ zs.length + 1 + 1 < 2 + x1.toNat; omega), if_neg (by show ¬ ¬ (2 : Int) = 2; simp)]
  show (match readC (x1.toNat + 1) (zs.take x1.toNat) with | none => _ | some M => _) = _
  rw [hn]
theorem par_5 (p : Nat) (x1 : Int) (zs : List Int) (M : List (Int × List Int)) (h : x1.toNat ≤ zs.length) (hn : readC (x1.toNat + 1) (zs.take x1.toNat) = some M) : parStep p (2 :: x1 :: zs) = .inr (x1.toNat, M) := by
  unfold parStep
  rw [if_neg (by simp), if_neg (by show ¬ zs.length + 1 + 1 < 2 + x1.toNat; omega), if_neg (by show ¬ ¬ (2 : Int) = 2; simp)]
  show (match readC (x1.toNat + 1) (zs.take x1.toNat) with | none => _ | some M => _) = _
  rw [hn]
  rfl
set_option maxRecDepth 100000 in
set_option maxHeartbeats 6400000 in
theorem rpar_any (B g gr : Nat) (a hd id : Int) (A : Option Addr) (n c : Nat) (L : List Cp) (xs : List Int) (p : Nat) (w : World) (h : Own w g 117 #[.pointer (some ⟨gr, 0, none⟩), .int .u32 (a), .int .i64 (hd), .int .u32 (id), .slice A n c, .int .i64 (0), .int .i64 (0), .int .i64 (0), .slice none 0 0, .int .i64 (0)]) (hr : RdrB B w gr xs p) (hgr : gr < g) (hBg : B ≤ g) (hC : CRow 83 w (g + 1) (.slice A n c) L) (hL : L.length ≤ 20000) (hl : xs.length ≤ 1000) (hp : p ≤ 1000) (h1 : 1 ≤ xs.length) :
    Calls Tryd.prog 117 #[.pointer (some ⟨g, 0, none⟩)] w fun e w' => (∃ u, e = .returned u) ∧ RPar p xs B g gr a hd id L w w' := by
  have hg := h.lt
  have hrl := hr.lt
  obtain ⟨q0, q1, q2, q3, q4, q5, q6, q7, q8, q9⟩ := own_10 h
  have h0 := Lib.hid h
  have c0 := Lib.hid hC
  have b0 := Lib.hid (Below.refl gr w)
  have s0 := Lib.hid (Nat.le_refl w.heap.size)
  have r0 := Lib.hid hr
  have hrg := hr.range
  have HL := Lib.hid hL
  have HNL := Lib.hid hC.len
  clear h hC hr hL
  match xs, h1, hl, hrg, r0 with
  | x0 :: ys, h1, hl, hrg, r0 =>
    clear h1
    have hly : Hid (ys.length ≤ 999) := Lib.hid (by simp at hl; omega)
    have hr2 := Lib.hid (fun W (hW : RdrB B W gr (x0 :: ys) p) => number_yesB B gr (x0 :: ys) p 1 W hW (by simp; have := hly.out; omega) (by omega) (by omega) (by omega) (by simp; omega))
    match ys, hly, hrg, r0, hr2, hl with
    | [], hly, hrg, r0, hr2, hl =>
      go_enter Tryd.func117, Tryd.ntmps117
      go_wp2_with fail
      refine (at_any gr _ p w r0.out.rdr).mono ?_
      rintro e w1 ⟨rfl, rfl⟩
      go_wp2_with fail
      refine (hr2.out w r0.out).mono ?_
      rintro e w2 ⟨rfl, rr2, hk2⟩
      rw [big_one]
      have r2 := Lib.hid rr2
      have h1 := Lib.hid (h0.out.grown hk2 (by intro he; cases he; omega))
      have c1 := Lib.hid (c0.out.rest (grown_rest hk2) (fun j t _ hb _ e => by have e2 : j = gr := e; omega))
      have b1 := Lib.hid (b0.out.trans (num_below hk2 (by have := s0.out; omega)))
      have s1 := Lib.hid (Nat.le_trans s0.out hk2.size)
      clear h0 c0 b0 s0
      clear q0 q1 q2 q3 q4 q5 q6 q7 q8 q9
      obtain ⟨q0, q1, q2, q3, q4, q5, q6, q7, q8, q9⟩ := own_10 h1.out
      clear rr2 hk2
      go_wp2_with fail
      refine (number_no gr [] (p + 1) 1 w2 r2.out.rdr (by simp) (by omega) (by omega) (by simp)).mono ?_
      rintro e w3 ⟨rfl, rfl⟩
      go_wp2_with fail
      refine (ofail_any g gr _ _ _ _ _ _ 0 p none 0 0 [] _ h1.out (Bytes.nil _ _ none) (by omega)).mono ?_
      rintro e w9 ⟨⟨u, rfl⟩, D, dn, dc, ho9, hB9, hb9, hs9⟩
      go_wp2
      refine bodyPost_ret (results_none rfl _ _ _) rfl ?_
      exact ⟨⟨_, rfl⟩, rpar_fail (par_1 p x0) ho9 hB9 b1.out hb9 hgr s1.out hs9 r2.out hBg (by first | (simp; done) | (simp; omega))⟩
    | x1 :: zs, hly, hrg, r0, hr2, hl =>
      have hx1 := hrg x1 (by simp)
      have hm := Lib.hid hx1
      have hr3 := Lib.hid (fun W (hW : RdrB B W gr (x1 :: zs) (p + 1)) => number_yesB B gr (x1 :: zs) (p + 1) 1 W hW (by have := hly.out; omega) (by omega) (by omega) (by omega) (by simp; omega))
      have wx : IntKind.i64.wrap x1 = x1 := IntWalk.i64_in _ (by omega)
      have hzl : Hid (zs.length ≤ 998) := Lib.hid (by have := hly.out; simp at this; omega)
      by_cases hsh : zs.length < x1.toNat
      · have HSH := Lib.hid hsh
        clear hsh hx1
        go_enter Tryd.func117, Tryd.ntmps117
        go_wp2_with fail
        refine (at_any gr _ p w r0.out.rdr).mono ?_
        rintro e w1 ⟨rfl, rfl⟩
        go_wp2_with fail
        refine (hr2.out w r0.out).mono ?_
        rintro e w2 ⟨rfl, rr2, hk2⟩
        rw [big_one]
        have r2 := Lib.hid rr2
        have h1 := Lib.hid (h0.out.grown hk2 (by intro he; cases he; omega))
        have c1 := Lib.hid (c0.out.rest (grown_rest hk2) (fun j t _ hb _ e => by have e2 : j = gr := e; omega))
        have b1 := Lib.hid (b0.out.trans (num_below hk2 (by have := s0.out; omega)))
        have s1 := Lib.hid (Nat.le_trans s0.out hk2.size)
        clear h0 c0 b0 s0
        clear q0 q1 q2 q3 q4 q5 q6 q7 q8 q9
        obtain ⟨q0, q1, q2, q3, q4, q5, q6, q7, q8, q9⟩ := own_10 h1.out
        clear rr2 hk2
        go_wp2_with fail
        refine (hr3.out w2 r2.out).mono ?_
        rintro e w3 ⟨rfl, rr3, hk3⟩
        rw [big_one]
        have r3 : Hid (RdrB B w3 gr zs (p + 1 + 1)) := Lib.hid rr3
        have h2 := Lib.hid (h1.out.grown hk3 (by intro he; cases he; omega))
        have c2 := Lib.hid (c1.out.rest (grown_rest hk3) (fun j t _ hb _ e => by have e2 : j = gr := e; omega))
        have b2 := Lib.hid (b1.out.trans (num_below hk3 (by have := s1.out; omega)))
        have s2 := Lib.hid (Nat.le_trans s1.out hk3.size)
        clear h1 c1 b1 s1
        clear q0 q1 q2 q3 q4 q5 q6 q7 q8 q9
        obtain ⟨q0, q1, q2, q3, q4, q5, q6, q7, q8, q9⟩ := own_10 h2.out
        clear rr3 hk3
        go_wp2_with fail
        refine (take_no gr zs (p + 1 + 1) x1 w3 r3.out.rdr (by have := hzl.out; omega) (Or.inr (by have := HSH.out; have := hm.out; omega))).mono ?_
        rintro e w4 ⟨rfl, rfl⟩
        go_wp2_with fail
        refine (ofail_any g gr _ _ _ _ _ _ 0 p none 0 0 [] _ h2.out (Bytes.nil _ _ none) (by omega)).mono ?_
        rintro e w9 ⟨⟨u, rfl⟩, D, dn, dc, ho9, hB9, hb9, hs9⟩
        go_wp2
        refine bodyPost_ret (results_none rfl _ _ _) rfl ?_
        exact ⟨⟨_, rfl⟩, rpar_fail (par_2 p x0 x1 zs HSH.out) ho9 hB9 b2.out hb9 hgr s2.out hs9 r3.out hBg (by first | (simp; done) | (simp; omega))⟩
      · have HSH : Hid (x1.toNat ≤ zs.length) := Lib.hid (by omega)
        clear hsh hx1
        by_cases h2 : x0 = 2
        · subst h2
          go_enter Tryd.func117, Tryd.ntmps117
          go_wp2_with fail
          refine (at_any gr _ p w r0.out.rdr).mono ?_
          rintro e w1 ⟨rfl, rfl⟩
          go_wp2_with fail
          refine (hr2.out w r0.out).mono ?_
          rintro e w2 ⟨rfl, rr2, hk2⟩
          rw [big_one]
          have r2 := Lib.hid rr2
          have h1 := Lib.hid (h0.out.grown hk2 (by intro he; cases he; omega))
          have c1 := Lib.hid (c0.out.rest (grown_rest hk2) (fun j t _ hb _ e => by have e2 : j = gr := e; omega))
          have b1 := Lib.hid (b0.out.trans (num_below hk2 (by have := s0.out; omega)))
          have s1 := Lib.hid (Nat.le_trans s0.out hk2.size)
          clear h0 c0 b0 s0
          clear q0 q1 q2 q3 q4 q5 q6 q7 q8 q9
          obtain ⟨q0, q1, q2, q3, q4, q5, q6, q7, q8, q9⟩ := own_10 h1.out
          clear rr2 hk2
          go_wp2_with fail
          refine (hr3.out w2 r2.out).mono ?_
          rintro e w3 ⟨rfl, rr3, hk3⟩
          rw [big_one]
          have r3 : Hid (RdrB B w3 gr zs (p + 1 + 1)) := Lib.hid rr3
          have h2 := Lib.hid (h1.out.grown hk3 (by intro he; cases he; omega))
          have c2 := Lib.hid (c1.out.rest (grown_rest hk3) (fun j t _ hb _ e => by have e2 : j = gr := e; omega))
          have b2 := Lib.hid (b1.out.trans (num_below hk3 (by have := s1.out; omega)))
          have s2 := Lib.hid (Nat.le_trans s1.out hk3.size)
          clear h1 c1 b1 s1
          clear q0 q1 q2 q3 q4 q5 q6 q7 q8 q9
          obtain ⟨q0, q1, q2, q3, q4, q5, q6, q7, q8, q9⟩ := own_10 h2.out
          clear rr3 hk3
          go_wp2_with fail
          refine (take_yesB B gr zs (p + 1 + 1) x1 w3 r3.out (by have := hzl.out; omega) (by omega) (by have := hm.out; omega) (by have := HSH.out; have := hm.out; omega)).mono ?_
          rintro e w4 ⟨j, rfl, hj, oj, rr4, hk4⟩
          have r4 := Lib.hid rr4
          have OJ := Lib.hid oj
          have HJ := Lib.hid hj
          have h3 := Lib.hid (h2.out.grown hk4 (by intro he; cases he; omega))
          have c3 := Lib.hid (c2.out.rest (grown_rest hk4) (fun j t _ hb _ e => by have e2 : j = gr := e; omega))
          have b3 := Lib.hid (b2.out.trans (num_below hk4 (by have := s2.out; omega)))
          have s3 := Lib.hid (Nat.le_trans s2.out hk4.size)
          clear h2 c2 b2 s2
          clear q0 q1 q2 q3 q4 q5 q6 q7 q8 q9
          obtain ⟨q0, q1, q2, q3, q4, q5, q6, q7, q8, q9⟩ := own_10 h3.out
          clear rr4 hk4 oj hj
          have hbt : Bytes w4 w4.heap.size (some ⟨j, 0, none⟩) x1.toNat (zs.take x1.toNat) := by have := Bytes.of_owned OJ.out (fun x hx => hrg x (by have := List.mem_of_mem_take hx; simp [this])) OJ.out.lt; rwa [List.length_take, Nat.min_eq_left HSH.out] at this
          have hRd := Lib.hid (cread_any (some ⟨j, 0, none⟩) x1.toNat x1.toNat (zs.take x1.toNat) w4 hbt (by have := hm.out; omega))
          have hlt : (zs.take x1.toNat).length = x1.toNat := by rw [List.length_take]; exact Nat.min_eq_left HSH.out
          rw [hlt] at hRd
          clear hbt hlt
          go_wp2_with fail
          refine hRd.out.mono ?_
          rintro e w5 ⟨v, M, qk, rfl, cm, hgc, hb5⟩
          have h4 := Lib.hid (h3.out.step hb5)
          have c4 := Lib.hid (c3.out.below hb5)
          have b4 := Lib.hid (b3.out.trans (hb5.mono (by have := s3.out; omega)))
          have s4 := Lib.hid (Nat.le_trans s3.out hb5.size)
          have r5 := Lib.hid (r4.out.below hb5)
          have CM := Lib.hid (cm.lift (b := g + 1) (by have := h3.out.lt; omega))
          have HB5 := Lib.hid hb5
          clear h3 c3 b3 s3 r4 hRd cm hb5 q0 q1 q2 q3 q4 q5 q6 q7 q8 q9
          obtain ⟨q0, q1, q2, q3, q4, q5, q6, q7, q8, q9⟩ := own_10 h4.out
          obtain ⟨hq | hq, hml, hms⟩ := hgc.out
          · obtain ⟨hq1, rfl⟩ := hq
            obtain ⟨A5, c5, rfl⟩ := CM.out.form
            have hHq := Lib.hid hq1
            have HML := Lib.hid hml
            have HMS := Lib.hid hms
            clear hq1 hml hms hgc
            have hown : ∀ j, (Value.slice A n c).ownBlock = some j → g + 1 ≤ j := fun j hj => (row_typed c4.out.1 hj).2
            have HOWN := Lib.hid hown
            clear hown
            go_wp2_with (at_builtin; refine wpList_append_grow _ rfl _ _ rfl sl_cps (g + 1) _ L.length (cellsP L) rfl c4.out.1 w5.heap.size A5 M.length c5 (cellsP M) rfl (cellsP_len M) (Shows.of_own CM.out.1) (cellsP_one M) (by unfold maxLen; have := HL.out; have := HML.out; omega) (by have := HL.out; have := HML.out; omega) (by have := h4.out.lt; omega) ?_; intro v6 w6 hrow6 hg6; have cN := c4.out.pushL cp_types.1 CM.out.2 hrow6 hg6; obtain ⟨A6, c6, e6⟩ := cN.form; rw [List.length_append] at e6; subst e6; have R6 := Rest.of_grown hg6 (P := fun j => (Value.slice A n c).ownBlock = some j) (fun j hj => hj); have h6 := R6.own h4.out (fun e => by have := HOWN.out _ e; omega); have r6 := r5.out.restC R6 (fun i hi e => by have := HOWN.out _ e; omega); have b6 := b4.out.trans (R6.to_below (by have := h4.out.lt; omega) (fun i hi e => by have := HOWN.out _ e; omega)); have s6 := Nat.le_trans s4.out R6.size; have CN := Lib.hid cN; have H6 := Lib.hid h6; have R6r := Lib.hid r6; have B6 := Lib.hid b6; have S6 := Lib.hid s6; clear cN R6 r6 b6 s6 hrow6 hg6 q0 q1 q2 q3 q4 q5 q6 q7 q8 q9; have f4 := h6.frozen 4; obtain ⟨q0, q1, q2, q3, q4, q5, q6, q7, q8, q9⟩ := own_10 h6; clear h6)
            have h7 := H6.out.set_ 4 (.slice A6 (L.length + M.length) c6)
            have r7 := R6r.out.setCell (a := ⟨g, 4, none⟩) (v := .slice A6 (L.length + M.length) c6) hBg (by show g ≠ gr; omega)
            have c7 := CN.out.offG (i := 4) (u := .slice A6 (L.length + M.length) c6)
            have b7 := B6.out.setCell (p := ⟨g, 4, none⟩) (Nat.le_of_lt hgr) (.slice A6 (L.length + M.length) c6)
            have s7 : w.heap.size ≤ (w6.setCell ⟨g, 4, none⟩ (.slice A6 (L.length + M.length) c6)).heap.size := by have := S6.out; simpa using this
            go_end0
            exact ⟨⟨_, rfl⟩, .inr ⟨x1.toNat, M.map cpK, A6, (L.length + M.length), c6, L ++ M, par_5 p x1 zs _ HSH.out hHq.out, by show 2 + x1.toNat ≤ zs.length + 1 + 1; have := HSH.out; omega, h7, by rw [show p + (2 + x1.toNat) = p + 1 + 1 + x1.toNat by omega, show (2 :: x1 :: zs).drop (2 + x1.toNat) = zs.drop x1.toNat by rw [Nat.add_comm]; rfl]; exact r7, c7, by rw [List.map_append], fun s hs => (List.mem_append.1 hs).elim .inr (fun h => .inl (HMS.out s h)), b7, s7⟩⟩
          · obtain ⟨hq1, rfl, rfl⟩ := hq
            have hHq := Lib.hid hq1
            clear hq1 hml hms hgc CM
            go_wp2_with fail
            refine (ofail_any g gr _ _ _ _ _ _ 0 p none 0 0 [] _ h4.out (Bytes.nil _ _ none) (by omega)).mono ?_
            rintro e w9 ⟨⟨u, rfl⟩, D, dn, dc, ho9, hB9, hb9, hs9⟩
            go_wp2
            refine bodyPost_ret (results_none rfl _ _ _) rfl ?_
            exact ⟨⟨_, rfl⟩, rpar_fail (par_4 p x1 zs HSH.out hHq.out) ho9 hB9 b4.out hb9 hgr s4.out hs9 r5.out hBg (by first | (simp; done) | (simp; omega))⟩
        · have e0 : (x0 == 2) = false := by simpa using h2
          have e1 : (x0 != 2) = true := by simpa using h2
          have H2 := Lib.hid h2
          clear h2
          go_enter Tryd.func117, Tryd.ntmps117
          go_wp2_with fail
          refine (at_any gr _ p w r0.out.rdr).mono ?_
          rintro e w1 ⟨rfl, rfl⟩
          go_wp2_with fail
          refine (hr2.out w r0.out).mono ?_
          rintro e w2 ⟨rfl, rr2, hk2⟩
          rw [big_one]
          have r2 := Lib.hid rr2
          have h1 := Lib.hid (h0.out.grown hk2 (by intro he; cases he; omega))
          have c1 := Lib.hid (c0.out.rest (grown_rest hk2) (fun j t _ hb _ e => by have e2 : j = gr := e; omega))
          have b1 := Lib.hid (b0.out.trans (num_below hk2 (by have := s0.out; omega)))
          have s1 := Lib.hid (Nat.le_trans s0.out hk2.size)
          clear h0 c0 b0 s0
          clear q0 q1 q2 q3 q4 q5 q6 q7 q8 q9
          obtain ⟨q0, q1, q2, q3, q4, q5, q6, q7, q8, q9⟩ := own_10 h1.out
          clear rr2 hk2
          go_wp2_with fail
          refine (hr3.out w2 r2.out).mono ?_
          rintro e w3 ⟨rfl, rr3, hk3⟩
          rw [big_one]
          have r3 : Hid (RdrB B w3 gr zs (p + 1 + 1)) := Lib.hid rr3
          have h2 := Lib.hid (h1.out.grown hk3 (by intro he; cases he; omega))
          have c2 := Lib.hid (c1.out.rest (grown_rest hk3) (fun j t _ hb _ e => by have e2 : j = gr := e; omega))
          have b2 := Lib.hid (b1.out.trans (num_below hk3 (by have := s1.out; omega)))
          have s2 := Lib.hid (Nat.le_trans s1.out hk3.size)
          clear h1 c1 b1 s1
          clear q0 q1 q2 q3 q4 q5 q6 q7 q8 q9
          obtain ⟨q0, q1, q2, q3, q4, q5, q6, q7, q8, q9⟩ := own_10 h2.out
          clear rr3 hk3
          go_wp2_with fail
          refine (take_yesB B gr zs (p + 1 + 1) x1 w3 r3.out (by have := hzl.out; omega) (by omega) (by have := hm.out; omega) (by have := HSH.out; have := hm.out; omega)).mono ?_
          rintro e w4 ⟨j, rfl, hj, oj, rr4, hk4⟩
          have r4 := Lib.hid rr4
          have OJ := Lib.hid oj
          have HJ := Lib.hid hj
          have h3 := Lib.hid (h2.out.grown hk4 (by intro he; cases he; omega))
          have c3 := Lib.hid (c2.out.rest (grown_rest hk4) (fun j t _ hb _ e => by have e2 : j = gr := e; omega))
          have b3 := Lib.hid (b2.out.trans (num_below hk4 (by have := s2.out; omega)))
          have s3 := Lib.hid (Nat.le_trans s2.out hk4.size)
          clear h2 c2 b2 s2
          clear q0 q1 q2 q3 q4 q5 q6 q7 q8 q9
          obtain ⟨q0, q1, q2, q3, q4, q5, q6, q7, q8, q9⟩ := own_10 h3.out
          clear rr4 hk4 oj hj
          go_wp2_with fail
          refine (ofail_any g gr _ _ _ _ _ _ 4 p none 0 0 [] _ h3.out (Bytes.nil _ _ none) (by omega)).mono ?_
          rintro e w9 ⟨⟨u, rfl⟩, D, dn, dc, ho9, hB9, hb9, hs9⟩
          go_wp2
          refine bodyPost_ret (results_none rfl _ _ _) rfl ?_
          exact ⟨⟨_, rfl⟩, rpar_fail (par_3 p x0 x1 zs HSH.out H2.out) ho9 hB9 b3.out hb9 hgr s3.out hs9 r4.out hBg (by first | (simp; done) | (simp; omega))⟩
end Go.Proofs.YtniheakafkakhaaDoor

/- open.parser: readParameters -/
namespace Go.Proofs.YtniheakafkakhaaDoor
open Go.RowKit Go.Sort
/-- What the parameters are. -/
def parAll : Nat → Nat → List Int → (Int × Int) ⊕ List (Int × List Int)
  | 0, _, _ => .inr []
  | f + 1, p, xs => if xs = [] then .inr [] else match parStep p xs with
    | .inl e => .inl e
    | .inr (k, M) => match parAll f (p + (2 + k)) (xs.drop (2 + k)) with
      | .inl e => .inl e
      | .inr N => .inr (M ++ N)
def parJoin (N0 : List (Int × List Int)) : (Int × Int) ⊕ List (Int × List Int) → (Int × Int) ⊕ List (Int × List Int)
  | .inl e => .inl e
  | .inr N => .inr (N0 ++ N)
theorem parJoin_join (M N : List (Int × List Int)) (x : (Int × Int) ⊕ List (Int × List Int)) : parJoin M (parJoin N x) = parJoin (M ++ N) x := by
  rcases x with e | K
  · rfl
  · show Sum.inr _ = Sum.inr _; rw [List.append_assoc]
theorem parAll_nil (f p : Nat) : parAll (f + 1) p [] = .inr [] := by unfold parAll; rw [if_pos rfl]
theorem parAll_bad {f p : Nat} {xs : List Int} {e : Int × Int} (h : xs ≠ []) (hs : parStep p xs = .inl e) : parAll (f + 1) p xs = .inl e := by
  unfold parAll
  rw [if_neg h, hs]
theorem parAll_go {f p k : Nat} {xs : List Int} {M : List (Int × List Int)} (h : xs ≠ []) (hs : parStep p xs = .inr (k, M)) : parAll (f + 1) p xs = parJoin M (parAll f (p + (2 + k)) (xs.drop (2 + k))) := by
  rw [parAll, if_neg h, hs]
  show (match parAll f (p + (2 + k)) (xs.drop (2 + k)) with | .inl e => _ | .inr N => _) = _
  cases parAll f (p + (2 + k)) (xs.drop (2 + k)) <;> rfl
theorem readC_len : ∀ {f : Nat} {ys : List Int} {M : List (Int × List Int)}, readC f ys = some M → 2 * M.length ≤ ys.length
  | 0, _, _, h => by cases h
  | f + 1, ys, M, h => by
    unfold readC at h
    by_cases e : ys = []
    · rw [if_pos e] at h
      cases h
      simp
    · rw [if_neg e] at h
      by_cases ok : okC ys = true
      · rw [if_pos ok] at h
        cases hr : readC f (restC ys) with
        | none => rw [hr] at h; cases h
        | some N =>
          rw [hr] at h
          cases h
          have ih := readC_len hr
          have h2 := of_decide_eq_true ok
          unfold restC at ih
          rw [List.length_drop] at ih
          show 2 * (N.length + 1) ≤ ys.length
          omega
      · rw [if_neg ok] at h
        cases h
theorem parStep_len {p k : Nat} {xs : List Int} {M : List (Int × List Int)} (h : parStep p xs = .inr (k, M)) : 2 * M.length ≤ k := by
  unfold parStep at h
  by_cases h1 : xs.length < 2
  · rw [if_pos h1] at h; cases h
  · rw [if_neg h1] at h
    by_cases h2 : xs.length < 2 + (nth xs 1).toNat
    · rw [if_pos h2] at h; cases h
    · rw [if_neg h2] at h
      by_cases h3 : ¬ nth xs 0 = 2
      · rw [if_pos h3] at h; cases h
      · rw [if_neg h3] at h
        cases hr : readC ((nth xs 1).toNat + 1) ((xs.drop 2).take (nth xs 1).toNat) with
        | none => rw [hr] at h; cases h
        | some N =>
          rw [hr] at h
          have e : (nth xs 1).toNat = k ∧ N = M := by injection h with h; injection h with a b; exact ⟨a, b⟩
          obtain ⟨rfl, rfl⟩ := e
          have := readC_len hr
          rw [List.length_take] at this
          omega
def lenCellO (w : World) (a : Addr) : Nat := match w.cell? a with | some (.slice _ n _) => n | _ => 0
theorem lenCellO_rdr {B : Nat} {w : World} {g p : Nat} {xs : List Int} (h : RdrB B w g xs p) : lenCellO w ⟨g, 0, none⟩ = xs.length := by
  obtain ⟨A, n, c, ho, _, hB, _⟩ := h
  have h0 := ho.cell (i := 0) rfl
  unfold lenCellO
  rw [h0]
  exact hB.1
/-- How far readParameters has come. -/
def ParI (w : World) (B g gr : Nat) (a hd id : Int) (L : List Cp) (p : Nat) (xs : List Int) (wr : World) : Prop :=
  (Below gr w wr ∧ w.heap.size ≤ wr.heap.size) ∧
  ((∃ s t ys q, parAll (xs.length + 1) p xs = .inl (s, t) ∧ PFail w g gr s t [] wr ∧ RdrB B wr gr ys q) ∨
   (∃ ys q A n c L' f N0, Own wr g 117 #[.pointer (some ⟨gr, 0, none⟩), .int .u32 (a), .int .i64 (hd), .int .u32 (id), .slice A n c, .int .i64 (0), .int .i64 (0), .int .i64 (0), .slice none 0 0, .int .i64 (0)] ∧ RdrB B wr gr ys q ∧ CRow 83 wr (g + 1) (.slice A n c) L' ∧ ys.length < f ∧ L'.map cpK = L.map cpK ++ N0 ∧ parAll (xs.length + 1) p xs = parJoin N0 (parAll f q ys) ∧ 2 * L'.length + ys.length ≤ 2 * L.length + xs.length ∧ q + ys.length = p + xs.length))
/-- What readParameters leaves. -/
def RAll (w : World) (_B g gr : Nat) (a hd id : Int) (L : List Cp) (p : Nat) (xs : List Int) (w' : World) : Prop :=
  (∃ s t, parAll (xs.length + 1) p xs = .inl (s, t) ∧ PFail w g gr s t [] w') ∨
  (∃ N A n c L', parAll (xs.length + 1) p xs = .inr N ∧ Own w' g 117 #[.pointer (some ⟨gr, 0, none⟩), .int .u32 (a), .int .i64 (hd), .int .u32 (id), .slice A n c, .int .i64 (0), .int .i64 (0), .int .i64 (0), .slice none 0 0, .int .i64 (0)] ∧ CRow 83 w' (g + 1) (.slice A n c) L' ∧ L'.map cpK = L.map cpK ++ N ∧ 2 * L'.length ≤ 2 * L.length + xs.length ∧ Below gr w w' ∧ w.heap.size ≤ w'.heap.size)
theorem pfail_from {w w1 w' : World} {g gr : Nat} {s t : Int} {ds : List Int} (h : PFail w1 g gr s t ds w') (hb : Below gr w w1) (hs : w.heap.size ≤ w1.heap.size) : PFail w g gr s t ds w' := by
  obtain ⟨a, hd, id, A, n, c, D, dn, dc, ho, hB, hb2, hs2⟩ := h
  exact ⟨a, hd, id, A, n, c, D, dn, dc, ho, hB, hb.trans hb2, Nat.le_trans hs hs2⟩
set_option maxRecDepth 100000 in
set_option maxHeartbeats 3200000 in
theorem rpars_any (B g gr : Nat) (a hd id : Int) (A : Option Addr) (n c : Nat) (L : List Cp) (xs : List Int) (p : Nat) (w : World) (h : Own w g 117 #[.pointer (some ⟨gr, 0, none⟩), .int .u32 (a), .int .i64 (hd), .int .u32 (id), .slice A n c, .int .i64 (0), .int .i64 (0), .int .i64 (0), .slice none 0 0, .int .i64 (0)]) (hr : RdrB B w gr xs p) (hgr : gr < g) (hBg : B ≤ g) (hC : CRow 83 w (g + 1) (.slice A n c) L) (hL : L.length ≤ 10000) (hp : p + xs.length ≤ 1000) :
    Calls Tryd.prog 87 #[.pointer (some ⟨g, 0, none⟩)] w fun e w' => (∃ u, e = .returned u) ∧ RAll w B g gr a hd id L p xs w' := by
  have HL := Lib.hid hL
  have HP := Lib.hid hp
  have hI0 : ParI w B g gr a hd id L p xs w := ⟨⟨Below.refl gr w, Nat.le_refl _⟩, .inr ⟨xs, p, A, n, c, L, xs.length + 1, [], h, hr, hC, Nat.lt_succ_self _, by simp, by cases parAll (xs.length + 1) p xs <;> rfl, Nat.le_refl _, rfl⟩⟩
  clear h hr hC hL hp
  go_enter Tryd.func87, Tryd.ntmps87
  go_wp2_with fail
  go_loopw [] (fun wr => ParI w B g gr a hd id L p xs wr) (fun wr => lenCellO wr ⟨gr, 0, none⟩)
  case atStart => exact hI0
  case round =>
    obtain ⟨⟨hbw, hsw⟩, ⟨s, t, ys, q, hpa, hf, hrr⟩ | ⟨ys, q, A, n, c, L', f, N0, h, hr, hC, hlf, hk, hpa, hle, hq⟩⟩ := hrel
    · obtain ⟨a', hd', id', A', n', c', D, dn, dc, ho, hB, hb, hs⟩ := hf
      have hl := Lib.hid (left_any gr ys q wr hrr.rdr)
      obtain ⟨q0, q1, q2, q3, q4, q5, q6, q7, q8, q9⟩ := own_10 ho
      have hR : RAll w B g gr a hd id L p xs wr := .inl ⟨s, t, hpa, _, _, _, _, _, _, _, _, _, ho, hB, hb, hs⟩
      have HR := Lib.hid hR
      clear hR hpa hB hb hs hbw hsw hrr ho hI0
      cases ys with
      | nil =>
        go_wp2_with fail
        refine hl.out.mono ?_
        rintro e w2 ⟨rfl, rfl⟩
        go_wp2
        go_end0
        exact ⟨⟨_, rfl⟩, HR.out⟩
      | cons y ys =>
        have d0 : decide ((0 : Int) < ((y :: ys).length : Int)) = true := decide_eq_true (by simp)
        generalize (y :: ys).length = m at *
        have d1 : 0 < m := by have := of_decide_eq_true d0; omega
        have d2 : decide (0 < m) = true := decide_eq_true d1
        go_wp2_with fail
        refine hl.out.mono ?_
        rintro e w2 ⟨rfl, rfl⟩
        go_wp2
        go_end0
        exact ⟨⟨_, rfl⟩, HR.out⟩
    · have hl := Lib.hid (left_any gr ys q wr hr.rdr)
      obtain ⟨q0, q1, q2, q3, q4, q5, q6, q7, q8, q9⟩ := own_10 h
      clear hI0
      have HM := Lib.hid (lenCellO_rdr hr)
      cases ys with
      | nil =>
        have hR : RAll w B g gr a hd id L p xs wr := .inr ⟨N0, A, n, c, L', by rw [hpa]; cases f with | zero => exact absurd hlf (by simp) | succ f => rw [parAll_nil]; show Sum.inr _ = Sum.inr _; rw [List.append_nil], h, hC, hk, by simp at hle; omega, hbw, hsw⟩
        have HR := Lib.hid hR
        clear hR hpa hbw hsw hr h hC hk hle hq hlf HM
        go_wp2_with fail
        refine hl.out.mono ?_
        rintro e w2 ⟨rfl, rfl⟩
        go_wp2
        go_end0
        exact ⟨⟨_, rfl⟩, HR.out⟩
      | cons y ys =>
        have hRp := Lib.hid (rpar_any B g gr a hd id A n c L' (y :: ys) q wr h hr hgr hBg hC (by have := HL.out; have := HP.out; omega) (by have := HP.out; omega) (by have := HP.out; omega) (by simp))
        have d0 : decide ((0 : Int) < ((y :: ys).length : Int)) = true := decide_eq_true (by simp)
        have HH := Lib.hid h
        have HK := Lib.hid (⟨hlf, hk, hpa, hle, hq⟩ : (y :: ys).length < f ∧ L'.map cpK = L.map cpK ++ N0 ∧ parAll (xs.length + 1) p xs = parJoin N0 (parAll f q (y :: ys)) ∧ 2 * L'.length + (y :: ys).length ≤ 2 * L.length + xs.length ∧ q + (y :: ys).length = p + xs.length)
        have HBW := Lib.hid hbw
        have HSW := Lib.hid hsw
        clear hlf hk hpa hle hq hbw hsw h hr hC
        generalize hY : y :: ys = Y at *
        have HY := Lib.hid (show Y ≠ [] by rw [← hY]; simp)
        clear hY
        generalize hM : Y.length = m at *
        have HMm := Lib.hid hM
        have d1 : 0 < m := by have := of_decide_eq_true d0; omega
        have d2 : decide (0 < m) = true := decide_eq_true d1
        clear hM
        go_wp2_with fail
        refine hl.out.mono ?_
        rintro e w2 ⟨rfl, rfl⟩
        go_wp2_with fail
        refine hRp.out.mono ?_
        rintro e w2 ⟨⟨u, rfl⟩, hRR⟩
        obtain ⟨k1, k2, k3, k4, k5⟩ := HK.out
        rcases hRR with ⟨s, t, e1, hpf, ys2, q2, hr2, hlt2⟩ | ⟨k, M, A2, n2, c2, L2, e1, hk2, h2, hr2, hC2, hm2, _, hb2, hs2⟩
        · have hI : ParI w B g gr a hd id L p xs w2 := by
            have hpf2 := pfail_from hpf HBW.out HSW.out
            obtain ⟨_, _, _, _, _, _, _, _, _, _, _, hb2, hs2⟩ := hpf
            refine ⟨⟨HBW.out.trans hb2, Nat.le_trans HSW.out hs2⟩, .inl ⟨s, t, ys2, q2, ?_, hpf2, hr2⟩⟩
            rw [k3]
            cases f with
            | zero => omega
            | succ f => rw [parAll_bad HY.out e1]; rfl
          go_wp2
          go_roundw
          case rel => exact hI
          case measure => rw [lenCellO_rdr hr2, HM.out, ← HMm.out]; exact hlt2
        · have hml : L2.length = L'.length + M.length := by have := congrArg List.length hm2; rwa [List.length_map, List.length_append, List.length_map] at this
          have hMk := parStep_len e1
          have hYm := HMm.out
          have hdl : (Y.drop (2 + k)).length = m - (2 + k) := by rw [List.length_drop, hYm]
          have hI : ParI w B g gr a hd id L p xs w2 := by
            cases f with
            | zero => omega
            | succ f =>
              refine ⟨⟨HBW.out.trans hb2, Nat.le_trans HSW.out hs2⟩, .inr ⟨Y.drop (2 + k), q + (2 + k), A2, n2, c2, L2, f, N0 ++ M, h2, hr2, hC2, by omega, by rw [hm2, k2, List.append_assoc], by rw [k3, parAll_go HY.out e1, parJoin_join], by omega, by omega⟩⟩
          go_wp2
          go_roundw
          case rel => exact hI
          case measure => rw [lenCellO_rdr hr2, HM.out, hdl]; omega
end Go.Proofs.YtniheakafkakhaaDoor

/- open.Parse: what it gives; each step as one contract -/
namespace Go.Proofs.YtniheakafkakhaaDoor
open Go.RowKit Go.Sort
def oPn (a hd id : Int) (N : List (Int × List Int)) : (Int × Int × List Int) ⊕ (Int × Int × Int × List (Int × List Int)) := match sysK N with
  | some s => if s = 0 then .inl (2, 1, []) else .inr (s, hd, id, N)
  | none => .inr (a, hd, id, N)
def oPp (a hd id : Int) (xs : List Int) : (Int × Int × List Int) ⊕ (Int × Int × Int × List (Int × List Int)) := match parAll (xs.length + 1) 10 xs with
  | .inl e => .inl (e.1, e.2, [])
  | .inr N => oPn a hd id N
def oPc (a hd id : Int) (xs : List Int) : (Int × Int × List Int) ⊕ (Int × Int × Int × List (Int × List Int)) := if big (xs.take 1) = ((xs.drop 1).length : Int) then oPp a hd id (xs.drop 1) else .inl (0, 9, [])
def oPi (a hd : Int) (xs : List Int) : (Int × Int × List Int) ⊕ (Int × Int × Int × List (Int × List Int)) := if big (xs.take 4) = 0 then .inl (3, 5, []) else oPc a hd (big (xs.take 4)) (xs.drop 4)
def oPh (a : Int) (xs : List Int) : (Int × Int × List Int) ⊕ (Int × Int × Int × List (Int × List Int)) := if 0 < big (xs.take 2) ∧ big (xs.take 2) < 3 then .inl (6, 3, []) else oPi a (big (xs.take 2)) (xs.drop 2)
def oPs (xs : List Int) : (Int × Int × List Int) ⊕ (Int × Int × Int × List (Int × List Int)) := if big (xs.take 2) = 0 then .inl (2, 1, []) else oPh (big (xs.take 2)) (xs.drop 2)
def oPv (xs : List Int) : (Int × Int × List Int) ⊕ (Int × Int × Int × List (Int × List Int)) := if big (xs.take 1) = 4 then oPs (xs.drop 1) else .inl (1, 0, [0, 4])
/-- What Parse gives: a verdict, or an OPEN. -/
def oParse (bs : List Int) : (Int × Int × List Int) ⊕ (Int × Int × Int × List (Int × List Int)) := if bs.length < 10 then .inl (0, bs.length, []) else oPv bs
/-- The parser behind k steps. -/
def PSt (bs : List Int) (B g gr : Nat) (wr : World) : Nat → Prop
  | 0 => Own wr g 117 #[.pointer (some ⟨gr, 0, none⟩), .int .u32 (0), .int .i64 (0), .int .u32 (0), .slice none 0 0, .int .i64 (0), .int .i64 (0), .int .i64 (0), .slice none 0 0, .int .i64 (0)] ∧ RdrB B wr gr bs 0
  | 1 => Own wr g 117 #[.pointer (some ⟨gr, 0, none⟩), .int .u32 (0), .int .i64 (0), .int .u32 (0), .slice none 0 0, .int .i64 (0), .int .i64 (0), .int .i64 (0), .slice none 0 0, .int .i64 (0)] ∧ RdrB B wr gr bs 0 ∧ 10 ≤ bs.length ∧ oPv bs = oParse bs
  | 2 => ∃ xs, Own wr g 117 #[.pointer (some ⟨gr, 0, none⟩), .int .u32 (0), .int .i64 (0), .int .u32 (0), .slice none 0 0, .int .i64 (0), .int .i64 (0), .int .i64 (0), .slice none 0 0, .int .i64 (0)] ∧ RdrB B wr gr xs 1 ∧ 9 ≤ xs.length ∧ xs.length ≤ 700 ∧ oPs xs = oParse bs
  | 3 => ∃ xs a, Own wr g 117 #[.pointer (some ⟨gr, 0, none⟩), .int .u32 (a), .int .i64 (0), .int .u32 (0), .slice none 0 0, .int .i64 (0), .int .i64 (0), .int .i64 (0), .slice none 0 0, .int .i64 (0)] ∧ RdrB B wr gr xs 3 ∧ 7 ≤ xs.length ∧ xs.length ≤ 700 ∧ oPh a xs = oParse bs
  | 4 => ∃ xs a hd, Own wr g 117 #[.pointer (some ⟨gr, 0, none⟩), .int .u32 (a), .int .i64 (hd), .int .u32 (0), .slice none 0 0, .int .i64 (0), .int .i64 (0), .int .i64 (0), .slice none 0 0, .int .i64 (0)] ∧ RdrB B wr gr xs 5 ∧ 5 ≤ xs.length ∧ xs.length ≤ 700 ∧ oPi a hd xs = oParse bs
  | 5 => ∃ xs a hd id, Own wr g 117 #[.pointer (some ⟨gr, 0, none⟩), .int .u32 (a), .int .i64 (hd), .int .u32 (id), .slice none 0 0, .int .i64 (0), .int .i64 (0), .int .i64 (0), .slice none 0 0, .int .i64 (0)] ∧ RdrB B wr gr xs 9 ∧ 1 ≤ xs.length ∧ xs.length ≤ 700 ∧ oPc a hd id xs = oParse bs
  | 6 => ∃ xs a hd id, Own wr g 117 #[.pointer (some ⟨gr, 0, none⟩), .int .u32 (a), .int .i64 (hd), .int .u32 (id), .slice none 0 0, .int .i64 (0), .int .i64 (0), .int .i64 (0), .slice none 0 0, .int .i64 (0)] ∧ RdrB B wr gr xs 10 ∧ xs.length ≤ 700 ∧ oPp a hd id xs = oParse bs
  | 7 => ∃ a hd id A n c L, Own wr g 117 #[.pointer (some ⟨gr, 0, none⟩), .int .u32 (a), .int .i64 (hd), .int .u32 (id), .slice A n c, .int .i64 (0), .int .i64 (0), .int .i64 (0), .slice none 0 0, .int .i64 (0)] ∧ CRow 83 wr (g + 1) (.slice A n c) L ∧ L.length ≤ 10000 ∧ oPn a hd id (L.map cpK) = oParse bs
  | _ => ∃ a hd id A n c L, Own wr g 117 #[.pointer (some ⟨gr, 0, none⟩), .int .u32 (a), .int .i64 (hd), .int .u32 (id), .slice A n c, .int .i64 (0), .int .i64 (0), .int .i64 (0), .slice none 0 0, .int .i64 (0)] ∧ CRow 83 wr (g + 1) (.slice A n c) L ∧ .inr (a, hd, id, L.map cpK) = oParse bs
/-- What a step leaves. -/
def RStep (bs : List Int) (B g gr k : Nat) (w w' : World) : Prop :=
  (PSt bs B g gr w' (k + 1) ∧ Below gr w w' ∧ w.heap.size ≤ w'.heap.size) ∨ ∃ s t ds, oParse bs = .inl (s, t, ds) ∧ PFail w g gr s t ds w'
theorem big2_rng {xs : List Int} (h : ∀ x ∈ xs, 0 ≤ x ∧ x ≤ 255) : 0 ≤ big (xs.take 2) ∧ big (xs.take 2) ≤ 65535 := by
  match xs with
  | [] => exact ⟨by show (0 : Int) ≤ 0; omega, by show (0 : Int) ≤ 65535; omega⟩
  | [x] => have := h x (by simp); show 0 ≤ big [x] ∧ big [x] ≤ 65535; simp [big]; omega
  | x :: y :: zs => have h1 := h x (by simp); have h2 := h y (by simp); show 0 ≤ big [x, y] ∧ big [x, y] ≤ 65535; rw [big_pair]; omega
theorem big1_rng {xs : List Int} (h : ∀ x ∈ xs, 0 ≤ x ∧ x ≤ 255) : 0 ≤ big (xs.take 1) ∧ big (xs.take 1) ≤ 255 := by
  match xs with
  | [] => exact ⟨by show (0 : Int) ≤ 0; omega, by show (0 : Int) ≤ 255; omega⟩
  | x :: zs => have h1 := h x (by simp); show 0 ≤ big [x] ∧ big [x] ≤ 255; simp [big]; omega
set_option maxRecDepth 100000 in
theorem pstep_0 (bs : List Int) (B g gr : Nat) (w : World) (h : PSt bs B g gr w 0) (hgr : gr < g) (hBg : B ≤ g) (hl : bs.length ≤ 700) :
    Calls Tryd.prog 81 #[.pointer (some ⟨g, 0, none⟩)] w fun e w' => (∃ u, e = .returned u) ∧ RStep bs B g gr 0 w w' := by
  have hun : B ≤ g ∧ bs.length ≤ 700 := ⟨hBg, hl⟩
  clear hun
  obtain ⟨ho, hr⟩ := h
  by_cases h10 : 10 ≤ bs.length
  · refine (rsize_yes B g gr 0 0 0 none 0 0 bs 0 w ho hr hgr hBg (by omega) (by omega) h10).mono ?_
    rintro e w' ⟨hu, rfl⟩
    exact ⟨hu, .inl ⟨⟨ho, hr, h10, by unfold oParse; rw [if_neg (by omega)]⟩, Below.refl _ _, Nat.le_refl _⟩⟩
  · refine (rsize_no B g gr 0 0 0 none 0 0 bs 0 w ho hr hgr hBg (by omega) (by omega) (by omega)).mono ?_
    rintro e w' ⟨hu, hf⟩
    exact ⟨hu, .inr ⟨0, bs.length, [], by unfold oParse; rw [if_pos (by omega)], hf⟩⟩
set_option maxRecDepth 100000 in
theorem pstep_1 (bs : List Int) (B g gr : Nat) (w : World) (h : PSt bs B g gr w 1) (hgr : gr < g) (hBg : B ≤ g) (hl : bs.length ≤ 700) :
    Calls Tryd.prog 82 #[.pointer (some ⟨g, 0, none⟩)] w fun e w' => (∃ u, e = .returned u) ∧ RStep bs B g gr 1 w w' := by
  have hun : B ≤ g ∧ bs.length ≤ 700 := ⟨hBg, hl⟩
  clear hun
  obtain ⟨ho, hr, h10, hsp⟩ := h
  by_cases hv : big (bs.take 1) = 4
  · refine (rver_yes B g gr 0 0 0 none 0 0 bs 0 w ho hr hgr hBg (by omega) (by omega) (by omega) hv).mono ?_
    rintro e w' ⟨hu, ho, hr2, hb, hs⟩
    exact ⟨hu, .inl ⟨⟨bs.drop 1, ho, hr2, by rw [List.length_drop]; omega, by rw [List.length_drop]; omega, by rw [← hsp]; unfold oPv; rw [if_pos hv]⟩, hb, hs⟩⟩
  · refine (rver_no B g gr 0 0 0 none 0 0 bs 0 w ho hr hgr hBg (by omega) (by omega) (by omega) hv).mono ?_
    rintro e w' ⟨hu, hf⟩
    exact ⟨hu, .inr ⟨1, 0, [0, 4], by rw [← hsp]; unfold oPv; rw [if_neg hv], hf⟩⟩
set_option maxRecDepth 100000 in
theorem pstep_2 (bs : List Int) (B g gr : Nat) (w : World) (h : PSt bs B g gr w 2) (hgr : gr < g) (hBg : B ≤ g) (hl : bs.length ≤ 700) :
    Calls Tryd.prog 83 #[.pointer (some ⟨g, 0, none⟩)] w fun e w' => (∃ u, e = .returned u) ∧ RStep bs B g gr 2 w w' := by
  have hun : B ≤ g ∧ bs.length ≤ 700 := ⟨hBg, hl⟩
  clear hun
  obtain ⟨xs, ho, hr, h9, hx, hsp⟩ := h
  by_cases hv : big (xs.take 2) = 0
  · refine (rsys_no B g gr 0 0 0 none 0 0 xs 1 w ho hr hgr hBg (by omega) (by omega) (by omega) hv).mono ?_
    rintro e w' ⟨hu, hf⟩
    exact ⟨hu, .inr ⟨2, 1, [], by rw [← hsp]; unfold oPs; rw [if_pos hv], hf⟩⟩
  · refine (rsys_yes B g gr 0 0 0 none 0 0 xs 1 w ho hr hgr hBg (by omega) (by omega) (by omega) hv).mono ?_
    rintro e w' ⟨hu, ho, hr2, hb, hs⟩
    exact ⟨hu, .inl ⟨⟨xs.drop 2, _, ho, hr2, by rw [List.length_drop]; omega, by rw [List.length_drop]; omega, by rw [← hsp]; unfold oPs; rw [if_neg hv]⟩, hb, hs⟩⟩
set_option maxRecDepth 100000 in
theorem pstep_3 (bs : List Int) (B g gr : Nat) (w : World) (h : PSt bs B g gr w 3) (hgr : gr < g) (hBg : B ≤ g) (hl : bs.length ≤ 700) :
    Calls Tryd.prog 84 #[.pointer (some ⟨g, 0, none⟩)] w fun e w' => (∃ u, e = .returned u) ∧ RStep bs B g gr 3 w w' := by
  have hun : B ≤ g ∧ bs.length ≤ 700 := ⟨hBg, hl⟩
  clear hun
  obtain ⟨xs, a, ho, hr, h9, hx, hsp⟩ := h
  have hrg := big2_rng hr.range
  by_cases hv : 0 < big (xs.take 2) ∧ big (xs.take 2) < 3
  · refine (rhold_no B g gr a 0 0 none 0 0 xs 3 w ho hr hgr hBg (by omega) (by omega) (by omega) hv).mono ?_
    rintro e w' ⟨hu, hf⟩
    exact ⟨hu, .inr ⟨6, 3, [], by rw [← hsp]; unfold oPh; rw [if_pos hv], hf⟩⟩
  · refine (rhold_yes B g gr a 0 0 none 0 0 xs 3 w ho hr hgr hBg (by omega) (by omega) (by omega) (by omega) hrg.2).mono ?_
    rintro e w' ⟨hu, ho, hr2, hb, hs⟩
    exact ⟨hu, .inl ⟨⟨xs.drop 2, a, _, ho, hr2, by rw [List.length_drop]; omega, by rw [List.length_drop]; omega, by rw [← hsp]; unfold oPh; rw [if_neg hv]⟩, hb, hs⟩⟩
set_option maxRecDepth 100000 in
theorem pstep_4 (bs : List Int) (B g gr : Nat) (w : World) (h : PSt bs B g gr w 4) (hgr : gr < g) (hBg : B ≤ g) (hl : bs.length ≤ 700) :
    Calls Tryd.prog 85 #[.pointer (some ⟨g, 0, none⟩)] w fun e w' => (∃ u, e = .returned u) ∧ RStep bs B g gr 4 w w' := by
  have hun : B ≤ g ∧ bs.length ≤ 700 := ⟨hBg, hl⟩
  clear hun
  obtain ⟨xs, a, hd, ho, hr, h9, hx, hsp⟩ := h
  by_cases hv : big (xs.take 4) = 0
  · refine (rid_no B g gr a hd 0 none 0 0 xs 5 w ho hr hgr hBg (by omega) (by omega) (by omega) hv).mono ?_
    rintro e w' ⟨hu, hf⟩
    exact ⟨hu, .inr ⟨3, 5, [], by rw [← hsp]; unfold oPi; rw [if_pos hv], hf⟩⟩
  · refine (rid_yes B g gr a hd 0 none 0 0 xs 5 w ho hr hgr hBg (by omega) (by omega) (by omega) hv).mono ?_
    rintro e w' ⟨hu, ho, hr2, hb, hs⟩
    exact ⟨hu, .inl ⟨⟨xs.drop 4, a, hd, _, ho, hr2, by rw [List.length_drop]; omega, by rw [List.length_drop]; omega, by rw [← hsp]; unfold oPi; rw [if_neg hv]⟩, hb, hs⟩⟩
set_option maxRecDepth 100000 in
theorem pstep_5 (bs : List Int) (B g gr : Nat) (w : World) (h : PSt bs B g gr w 5) (hgr : gr < g) (hBg : B ≤ g) (hl : bs.length ≤ 700) :
    Calls Tryd.prog 86 #[.pointer (some ⟨g, 0, none⟩)] w fun e w' => (∃ u, e = .returned u) ∧ RStep bs B g gr 5 w w' := by
  have hun : B ≤ g ∧ bs.length ≤ 700 := ⟨hBg, hl⟩
  clear hun
  obtain ⟨xs, a, hd, id, ho, hr, h9, hx, hsp⟩ := h
  have hrg := big1_rng hr.range
  by_cases hv : big (xs.take 1) = ((xs.drop 1).length : Int)
  · refine (rcount_yes B g gr a hd id none 0 0 xs 9 w ho hr hgr hBg (by omega) (by omega) (by omega) hv).mono ?_
    rintro e w' ⟨hu, ho, hr2, hb, hs⟩
    exact ⟨hu, .inl ⟨⟨xs.drop 1, a, hd, id, ho, hr2, by rw [List.length_drop]; omega, by rw [← hsp]; unfold oPc; rw [if_pos hv]⟩, hb, hs⟩⟩
  · refine (rcount_no B g gr a hd id none 0 0 xs 9 w ho hr hgr hBg (by omega) (by omega) (by omega) hv hrg).mono ?_
    rintro e w' ⟨hu, hf⟩
    exact ⟨hu, .inr ⟨0, 9, [], by rw [← hsp]; unfold oPc; rw [if_neg hv], hf⟩⟩
set_option maxRecDepth 100000 in
theorem pstep_6 (bs : List Int) (B g gr : Nat) (w : World) (h : PSt bs B g gr w 6) (hgr : gr < g) (hBg : B ≤ g) (hl : bs.length ≤ 700) :
    Calls Tryd.prog 87 #[.pointer (some ⟨g, 0, none⟩)] w fun e w' => (∃ u, e = .returned u) ∧ RStep bs B g gr 6 w w' := by
  have hun : B ≤ g ∧ bs.length ≤ 700 := ⟨hBg, hl⟩
  clear hun
  obtain ⟨xs, a, hd, id, ho, hr, hx, hsp⟩ := h
  refine (rpars_any B g gr a hd id none 0 0 [] xs 10 w ho hr hgr hBg (CRow.nil _ _ _) (by simp) (by omega)).mono ?_
  rintro e w' ⟨hu, ⟨s, t, hp, hf⟩ | ⟨N, A, n, c, L, hp, ho2, hC, hk, hle, hb, hs⟩⟩
  · exact ⟨hu, .inr ⟨s, t, [], by rw [← hsp]; unfold oPp; rw [hp], hf⟩⟩
  · have hk2 : L.map cpK = N := by rw [hk]; rfl
    exact ⟨hu, .inl ⟨⟨a, hd, id, A, n, c, L, ho2, hC, by simp at hle; omega, by rw [← hsp, hk2]; unfold oPp; rw [hp]⟩, hb, hs⟩⟩
set_option maxRecDepth 100000 in
theorem pstep_7 (bs : List Int) (B g gr : Nat) (w : World) (h : PSt bs B g gr w 7) (hgr : gr < g) (hBg : B ≤ g) (hl : bs.length ≤ 700) :
    Calls Tryd.prog 88 #[.pointer (some ⟨g, 0, none⟩)] w fun e w' => (∃ u, e = .returned u) ∧ RStep bs B g gr 7 w w' := by
  have hun : B ≤ g ∧ bs.length ≤ 700 := ⟨hBg, hl⟩
  clear hun
  obtain ⟨a, hd, id, A, n, c, L, ho, hC, hL, hsp⟩ := h
  cases hv : sysK (L.map cpK) with
  | none =>
    refine (nsys_none g gr a hd id A n c L w ho hgr hC (by omega) hv).mono ?_
    rintro e w' ⟨hu, ho2, hC2, hb, hs⟩
    exact ⟨hu, .inl ⟨⟨a, hd, id, A, n, c, L, ho2, hC2, by rw [← hsp]; unfold oPn; rw [hv]⟩, hb.mono (Nat.le_of_lt hgr), hs⟩⟩
  | some s =>
    by_cases h0 : s = 0
    · subst h0
      refine (nsys_zero g gr a hd id A n c L w ho hgr hC (by omega) hv).mono ?_
      rintro e w' ⟨hu, hf⟩
      exact ⟨hu, .inr ⟨2, 1, [], by rw [← hsp]; unfold oPn; rw [hv]; rfl, hf⟩⟩
    · refine (nsys_some g gr a hd id A n c L w ho hgr hC (by omega) s hv h0).mono ?_
      rintro e w' ⟨hu, ho2, hC2, hb, hs⟩
      exact ⟨hu, .inl ⟨⟨s, hd, id, A, n, c, L, ho2, hC2, by rw [← hsp]; unfold oPn; rw [hv]; exact (if_neg h0).symm⟩, hb.mono (Nat.le_of_lt hgr), hs⟩⟩
end Go.Proofs.YtniheakafkakhaaDoor

/- open.Parse -/
namespace Go.Proofs.YtniheakafkakhaaDoor
open Go.RowKit Go.Sort
/-- What Parse leaves. -/
def OPR (bs : List Int) (w : World) (e : Ending) (w' : World) : Prop :=
  (∃ s t ds D dn dc, oParse bs = .inl (s, t, ds) ∧ e = .returned (.tuple #[.agg #[.int .u32 0, .int .i64 0, .int .u32 0, .slice none 0 0], .agg #[.int .i64 4, .int .i64 2, .int .i64 s, .slice D dn dc, .int .i64 t]]) ∧ Bytes w' w'.heap.size D dn ds ∧ Below w.heap.size w w') ∨
  (∃ a hd id A n c L, .inr (a, hd, id, L.map cpK) = oParse bs ∧ e = .returned (.tuple #[.agg #[.int .u32 a, .int .i64 hd, .int .u32 id, .slice A n c], .agg #[.int .i64 0, .int .i64 0, .int .i64 0, .slice none 0 0, .int .i64 0]]) ∧ Caps w' w'.heap.size A n L ∧ Below w.heap.size w w')
theorem pst_kind {bs : List Int} {B g gr : Nat} {w : World} : ∀ {k : Nat}, PSt bs B g gr w k → w.cell? ⟨g, 5, none⟩ = some (.int .i64 0)
  | 0, h => h.1.cell rfl
  | 1, h => h.1.cell rfl
  | 2, ⟨_, h, _⟩ => h.cell rfl
  | 3, ⟨_, _, h, _⟩ => h.cell rfl
  | 4, ⟨_, _, _, h, _⟩ => h.cell rfl
  | 5, ⟨_, _, _, _, h, _⟩ => h.cell rfl
  | 6, ⟨_, _, _, _, h, _⟩ => h.cell rfl
  | 7, ⟨_, _, _, _, _, _, _, h, _⟩ => h.cell rfl
  | _ + 8, ⟨_, _, _, _, _, _, _, h, _⟩ => h.cell rfl
def fnA (g : Nat) : Array Value := #[.func (.func 81) #[.pointer (some ⟨g, 0, none⟩)] #[], .func (.func 82) #[.pointer (some ⟨g, 0, none⟩)] #[], .func (.func 83) #[.pointer (some ⟨g, 0, none⟩)] #[], .func (.func 84) #[.pointer (some ⟨g, 0, none⟩)] #[], .func (.func 85) #[.pointer (some ⟨g, 0, none⟩)] #[], .func (.func 86) #[.pointer (some ⟨g, 0, none⟩)] #[], .func (.func 87) #[.pointer (some ⟨g, 0, none⟩)] #[], .func (.func 88) #[.pointer (some ⟨g, 0, none⟩)] #[]]
theorem own_8 {w : World} {g : Nat} {T : TypeId} {u0 u1 u2 u3 u4 u5 u6 u7 : Value} (h : Own w g T #[u0, u1, u2, u3, u4, u5, u6, u7]) : w.cell? ⟨g, 0, none⟩ = some u0 ∧ w.cell? ⟨g, 1, none⟩ = some u1 ∧ w.cell? ⟨g, 2, none⟩ = some u2 ∧ w.cell? ⟨g, 3, none⟩ = some u3 ∧ w.cell? ⟨g, 4, none⟩ = some u4 ∧ w.cell? ⟨g, 5, none⟩ = some u5 ∧ w.cell? ⟨g, 6, none⟩ = some u6 ∧ w.cell? ⟨g, 7, none⟩ = some u7 := ⟨h.cell rfl, h.cell rfl, h.cell rfl, h.cell rfl, h.cell rfl, h.cell rfl, h.cell rfl, h.cell rfl⟩
theorem nu8_set {cs : Array Value} (h : ∀ (o : Nat) (z : Int), cs[o]? ≠ some (Value.int .u8 z)) {v : Value} (hv : ∀ z : Int, v ≠ .int .u8 z) (i : Nat) : ∀ (o : Nat) (z : Int), (cs.setIfInBounds i v)[o]? ≠ some (Value.int .u8 z) := by
  intro o z
  rw [Array.getElem?_setIfInBounds]
  split
  · split
    · intro e; exact hv z (Option.some.inj e)
    · simp
  · exact h o z
def sets4P (w : World) (g : Nat) (a b c d : Value) : World := (((w.setCell ⟨g, 0, none⟩ a).setCell ⟨g, 1, none⟩ b).setCell ⟨g, 2, none⟩ c).setCell ⟨g, 3, none⟩ d
def sets5P (w : World) (g : Nat) (a b c d e : Value) : World := ((((w.setCell ⟨g, 0, none⟩ a).setCell ⟨g, 1, none⟩ b).setCell ⟨g, 2, none⟩ c).setCell ⟨g, 3, none⟩ d).setCell ⟨g, 4, none⟩ e
section
variable {w : World} {g : Nat} {a b c d e : Value}
theorem sets4P_own {T : TypeId} {x0 x1 x2 x3 : Value} (h : Own w g T #[x0, x1, x2, x3]) : Own (sets4P w g a b c d) g T #[a, b, c, d] := (((h.set_ 0 a).set_ 1 b).set_ 2 c).set_ 3 d
theorem sets5P_own {T : TypeId} {x0 x1 x2 x3 x4 : Value} (h : Own w g T #[x0, x1, x2, x3, x4]) : Own (sets5P w g a b c d e) g T #[a, b, c, d, e] := ((((h.set_ 0 a).set_ 1 b).set_ 2 c).set_ 3 d).set_ 4 e
theorem sets4P_far {k : Nat} {T : TypeId} {cs : Array Value} (h : Own w k T cs) (hk : k ≠ g) : Own (sets4P w g a b c d) k T cs := (((h.far (p := ⟨g, 0, none⟩) hk a).far (p := ⟨g, 1, none⟩) hk b).far (p := ⟨g, 2, none⟩) hk c).far (p := ⟨g, 3, none⟩) hk d
theorem sets5P_far {k : Nat} {T : TypeId} {cs : Array Value} (h : Own w k T cs) (hk : k ≠ g) : Own (sets5P w g a b c d e) k T cs := ((((h.far (p := ⟨g, 0, none⟩) hk a).far (p := ⟨g, 1, none⟩) hk b).far (p := ⟨g, 2, none⟩) hk c).far (p := ⟨g, 3, none⟩) hk d).far (p := ⟨g, 4, none⟩) hk e
theorem sets4P_below {w0 : World} {B : Nat} (h : Below B w0 w) (hg : B ≤ g) : Below B w0 (sets4P w g a b c d) := (((h.setCell (p := ⟨g, 0, none⟩) hg a).setCell (p := ⟨g, 1, none⟩) hg b).setCell (p := ⟨g, 2, none⟩) hg c).setCell (p := ⟨g, 3, none⟩) hg d
theorem sets5P_below {w0 : World} {B : Nat} (h : Below B w0 w) (hg : B ≤ g) : Below B w0 (sets5P w g a b c d e) := ((((h.setCell (p := ⟨g, 0, none⟩) hg a).setCell (p := ⟨g, 1, none⟩) hg b).setCell (p := ⟨g, 2, none⟩) hg c).setCell (p := ⟨g, 3, none⟩) hg d).setCell (p := ⟨g, 4, none⟩) hg e
theorem sets4P_bytes {B n : Nat} {A : Option Addr} {xs : List Int} {T : TypeId} {cs : Array Value} (h : Bytes w B A n xs) (o : Own w g T cs) (hc : ∀ (o : Nat) (z : Int), cs[o]? ≠ some (Value.int .u8 z)) (ha : ∀ z : Int, a ≠ .int .u8 z) (hb : ∀ z : Int, b ≠ .int .u8 z) (hcc : ∀ z : Int, c ≠ .int .u8 z) : Bytes (sets4P w g a b c d) B A n xs :=
  (((h.otherW o hc 0 a).otherW (o.set_ 0 a) (nu8_set hc ha 0) 1 b).otherW ((o.set_ 0 a).set_ 1 b) (nu8_set (nu8_set hc ha 0) hb 1) 2 c).otherW (((o.set_ 0 a).set_ 1 b).set_ 2 c) (nu8_set (nu8_set (nu8_set hc ha 0) hb 1) hcc 2) 3 d
theorem sets5P_bytes {B n : Nat} {A : Option Addr} {xs : List Int} {T : TypeId} {cs : Array Value} (h : Bytes w B A n xs) (o : Own w g T cs) (hc : ∀ (o : Nat) (z : Int), cs[o]? ≠ some (Value.int .u8 z)) (ha : ∀ z : Int, a ≠ .int .u8 z) (hb : ∀ z : Int, b ≠ .int .u8 z) (hcc : ∀ z : Int, c ≠ .int .u8 z) (hd : ∀ z : Int, d ≠ .int .u8 z) : Bytes (sets5P w g a b c d e) B A n xs :=
  ((((h.otherW o hc 0 a).otherW (o.set_ 0 a) (nu8_set hc ha 0) 1 b).otherW ((o.set_ 0 a).set_ 1 b) (nu8_set (nu8_set hc ha 0) hb 1) 2 c).otherW (((o.set_ 0 a).set_ 1 b).set_ 2 c) (nu8_set (nu8_set (nu8_set hc ha 0) hb 1) hcc 2) 3 d).otherW ((((o.set_ 0 a).set_ 1 b).set_ 2 c).set_ 3 d) (nu8_set (nu8_set (nu8_set (nu8_set hc ha 0) hb 1) hcc 2) hd 3) 4 e
end
theorem sets4P_size {w : World} {g : Nat} {a b c d : Value} : (sets4P w g a b c d).heap.size = w.heap.size := by simp [sets4P]
theorem sets5P_size {w : World} {g : Nat} {a b c d e : Value} : (sets5P w g a b c d e).heap.size = w.heap.size := by simp [sets5P]
theorem sets4P_crow {T : TypeId} {w : World} {g base : Nat} {a b c d v : Value} {L : List Cp} (h : CRow T w base v L) (hg : g < base) : CRow T (sets4P w g a b c d) base v L :=
  (((h.rest (Rest.setCell w ⟨g, 0, none⟩ a) (fun j t _ hb _ e => by have e2 : j = g := e; omega)).rest (Rest.setCell _ ⟨g, 1, none⟩ b) (fun j t _ hb _ e => by have e2 : j = g := e; omega)).rest (Rest.setCell _ ⟨g, 2, none⟩ c) (fun j t _ hb _ e => by have e2 : j = g := e; omega)).rest (Rest.setCell _ ⟨g, 3, none⟩ d) (fun j t _ hb _ e => by have e2 : j = g := e; omega)
theorem sets5P_crow {T : TypeId} {w : World} {g base : Nat} {a b c d e v : Value} {L : List Cp} (h : CRow T w base v L) (hg : g < base) : CRow T (sets5P w g a b c d e) base v L :=
  ((((h.rest (Rest.setCell w ⟨g, 0, none⟩ a) (fun j t _ hb _ e => by have e2 : j = g := e; omega)).rest (Rest.setCell _ ⟨g, 1, none⟩ b) (fun j t _ hb _ e => by have e2 : j = g := e; omega)).rest (Rest.setCell _ ⟨g, 2, none⟩ c) (fun j t _ hb _ e => by have e2 : j = g := e; omega)).rest (Rest.setCell _ ⟨g, 3, none⟩ d) (fun j t _ hb _ e => by have e2 : j = g := e; omega)).rest (Rest.setCell _ ⟨g, 4, none⟩ e) (fun j t _ hb _ e => by have e2 : j = g := e; omega)
set_option maxRecDepth 100000 in
theorem ve_descN : Tryd.prog.underlying 55 = some (.struct (Tryd.prog.fieldsOf 55)) := by kernel_rfl
set_option maxRecDepth 100000 in
theorem ve_infoN (a b c d e : Value) : (Tryd.prog.info? 55).map (·.size) = some (#[a, b, c, d, e] : Array Value).size := by kernel_rfl
set_option maxRecDepth 100000 in
theorem op_descP : Tryd.prog.underlying 47 = some (.struct (Tryd.prog.fieldsOf 47)) := by kernel_rfl
set_option maxRecDepth 100000 in
theorem op_infoP (a b c d : Value) : (Tryd.prog.info? 47).map (·.size) = some (#[a, b, c, d] : Array Value).size := by kernel_rfl
theorem own_5 {w : World} {g : Nat} {T : TypeId} {u0 u1 u2 u3 u4 : Value} (h : Own w g T #[u0, u1, u2, u3, u4]) : w.cell? ⟨g, 0, none⟩ = some u0 ∧ w.cell? ⟨g, 1, none⟩ = some u1 ∧ w.cell? ⟨g, 2, none⟩ = some u2 ∧ w.cell? ⟨g, 3, none⟩ = some u3 ∧ w.cell? ⟨g, 4, none⟩ = some u4 := ⟨h.cell rfl, h.cell rfl, h.cell rfl, h.cell rfl, h.cell rfl⟩
set_option maxRecDepth 100000 in
theorem nidxP0 (g : Nat) (W : World) : (Instr.index 118 (.agg #[.func (.func 81) #[.pointer (some ⟨g, 0, none⟩)] #[], .func (.func 82) #[.pointer (some ⟨g, 0, none⟩)] #[], .func (.func 83) #[.pointer (some ⟨g, 0, none⟩)] #[], .func (.func 84) #[.pointer (some ⟨g, 0, none⟩)] #[], .func (.func 85) #[.pointer (some ⟨g, 0, none⟩)] #[], .func (.func 86) #[.pointer (some ⟨g, 0, none⟩)] #[], .func (.func 87) #[.pointer (some ⟨g, 0, none⟩)] #[], .func (.func 88) #[.pointer (some ⟨g, 0, none⟩)] #[]]) (.int .i64 0)).run Tryd.prog W = .ok (.func (.func 81) #[.pointer (some ⟨g, 0, none⟩)] #[]) W := by kernel_rfl
set_option maxRecDepth 100000 in
theorem nidxP1 (g : Nat) (W : World) : (Instr.index 118 (.agg #[.func (.func 81) #[.pointer (some ⟨g, 0, none⟩)] #[], .func (.func 82) #[.pointer (some ⟨g, 0, none⟩)] #[], .func (.func 83) #[.pointer (some ⟨g, 0, none⟩)] #[], .func (.func 84) #[.pointer (some ⟨g, 0, none⟩)] #[], .func (.func 85) #[.pointer (some ⟨g, 0, none⟩)] #[], .func (.func 86) #[.pointer (some ⟨g, 0, none⟩)] #[], .func (.func 87) #[.pointer (some ⟨g, 0, none⟩)] #[], .func (.func 88) #[.pointer (some ⟨g, 0, none⟩)] #[]]) (.int .i64 1)).run Tryd.prog W = .ok (.func (.func 82) #[.pointer (some ⟨g, 0, none⟩)] #[]) W := by kernel_rfl
set_option maxRecDepth 100000 in
theorem nidxP2 (g : Nat) (W : World) : (Instr.index 118 (.agg #[.func (.func 81) #[.pointer (some ⟨g, 0, none⟩)] #[], .func (.func 82) #[.pointer (some ⟨g, 0, none⟩)] #[], .func (.func 83) #[.pointer (some ⟨g, 0, none⟩)] #[], .func (.func 84) #[.pointer (some ⟨g, 0, none⟩)] #[], .func (.func 85) #[.pointer (some ⟨g, 0, none⟩)] #[], .func (.func 86) #[.pointer (some ⟨g, 0, none⟩)] #[], .func (.func 87) #[.pointer (some ⟨g, 0, none⟩)] #[], .func (.func 88) #[.pointer (some ⟨g, 0, none⟩)] #[]]) (.int .i64 2)).run Tryd.prog W = .ok (.func (.func 83) #[.pointer (some ⟨g, 0, none⟩)] #[]) W := by kernel_rfl
set_option maxRecDepth 100000 in
theorem nidxP3 (g : Nat) (W : World) : (Instr.index 118 (.agg #[.func (.func 81) #[.pointer (some ⟨g, 0, none⟩)] #[], .func (.func 82) #[.pointer (some ⟨g, 0, none⟩)] #[], .func (.func 83) #[.pointer (some ⟨g, 0, none⟩)] #[], .func (.func 84) #[.pointer (some ⟨g, 0, none⟩)] #[], .func (.func 85) #[.pointer (some ⟨g, 0, none⟩)] #[], .func (.func 86) #[.pointer (some ⟨g, 0, none⟩)] #[], .func (.func 87) #[.pointer (some ⟨g, 0, none⟩)] #[], .func (.func 88) #[.pointer (some ⟨g, 0, none⟩)] #[]]) (.int .i64 3)).run Tryd.prog W = .ok (.func (.func 84) #[.pointer (some ⟨g, 0, none⟩)] #[]) W := by kernel_rfl
set_option maxRecDepth 100000 in
theorem nidxP4 (g : Nat) (W : World) : (Instr.index 118 (.agg #[.func (.func 81) #[.pointer (some ⟨g, 0, none⟩)] #[], .func (.func 82) #[.pointer (some ⟨g, 0, none⟩)] #[], .func (.func 83) #[.pointer (some ⟨g, 0, none⟩)] #[], .func (.func 84) #[.pointer (some ⟨g, 0, none⟩)] #[], .func (.func 85) #[.pointer (some ⟨g, 0, none⟩)] #[], .func (.func 86) #[.pointer (some ⟨g, 0, none⟩)] #[], .func (.func 87) #[.pointer (some ⟨g, 0, none⟩)] #[], .func (.func 88) #[.pointer (some ⟨g, 0, none⟩)] #[]]) (.int .i64 4)).run Tryd.prog W = .ok (.func (.func 85) #[.pointer (some ⟨g, 0, none⟩)] #[]) W := by kernel_rfl
set_option maxRecDepth 100000 in
theorem nidxP5 (g : Nat) (W : World) : (Instr.index 118 (.agg #[.func (.func 81) #[.pointer (some ⟨g, 0, none⟩)] #[], .func (.func 82) #[.pointer (some ⟨g, 0, none⟩)] #[], .func (.func 83) #[.pointer (some ⟨g, 0, none⟩)] #[], .func (.func 84) #[.pointer (some ⟨g, 0, none⟩)] #[], .func (.func 85) #[.pointer (some ⟨g, 0, none⟩)] #[], .func (.func 86) #[.pointer (some ⟨g, 0, none⟩)] #[], .func (.func 87) #[.pointer (some ⟨g, 0, none⟩)] #[], .func (.func 88) #[.pointer (some ⟨g, 0, none⟩)] #[]]) (.int .i64 5)).run Tryd.prog W = .ok (.func (.func 86) #[.pointer (some ⟨g, 0, none⟩)] #[]) W := by kernel_rfl
set_option maxRecDepth 100000 in
theorem nidxP6 (g : Nat) (W : World) : (Instr.index 118 (.agg #[.func (.func 81) #[.pointer (some ⟨g, 0, none⟩)] #[], .func (.func 82) #[.pointer (some ⟨g, 0, none⟩)] #[], .func (.func 83) #[.pointer (some ⟨g, 0, none⟩)] #[], .func (.func 84) #[.pointer (some ⟨g, 0, none⟩)] #[], .func (.func 85) #[.pointer (some ⟨g, 0, none⟩)] #[], .func (.func 86) #[.pointer (some ⟨g, 0, none⟩)] #[], .func (.func 87) #[.pointer (some ⟨g, 0, none⟩)] #[], .func (.func 88) #[.pointer (some ⟨g, 0, none⟩)] #[]]) (.int .i64 6)).run Tryd.prog W = .ok (.func (.func 87) #[.pointer (some ⟨g, 0, none⟩)] #[]) W := by kernel_rfl
set_option maxRecDepth 100000 in
theorem nidxP7 (g : Nat) (W : World) : (Instr.index 118 (.agg #[.func (.func 81) #[.pointer (some ⟨g, 0, none⟩)] #[], .func (.func 82) #[.pointer (some ⟨g, 0, none⟩)] #[], .func (.func 83) #[.pointer (some ⟨g, 0, none⟩)] #[], .func (.func 84) #[.pointer (some ⟨g, 0, none⟩)] #[], .func (.func 85) #[.pointer (some ⟨g, 0, none⟩)] #[], .func (.func 86) #[.pointer (some ⟨g, 0, none⟩)] #[], .func (.func 87) #[.pointer (some ⟨g, 0, none⟩)] #[], .func (.func 88) #[.pointer (some ⟨g, 0, none⟩)] #[]]) (.int .i64 7)).run Tryd.prog W = .ok (.func (.func 88) #[.pointer (some ⟨g, 0, none⟩)] #[]) W := by kernel_rfl
set_option maxRecDepth 100000 in
set_option maxHeartbeats 12800000 in
theorem oparse_any (A : Option Addr) (n c : Nat) (bs : List Int) (w : World) (hx : Bytes w w.heap.size A n bs) (hl : bs.length ≤ 700) :
    Calls Tryd.prog 31 #[.slice A n c] w fun e w' => OPR bs w e w' := by
  obtain ⟨X, hX, oR, oV, hbX, hXs⟩ := two_boxesN w #[.int .u32 0, .int .i64 0, .int .u32 0, .slice none 0 0] #[.int .i64 0, .int .i64 0, .int .i64 0, .slice none 0 0, .int .i64 0] 47 55
  have hN := Lib.hid (new_any A n c bs X ((hx.below hbX).more hbX.size) (by have := hx.1; omega))
  have HXS := Lib.hid hXs
  clear hXs hx
  go_enter Tryd.func31, Tryd.ntmps31
  go_upto_region 1 with fail
  rw [← hX]
  clear hX
  go_wp2_with fail
  refine hN.out.mono ?_
  rintro e w2 ⟨gr, rfl, hgr0, hrd, hb2⟩
  have hgrl := hrd.lt
  have HGR := Lib.hid hgrl
  have oR2 := oR.step hb2
  have oV2 := oV.step hb2
  have hb3 := bl_trans hbX hb2
  clear oR oV hbX hb2 hN
  obtain ⟨V, hV, oP, oF, hbV, hVs⟩ := two_boxesN w2 #[.pointer (some ⟨gr, 0, none⟩), .int .u32 (0), .int .i64 (0), .int .u32 (0), .slice none 0 0, .int .i64 (0), .int .i64 (0), .int .i64 (0), .slice none 0 0, .int .i64 (0)] (fnA w2.heap.size) 117 118
  have hnf : fnA w2.heap.size = #[.func (.func 81) #[.pointer (some ⟨w2.heap.size, 0, none⟩)] #[], .func (.func 82) #[.pointer (some ⟨w2.heap.size, 0, none⟩)] #[], .func (.func 83) #[.pointer (some ⟨w2.heap.size, 0, none⟩)] #[], .func (.func 84) #[.pointer (some ⟨w2.heap.size, 0, none⟩)] #[], .func (.func 85) #[.pointer (some ⟨w2.heap.size, 0, none⟩)] #[], .func (.func 86) #[.pointer (some ⟨w2.heap.size, 0, none⟩)] #[], .func (.func 87) #[.pointer (some ⟨w2.heap.size, 0, none⟩)] #[], .func (.func 88) #[.pointer (some ⟨w2.heap.size, 0, none⟩)] #[]] := rfl
  rw [hnf] at hV oF
  clear hVs hnf
  obtain ⟨y0, y1, y2, y3, y4, y5, y6, y7⟩ := own_8 oF
  go_upto_region 3 with fail
  rw [← hV]
  clear hV
  have hst : PSt bs w2.heap.size w2.heap.size gr V 0 := ⟨oP, hrd.toB.below hbV⟩
  have oR3 := oR2.step hbV
  have oV3 := oV2.step hbV
  have hb4 := bl_trans hb3 hbV
  have hg := oP.lt
  have hxs := HXS.out
  have hlo : w.heap.size + 1 < gr := by omega
  have HLO := Lib.hid hlo
  clear oR2 oV2 hb3 oP oF hbV hrd hxs hlo
  go_wp2_with fail
  clear y0 y1 y2 y3 y4 y5 y6 y7
  go_loopw [7, 30] (fun _ i wr => ∃ k : Nat, k ≤ 8 ∧ i = .int .i64 k ∧ PSt bs w2.heap.size w2.heap.size gr wr k ∧ Own wr w.heap.size 47 #[.int .u32 0, .int .i64 0, .int .u32 0, .slice none 0 0] ∧ Own wr (w.heap.size + 1) 55 #[.int .i64 0, .int .i64 0, .int .i64 0, .slice none 0 0, .int .i64 0] ∧ Below w.heap.size w wr ∧ w2.heap.size < wr.heap.size) (fun _ i _ => 8 - (intOf i).toNat)
  case atStart => exact ⟨0, by omega, rfl, hst, oR3, oV3, hb4, hg⟩
  case round =>
    obtain ⟨k, hk, rfl, hs, oR, oV, hb, hsz⟩ := hrel
    clear hst oR3 oV3 hb4 hg
    rcases k with _ | _ | _ | _ | _ | _ | _ | _ | k
    · have hix := nidxP0 w2.heap.size
      have hC := Lib.hid (pstep_0 bs w2.heap.size w2.heap.size gr wr hs (by have := HGR.out; omega) (Nat.le_refl _) hl)
      clear hs
      go_wp2_with fail
      refine hC.out.mono ?_
      rintro e w3 ⟨⟨u, rfl⟩, ⟨hs2, hb2, hz2⟩ | ⟨s, t, ds, hsp, a, hd, id, A2, n2, c2, D, dn, dc, ho, hB, hb2, hz2⟩⟩
      · have hkd := pst_kind hs2
        have o1 := oR.below hb2 (by have := HLO.out; omega)
        have o2 := oV.below hb2 (by have := HLO.out; omega)
        have hb5 := hb.trans (hb2.mono (by have := HLO.out; omega))
        clear oR oV hb hC
        go_wp2
        go_roundw
        case rel => exact ⟨1, by omega, by go_num, hs2, o1, o2, hb5, by omega⟩
        case measure => simp [intOf]
      · have o1 := oR.below hb2 (by have := HLO.out; omega)
        have o2 := oV.below hb2 (by have := HLO.out; omega)
        have hb5 := hb.trans (hb2.mono (by have := HLO.out; omega))
        clear oR oV hb hC
        obtain ⟨q0, q1, q2, q3, q4, q5, q6, q7, q8, q9⟩ := own_10 ho
        go_upto_region 8 with fail
        clear q0 q1 q2 q3 q4 q5 q6 q7 q8 q9
        refine wp_region_held_drew (S := (fun X => Own X w2.heap.size 117 #[.pointer (some ⟨gr, 0, none⟩), .int .u32 (a), .int .i64 (hd), .int .u32 (id), .slice A2 n2 c2, .int .i64 (4), .int .i64 (2), .int .i64 (s), .slice D dn dc, .int .i64 (t)])) (by kernel_rfl) ho.drew (fun hHeld => ?_)
        have O1 := o1.drew
        have O2 := o2.drew
        have HO := ho.drew
        have HBd : Bytes w3.drew w3.drew.heap.size D dn ds := hB.drewN 1
        have hb6 : Below w.heap.size w w3.drew := bl_drewN hb5 1
        clear o1 o2 ho hB hb5 hb2
        generalize w3.drew = Y at *
        refine wpAnyH_take (i := 0) (v := ?_) rfl (by kernel_rfl) (by kernel_rfl) (by kernel_rfl) (fun _ _ _ h => h) (Or.inl ⟨by rfl, ?_⟩) (by assumption) ?_
        rotate_left
        · (intro W hSw; skip; go_simp; try with_reducible rfl)
        simp only [Act.put, List.getElem_toArray, List.getElem_cons_zero, List.setIfInBounds_toArray, List.set_cons_zero, List.set_cons_succ]
        refine wpAnyH_take (i := 1) (v := ?_) rfl (by kernel_rfl) (by kernel_rfl) (by kernel_rfl) (fun _ _ _ h => h) (Or.inl ⟨by rfl, ?_⟩) (by assumption) ?_
        rotate_left
        · (intro W hSw; skip; go_simp; try with_reducible rfl)
        simp only [Act.put, List.getElem_toArray, List.getElem_cons_zero, List.getElem_cons_succ, List.setIfInBounds_toArray, List.set_cons_zero, List.set_cons_succ]
        refine wpAnyH_take (i := 2) (v := ?_) rfl (by kernel_rfl) (by kernel_rfl) (by kernel_rfl) (fun _ _ _ h => h) (Or.inl ⟨by rfl, ?_⟩) (by assumption) ?_
        rotate_left
        · (intro W hSw; skip; go_simp; try with_reducible rfl)
        simp only [Act.put, List.getElem_toArray, List.getElem_cons_zero, List.getElem_cons_succ, List.setIfInBounds_toArray, List.set_cons_zero, List.set_cons_succ]
        refine wpAnyH_take (i := 3) (v := ?_) rfl (by kernel_rfl) (by kernel_rfl) (by kernel_rfl) (fun _ _ _ h => h) (Or.inl ⟨by rfl, ?_⟩) (by assumption) ?_
        rotate_left
        · (intro W hSw; skip; go_simp; try with_reducible rfl)
        simp only [Act.put, List.getElem_toArray, List.getElem_cons_zero, List.getElem_cons_succ, List.setIfInBounds_toArray, List.set_cons_zero, List.set_cons_succ]
        refine wpAnyH_take (i := 4) (v := ?_) rfl (by kernel_rfl) (by kernel_rfl) (by kernel_rfl) (fun _ _ _ h => h) (Or.inl ⟨by rfl, ?_⟩) (by assumption) ?_
        rotate_left
        · (intro W hSw; have s0 : Own W w2.heap.size 117 #[.pointer (some ⟨gr, 0, none⟩), .int .u32 (a), .int .i64 (hd), .int .u32 (id), .slice A2 n2 c2, .int .i64 (4), .int .i64 (2), .int .i64 (s), .slice D dn dc, .int .i64 (t)] := hSw; obtain ⟨q0, q1, q2, q3, q4, q5, q6, q7, q8, q9⟩ := own_10 s0; go_simp; try with_reducible rfl)
        simp only [Act.put, List.getElem_toArray, List.getElem_cons_zero, List.getElem_cons_succ, List.setIfInBounds_toArray, List.set_cons_zero, List.set_cons_succ]
        refine wpAnyH_ready (rs := [5]) (by kernel_rfl) (by simp) ?_
        refine (AllReadyH.cons rfl (fun K hK => ?_) AllReadyH.nil)
        obtain ⟨e0, e1, e2, e3⟩ := own_end O1
        have f0 := O1.frozen 0
        have f1 := O1.frozen 1
        have f2 := O1.frozen 2
        have f3 := O1.frozen 3
        go_simp
        rw [show ((((Y.setCell ⟨w.heap.size, 0, none⟩ (.int .u32 0)).setCell ⟨w.heap.size, 1, none⟩ (.int .i64 0)).setCell ⟨w.heap.size, 2, none⟩ (.int .u32 0)).setCell ⟨w.heap.size, 3, none⟩ (.slice none 0 0)) = sets4P Y w.heap.size (.int .u32 0) (.int .i64 0) (.int .u32 0) (.slice none 0 0) from rfl]
        have P1 := sets4P_own (a := .int .u32 0) (b := .int .i64 0) (c := .int .u32 0) (d := .slice none 0 0) O1
        have P2 := sets4P_far (g := w.heap.size) (a := .int .u32 0) (b := .int .i64 0) (c := .int .u32 0) (d := .slice none 0 0) O2 (by omega)
        have P3 := sets4P_far (g := w.heap.size) (a := .int .u32 0) (b := .int .i64 0) (c := .int .u32 0) (d := .slice none 0 0) HO (by have := HLO.out; have := HGR.out; omega)
        have P4 := sets4P_below (g := w.heap.size) (a := .int .u32 0) (b := .int .i64 0) (c := .int .u32 0) (d := .slice none 0 0) hb6 (Nat.le_refl _)
        have P5 := (sets4P_bytes (a := .int .u32 0) (b := .int .i64 0) (c := .int .u32 0) (d := .slice none 0 0) HBd O1 (by intro i z; rcases i with _ | _ | _ | _ | i <;> simp) (by simp) (by simp) (by simp)).more (B' := (sets4P Y w.heap.size (.int .u32 0) (.int .i64 0) (.int .u32 0) (.slice none 0 0)).heap.size) (by rw [sets4P_size]; exact Nat.le_refl _)
        clear e0 e1 e2 e3 f0 f1 f2 f3 O1 O2 HO hb6 HBd
        generalize sets4P Y w.heap.size (.int .u32 0) (.int .i64 0) (.int .u32 0) (.slice none 0 0) = Y1 at *
        refine hK.out _ _ P3 (fun hHeld2 => ?_)
        clear hK K hHeld
        have hHeld := hHeld2
        clear hHeld2
        try simp only [Act.put, List.getElem_toArray, List.getElem_cons_zero, List.getElem_cons_succ, List.setIfInBounds_toArray, List.set_cons_zero, List.set_cons_succ]
        refine wpAnyH_ready (rs := [6]) (by kernel_rfl) (by simp) ?_
        refine (AllReadyH.cons rfl (fun K hK => ?_) AllReadyH.nil)
        obtain ⟨e0, e1, e2, e3, e4⟩ := own_5 P2
        have f0 := P2.frozen 0
        have f1 := P2.frozen 1
        have f2 := P2.frozen 2
        have f3 := P2.frozen 3
        have f4 := P2.frozen 4
        go_simp
        rw [show (((((Y1.setCell ⟨w.heap.size + 1, 0, none⟩ (.int .i64 4)).setCell ⟨w.heap.size + 1, 1, none⟩ (.int .i64 2)).setCell ⟨w.heap.size + 1, 2, none⟩ (.int .i64 s)).setCell ⟨w.heap.size + 1, 3, none⟩ (.slice D dn dc)).setCell ⟨w.heap.size + 1, 4, none⟩ (.int .i64 t)) = sets5P Y1 (w.heap.size + 1) (.int .i64 4) (.int .i64 2) (.int .i64 s) (.slice D dn dc) (.int .i64 t) from rfl]
        have Q1 := sets5P_far (g := w.heap.size + 1) (a := .int .i64 4) (b := .int .i64 2) (c := .int .i64 s) (d := .slice D dn dc) (e := .int .i64 t) P1 (by omega)
        have Q2 := sets5P_own (a := .int .i64 4) (b := .int .i64 2) (c := .int .i64 s) (d := .slice D dn dc) (e := .int .i64 t) P2
        have Q3 := sets5P_far (g := w.heap.size + 1) (a := .int .i64 4) (b := .int .i64 2) (c := .int .i64 s) (d := .slice D dn dc) (e := .int .i64 t) P3 (by have := HLO.out; have := HGR.out; omega)
        have Q4 := sets5P_below (g := w.heap.size + 1) (a := .int .i64 4) (b := .int .i64 2) (c := .int .i64 s) (d := .slice D dn dc) (e := .int .i64 t) P4 (by omega)
        have Q5 := (sets5P_bytes (a := .int .i64 4) (b := .int .i64 2) (c := .int .i64 s) (d := .slice D dn dc) (e := .int .i64 t) P5 P2 (by intro i z; rcases i with _ | _ | _ | _ | _ | i <;> simp) (by simp) (by simp) (by simp) (by simp)).more (B' := (sets5P Y1 (w.heap.size + 1) (.int .i64 4) (.int .i64 2) (.int .i64 s) (.slice D dn dc) (.int .i64 t)).heap.size) (by rw [sets5P_size]; exact Nat.le_refl _)
        clear e0 e1 e2 e3 e4 f0 f1 f2 f3 f4 P1 P2 P3 P4 P5
        generalize sets5P Y1 (w.heap.size + 1) (.int .i64 4) (.int .i64 2) (.int .i64 s) (.slice D dn dc) (.int .i64 t) = Y2 at *
        refine hK.out _ _ Q3 (fun hHeld2 => ?_)
        clear hK K hHeld
        have hHeld := hHeld2
        clear hHeld2
        try simp only [Act.put, List.getElem_toArray, List.getElem_cons_zero, List.getElem_cons_succ, List.setIfInBounds_toArray, List.set_cons_zero, List.set_cons_succ]
        refine wpAnyH_done (by kernel_rfl) ?_ _
        go_wp2
        exact bodyPost_ret (results_twoN (p := 2) (q := 3) (fn := Tryd.f31) rfl _ _ w.heap.size 47 _ _ (w.heap.size + 1) 55 _ _ rfl Q1 op_descP rfl (op_infoP _ _ _ _) rfl Q2 ve_descN rfl (ve_infoN _ _ _ _ _)) rfl (.inl ⟨s, t, ds, D, dn, dc, hsp, rfl, Q5, Q4⟩)
    · have hix := nidxP1 w2.heap.size
      have hC := Lib.hid (pstep_1 bs w2.heap.size w2.heap.size gr wr hs (by have := HGR.out; omega) (Nat.le_refl _) hl)
      clear hs
      go_wp2_with fail
      refine hC.out.mono ?_
      rintro e w3 ⟨⟨u, rfl⟩, ⟨hs2, hb2, hz2⟩ | ⟨s, t, ds, hsp, a, hd, id, A2, n2, c2, D, dn, dc, ho, hB, hb2, hz2⟩⟩
      · have hkd := pst_kind hs2
        have o1 := oR.below hb2 (by have := HLO.out; omega)
        have o2 := oV.below hb2 (by have := HLO.out; omega)
        have hb5 := hb.trans (hb2.mono (by have := HLO.out; omega))
        clear oR oV hb hC
        go_wp2
        go_roundw
        case rel => exact ⟨2, by omega, by go_num, hs2, o1, o2, hb5, by omega⟩
        case measure => simp [intOf]
      · have o1 := oR.below hb2 (by have := HLO.out; omega)
        have o2 := oV.below hb2 (by have := HLO.out; omega)
        have hb5 := hb.trans (hb2.mono (by have := HLO.out; omega))
        clear oR oV hb hC
        obtain ⟨q0, q1, q2, q3, q4, q5, q6, q7, q8, q9⟩ := own_10 ho
        go_upto_region 8 with fail
        clear q0 q1 q2 q3 q4 q5 q6 q7 q8 q9
        refine wp_region_held_drew (S := (fun X => Own X w2.heap.size 117 #[.pointer (some ⟨gr, 0, none⟩), .int .u32 (a), .int .i64 (hd), .int .u32 (id), .slice A2 n2 c2, .int .i64 (4), .int .i64 (2), .int .i64 (s), .slice D dn dc, .int .i64 (t)])) (by kernel_rfl) ho.drew (fun hHeld => ?_)
        have O1 := o1.drew
        have O2 := o2.drew
        have HO := ho.drew
        have HBd : Bytes w3.drew w3.drew.heap.size D dn ds := hB.drewN 1
        have hb6 : Below w.heap.size w w3.drew := bl_drewN hb5 1
        clear o1 o2 ho hB hb5 hb2
        generalize w3.drew = Y at *
        refine wpAnyH_take (i := 0) (v := ?_) rfl (by kernel_rfl) (by kernel_rfl) (by kernel_rfl) (fun _ _ _ h => h) (Or.inl ⟨by rfl, ?_⟩) (by assumption) ?_
        rotate_left
        · (intro W hSw; skip; go_simp; try with_reducible rfl)
        simp only [Act.put, List.getElem_toArray, List.getElem_cons_zero, List.setIfInBounds_toArray, List.set_cons_zero, List.set_cons_succ]
        refine wpAnyH_take (i := 1) (v := ?_) rfl (by kernel_rfl) (by kernel_rfl) (by kernel_rfl) (fun _ _ _ h => h) (Or.inl ⟨by rfl, ?_⟩) (by assumption) ?_
        rotate_left
        · (intro W hSw; skip; go_simp; try with_reducible rfl)
        simp only [Act.put, List.getElem_toArray, List.getElem_cons_zero, List.getElem_cons_succ, List.setIfInBounds_toArray, List.set_cons_zero, List.set_cons_succ]
        refine wpAnyH_take (i := 2) (v := ?_) rfl (by kernel_rfl) (by kernel_rfl) (by kernel_rfl) (fun _ _ _ h => h) (Or.inl ⟨by rfl, ?_⟩) (by assumption) ?_
        rotate_left
        · (intro W hSw; skip; go_simp; try with_reducible rfl)
        simp only [Act.put, List.getElem_toArray, List.getElem_cons_zero, List.getElem_cons_succ, List.setIfInBounds_toArray, List.set_cons_zero, List.set_cons_succ]
        refine wpAnyH_take (i := 3) (v := ?_) rfl (by kernel_rfl) (by kernel_rfl) (by kernel_rfl) (fun _ _ _ h => h) (Or.inl ⟨by rfl, ?_⟩) (by assumption) ?_
        rotate_left
        · (intro W hSw; skip; go_simp; try with_reducible rfl)
        simp only [Act.put, List.getElem_toArray, List.getElem_cons_zero, List.getElem_cons_succ, List.setIfInBounds_toArray, List.set_cons_zero, List.set_cons_succ]
        refine wpAnyH_take (i := 4) (v := ?_) rfl (by kernel_rfl) (by kernel_rfl) (by kernel_rfl) (fun _ _ _ h => h) (Or.inl ⟨by rfl, ?_⟩) (by assumption) ?_
        rotate_left
        · (intro W hSw; have s0 : Own W w2.heap.size 117 #[.pointer (some ⟨gr, 0, none⟩), .int .u32 (a), .int .i64 (hd), .int .u32 (id), .slice A2 n2 c2, .int .i64 (4), .int .i64 (2), .int .i64 (s), .slice D dn dc, .int .i64 (t)] := hSw; obtain ⟨q0, q1, q2, q3, q4, q5, q6, q7, q8, q9⟩ := own_10 s0; go_simp; try with_reducible rfl)
        simp only [Act.put, List.getElem_toArray, List.getElem_cons_zero, List.getElem_cons_succ, List.setIfInBounds_toArray, List.set_cons_zero, List.set_cons_succ]
        refine wpAnyH_ready (rs := [5]) (by kernel_rfl) (by simp) ?_
        refine (AllReadyH.cons rfl (fun K hK => ?_) AllReadyH.nil)
        obtain ⟨e0, e1, e2, e3⟩ := own_end O1
        have f0 := O1.frozen 0
        have f1 := O1.frozen 1
        have f2 := O1.frozen 2
        have f3 := O1.frozen 3
        go_simp
        rw [show ((((Y.setCell ⟨w.heap.size, 0, none⟩ (.int .u32 0)).setCell ⟨w.heap.size, 1, none⟩ (.int .i64 0)).setCell ⟨w.heap.size, 2, none⟩ (.int .u32 0)).setCell ⟨w.heap.size, 3, none⟩ (.slice none 0 0)) = sets4P Y w.heap.size (.int .u32 0) (.int .i64 0) (.int .u32 0) (.slice none 0 0) from rfl]
        have P1 := sets4P_own (a := .int .u32 0) (b := .int .i64 0) (c := .int .u32 0) (d := .slice none 0 0) O1
        have P2 := sets4P_far (g := w.heap.size) (a := .int .u32 0) (b := .int .i64 0) (c := .int .u32 0) (d := .slice none 0 0) O2 (by omega)
        have P3 := sets4P_far (g := w.heap.size) (a := .int .u32 0) (b := .int .i64 0) (c := .int .u32 0) (d := .slice none 0 0) HO (by have := HLO.out; have := HGR.out; omega)
        have P4 := sets4P_below (g := w.heap.size) (a := .int .u32 0) (b := .int .i64 0) (c := .int .u32 0) (d := .slice none 0 0) hb6 (Nat.le_refl _)
        have P5 := (sets4P_bytes (a := .int .u32 0) (b := .int .i64 0) (c := .int .u32 0) (d := .slice none 0 0) HBd O1 (by intro i z; rcases i with _ | _ | _ | _ | i <;> simp) (by simp) (by simp) (by simp)).more (B' := (sets4P Y w.heap.size (.int .u32 0) (.int .i64 0) (.int .u32 0) (.slice none 0 0)).heap.size) (by rw [sets4P_size]; exact Nat.le_refl _)
        clear e0 e1 e2 e3 f0 f1 f2 f3 O1 O2 HO hb6 HBd
        generalize sets4P Y w.heap.size (.int .u32 0) (.int .i64 0) (.int .u32 0) (.slice none 0 0) = Y1 at *
        refine hK.out _ _ P3 (fun hHeld2 => ?_)
        clear hK K hHeld
        have hHeld := hHeld2
        clear hHeld2
        try simp only [Act.put, List.getElem_toArray, List.getElem_cons_zero, List.getElem_cons_succ, List.setIfInBounds_toArray, List.set_cons_zero, List.set_cons_succ]
        refine wpAnyH_ready (rs := [6]) (by kernel_rfl) (by simp) ?_
        refine (AllReadyH.cons rfl (fun K hK => ?_) AllReadyH.nil)
        obtain ⟨e0, e1, e2, e3, e4⟩ := own_5 P2
        have f0 := P2.frozen 0
        have f1 := P2.frozen 1
        have f2 := P2.frozen 2
        have f3 := P2.frozen 3
        have f4 := P2.frozen 4
        go_simp
        rw [show (((((Y1.setCell ⟨w.heap.size + 1, 0, none⟩ (.int .i64 4)).setCell ⟨w.heap.size + 1, 1, none⟩ (.int .i64 2)).setCell ⟨w.heap.size + 1, 2, none⟩ (.int .i64 s)).setCell ⟨w.heap.size + 1, 3, none⟩ (.slice D dn dc)).setCell ⟨w.heap.size + 1, 4, none⟩ (.int .i64 t)) = sets5P Y1 (w.heap.size + 1) (.int .i64 4) (.int .i64 2) (.int .i64 s) (.slice D dn dc) (.int .i64 t) from rfl]
        have Q1 := sets5P_far (g := w.heap.size + 1) (a := .int .i64 4) (b := .int .i64 2) (c := .int .i64 s) (d := .slice D dn dc) (e := .int .i64 t) P1 (by omega)
        have Q2 := sets5P_own (a := .int .i64 4) (b := .int .i64 2) (c := .int .i64 s) (d := .slice D dn dc) (e := .int .i64 t) P2
        have Q3 := sets5P_far (g := w.heap.size + 1) (a := .int .i64 4) (b := .int .i64 2) (c := .int .i64 s) (d := .slice D dn dc) (e := .int .i64 t) P3 (by have := HLO.out; have := HGR.out; omega)
        have Q4 := sets5P_below (g := w.heap.size + 1) (a := .int .i64 4) (b := .int .i64 2) (c := .int .i64 s) (d := .slice D dn dc) (e := .int .i64 t) P4 (by omega)
        have Q5 := (sets5P_bytes (a := .int .i64 4) (b := .int .i64 2) (c := .int .i64 s) (d := .slice D dn dc) (e := .int .i64 t) P5 P2 (by intro i z; rcases i with _ | _ | _ | _ | _ | i <;> simp) (by simp) (by simp) (by simp) (by simp)).more (B' := (sets5P Y1 (w.heap.size + 1) (.int .i64 4) (.int .i64 2) (.int .i64 s) (.slice D dn dc) (.int .i64 t)).heap.size) (by rw [sets5P_size]; exact Nat.le_refl _)
        clear e0 e1 e2 e3 e4 f0 f1 f2 f3 f4 P1 P2 P3 P4 P5
        generalize sets5P Y1 (w.heap.size + 1) (.int .i64 4) (.int .i64 2) (.int .i64 s) (.slice D dn dc) (.int .i64 t) = Y2 at *
        refine hK.out _ _ Q3 (fun hHeld2 => ?_)
        clear hK K hHeld
        have hHeld := hHeld2
        clear hHeld2
        try simp only [Act.put, List.getElem_toArray, List.getElem_cons_zero, List.getElem_cons_succ, List.setIfInBounds_toArray, List.set_cons_zero, List.set_cons_succ]
        refine wpAnyH_done (by kernel_rfl) ?_ _
        go_wp2
        exact bodyPost_ret (results_twoN (p := 2) (q := 3) (fn := Tryd.f31) rfl _ _ w.heap.size 47 _ _ (w.heap.size + 1) 55 _ _ rfl Q1 op_descP rfl (op_infoP _ _ _ _) rfl Q2 ve_descN rfl (ve_infoN _ _ _ _ _)) rfl (.inl ⟨s, t, ds, D, dn, dc, hsp, rfl, Q5, Q4⟩)
    · have hix := nidxP2 w2.heap.size
      have hC := Lib.hid (pstep_2 bs w2.heap.size w2.heap.size gr wr hs (by have := HGR.out; omega) (Nat.le_refl _) hl)
      clear hs
      go_wp2_with fail
      refine hC.out.mono ?_
      rintro e w3 ⟨⟨u, rfl⟩, ⟨hs2, hb2, hz2⟩ | ⟨s, t, ds, hsp, a, hd, id, A2, n2, c2, D, dn, dc, ho, hB, hb2, hz2⟩⟩
      · have hkd := pst_kind hs2
        have o1 := oR.below hb2 (by have := HLO.out; omega)
        have o2 := oV.below hb2 (by have := HLO.out; omega)
        have hb5 := hb.trans (hb2.mono (by have := HLO.out; omega))
        clear oR oV hb hC
        go_wp2
        go_roundw
        case rel => exact ⟨3, by omega, by go_num, hs2, o1, o2, hb5, by omega⟩
        case measure => simp [intOf]
      · have o1 := oR.below hb2 (by have := HLO.out; omega)
        have o2 := oV.below hb2 (by have := HLO.out; omega)
        have hb5 := hb.trans (hb2.mono (by have := HLO.out; omega))
        clear oR oV hb hC
        obtain ⟨q0, q1, q2, q3, q4, q5, q6, q7, q8, q9⟩ := own_10 ho
        go_upto_region 8 with fail
        clear q0 q1 q2 q3 q4 q5 q6 q7 q8 q9
        refine wp_region_held_drew (S := (fun X => Own X w2.heap.size 117 #[.pointer (some ⟨gr, 0, none⟩), .int .u32 (a), .int .i64 (hd), .int .u32 (id), .slice A2 n2 c2, .int .i64 (4), .int .i64 (2), .int .i64 (s), .slice D dn dc, .int .i64 (t)])) (by kernel_rfl) ho.drew (fun hHeld => ?_)
        have O1 := o1.drew
        have O2 := o2.drew
        have HO := ho.drew
        have HBd : Bytes w3.drew w3.drew.heap.size D dn ds := hB.drewN 1
        have hb6 : Below w.heap.size w w3.drew := bl_drewN hb5 1
        clear o1 o2 ho hB hb5 hb2
        generalize w3.drew = Y at *
        refine wpAnyH_take (i := 0) (v := ?_) rfl (by kernel_rfl) (by kernel_rfl) (by kernel_rfl) (fun _ _ _ h => h) (Or.inl ⟨by rfl, ?_⟩) (by assumption) ?_
        rotate_left
        · (intro W hSw; skip; go_simp; try with_reducible rfl)
        simp only [Act.put, List.getElem_toArray, List.getElem_cons_zero, List.setIfInBounds_toArray, List.set_cons_zero, List.set_cons_succ]
        refine wpAnyH_take (i := 1) (v := ?_) rfl (by kernel_rfl) (by kernel_rfl) (by kernel_rfl) (fun _ _ _ h => h) (Or.inl ⟨by rfl, ?_⟩) (by assumption) ?_
        rotate_left
        · (intro W hSw; skip; go_simp; try with_reducible rfl)
        simp only [Act.put, List.getElem_toArray, List.getElem_cons_zero, List.getElem_cons_succ, List.setIfInBounds_toArray, List.set_cons_zero, List.set_cons_succ]
        refine wpAnyH_take (i := 2) (v := ?_) rfl (by kernel_rfl) (by kernel_rfl) (by kernel_rfl) (fun _ _ _ h => h) (Or.inl ⟨by rfl, ?_⟩) (by assumption) ?_
        rotate_left
        · (intro W hSw; skip; go_simp; try with_reducible rfl)
        simp only [Act.put, List.getElem_toArray, List.getElem_cons_zero, List.getElem_cons_succ, List.setIfInBounds_toArray, List.set_cons_zero, List.set_cons_succ]
        refine wpAnyH_take (i := 3) (v := ?_) rfl (by kernel_rfl) (by kernel_rfl) (by kernel_rfl) (fun _ _ _ h => h) (Or.inl ⟨by rfl, ?_⟩) (by assumption) ?_
        rotate_left
        · (intro W hSw; skip; go_simp; try with_reducible rfl)
        simp only [Act.put, List.getElem_toArray, List.getElem_cons_zero, List.getElem_cons_succ, List.setIfInBounds_toArray, List.set_cons_zero, List.set_cons_succ]
        refine wpAnyH_take (i := 4) (v := ?_) rfl (by kernel_rfl) (by kernel_rfl) (by kernel_rfl) (fun _ _ _ h => h) (Or.inl ⟨by rfl, ?_⟩) (by assumption) ?_
        rotate_left
        · (intro W hSw; have s0 : Own W w2.heap.size 117 #[.pointer (some ⟨gr, 0, none⟩), .int .u32 (a), .int .i64 (hd), .int .u32 (id), .slice A2 n2 c2, .int .i64 (4), .int .i64 (2), .int .i64 (s), .slice D dn dc, .int .i64 (t)] := hSw; obtain ⟨q0, q1, q2, q3, q4, q5, q6, q7, q8, q9⟩ := own_10 s0; go_simp; try with_reducible rfl)
        simp only [Act.put, List.getElem_toArray, List.getElem_cons_zero, List.getElem_cons_succ, List.setIfInBounds_toArray, List.set_cons_zero, List.set_cons_succ]
        refine wpAnyH_ready (rs := [5]) (by kernel_rfl) (by simp) ?_
        refine (AllReadyH.cons rfl (fun K hK => ?_) AllReadyH.nil)
        obtain ⟨e0, e1, e2, e3⟩ := own_end O1
        have f0 := O1.frozen 0
        have f1 := O1.frozen 1
        have f2 := O1.frozen 2
        have f3 := O1.frozen 3
        go_simp
        rw [show ((((Y.setCell ⟨w.heap.size, 0, none⟩ (.int .u32 0)).setCell ⟨w.heap.size, 1, none⟩ (.int .i64 0)).setCell ⟨w.heap.size, 2, none⟩ (.int .u32 0)).setCell ⟨w.heap.size, 3, none⟩ (.slice none 0 0)) = sets4P Y w.heap.size (.int .u32 0) (.int .i64 0) (.int .u32 0) (.slice none 0 0) from rfl]
        have P1 := sets4P_own (a := .int .u32 0) (b := .int .i64 0) (c := .int .u32 0) (d := .slice none 0 0) O1
        have P2 := sets4P_far (g := w.heap.size) (a := .int .u32 0) (b := .int .i64 0) (c := .int .u32 0) (d := .slice none 0 0) O2 (by omega)
        have P3 := sets4P_far (g := w.heap.size) (a := .int .u32 0) (b := .int .i64 0) (c := .int .u32 0) (d := .slice none 0 0) HO (by have := HLO.out; have := HGR.out; omega)
        have P4 := sets4P_below (g := w.heap.size) (a := .int .u32 0) (b := .int .i64 0) (c := .int .u32 0) (d := .slice none 0 0) hb6 (Nat.le_refl _)
        have P5 := (sets4P_bytes (a := .int .u32 0) (b := .int .i64 0) (c := .int .u32 0) (d := .slice none 0 0) HBd O1 (by intro i z; rcases i with _ | _ | _ | _ | i <;> simp) (by simp) (by simp) (by simp)).more (B' := (sets4P Y w.heap.size (.int .u32 0) (.int .i64 0) (.int .u32 0) (.slice none 0 0)).heap.size) (by rw [sets4P_size]; exact Nat.le_refl _)
        clear e0 e1 e2 e3 f0 f1 f2 f3 O1 O2 HO hb6 HBd
        generalize sets4P Y w.heap.size (.int .u32 0) (.int .i64 0) (.int .u32 0) (.slice none 0 0) = Y1 at *
        refine hK.out _ _ P3 (fun hHeld2 => ?_)
        clear hK K hHeld
        have hHeld := hHeld2
        clear hHeld2
        try simp only [Act.put, List.getElem_toArray, List.getElem_cons_zero, List.getElem_cons_succ, List.setIfInBounds_toArray, List.set_cons_zero, List.set_cons_succ]
        refine wpAnyH_ready (rs := [6]) (by kernel_rfl) (by simp) ?_
        refine (AllReadyH.cons rfl (fun K hK => ?_) AllReadyH.nil)
        obtain ⟨e0, e1, e2, e3, e4⟩ := own_5 P2
        have f0 := P2.frozen 0
        have f1 := P2.frozen 1
        have f2 := P2.frozen 2
        have f3 := P2.frozen 3
        have f4 := P2.frozen 4
        go_simp
        rw [show (((((Y1.setCell ⟨w.heap.size + 1, 0, none⟩ (.int .i64 4)).setCell ⟨w.heap.size + 1, 1, none⟩ (.int .i64 2)).setCell ⟨w.heap.size + 1, 2, none⟩ (.int .i64 s)).setCell ⟨w.heap.size + 1, 3, none⟩ (.slice D dn dc)).setCell ⟨w.heap.size + 1, 4, none⟩ (.int .i64 t)) = sets5P Y1 (w.heap.size + 1) (.int .i64 4) (.int .i64 2) (.int .i64 s) (.slice D dn dc) (.int .i64 t) from rfl]
        have Q1 := sets5P_far (g := w.heap.size + 1) (a := .int .i64 4) (b := .int .i64 2) (c := .int .i64 s) (d := .slice D dn dc) (e := .int .i64 t) P1 (by omega)
        have Q2 := sets5P_own (a := .int .i64 4) (b := .int .i64 2) (c := .int .i64 s) (d := .slice D dn dc) (e := .int .i64 t) P2
        have Q3 := sets5P_far (g := w.heap.size + 1) (a := .int .i64 4) (b := .int .i64 2) (c := .int .i64 s) (d := .slice D dn dc) (e := .int .i64 t) P3 (by have := HLO.out; have := HGR.out; omega)
        have Q4 := sets5P_below (g := w.heap.size + 1) (a := .int .i64 4) (b := .int .i64 2) (c := .int .i64 s) (d := .slice D dn dc) (e := .int .i64 t) P4 (by omega)
        have Q5 := (sets5P_bytes (a := .int .i64 4) (b := .int .i64 2) (c := .int .i64 s) (d := .slice D dn dc) (e := .int .i64 t) P5 P2 (by intro i z; rcases i with _ | _ | _ | _ | _ | i <;> simp) (by simp) (by simp) (by simp) (by simp)).more (B' := (sets5P Y1 (w.heap.size + 1) (.int .i64 4) (.int .i64 2) (.int .i64 s) (.slice D dn dc) (.int .i64 t)).heap.size) (by rw [sets5P_size]; exact Nat.le_refl _)
        clear e0 e1 e2 e3 e4 f0 f1 f2 f3 f4 P1 P2 P3 P4 P5
        generalize sets5P Y1 (w.heap.size + 1) (.int .i64 4) (.int .i64 2) (.int .i64 s) (.slice D dn dc) (.int .i64 t) = Y2 at *
        refine hK.out _ _ Q3 (fun hHeld2 => ?_)
        clear hK K hHeld
        have hHeld := hHeld2
        clear hHeld2
        try simp only [Act.put, List.getElem_toArray, List.getElem_cons_zero, List.getElem_cons_succ, List.setIfInBounds_toArray, List.set_cons_zero, List.set_cons_succ]
        refine wpAnyH_done (by kernel_rfl) ?_ _
        go_wp2
        exact bodyPost_ret (results_twoN (p := 2) (q := 3) (fn := Tryd.f31) rfl _ _ w.heap.size 47 _ _ (w.heap.size + 1) 55 _ _ rfl Q1 op_descP rfl (op_infoP _ _ _ _) rfl Q2 ve_descN rfl (ve_infoN _ _ _ _ _)) rfl (.inl ⟨s, t, ds, D, dn, dc, hsp, rfl, Q5, Q4⟩)
    · have hix := nidxP3 w2.heap.size
      have hC := Lib.hid (pstep_3 bs w2.heap.size w2.heap.size gr wr hs (by have := HGR.out; omega) (Nat.le_refl _) hl)
      clear hs
      go_wp2_with fail
      refine hC.out.mono ?_
      rintro e w3 ⟨⟨u, rfl⟩, ⟨hs2, hb2, hz2⟩ | ⟨s, t, ds, hsp, a, hd, id, A2, n2, c2, D, dn, dc, ho, hB, hb2, hz2⟩⟩
      · have hkd := pst_kind hs2
        have o1 := oR.below hb2 (by have := HLO.out; omega)
        have o2 := oV.below hb2 (by have := HLO.out; omega)
        have hb5 := hb.trans (hb2.mono (by have := HLO.out; omega))
        clear oR oV hb hC
        go_wp2
        go_roundw
        case rel => exact ⟨4, by omega, by go_num, hs2, o1, o2, hb5, by omega⟩
        case measure => simp [intOf]
      · have o1 := oR.below hb2 (by have := HLO.out; omega)
        have o2 := oV.below hb2 (by have := HLO.out; omega)
        have hb5 := hb.trans (hb2.mono (by have := HLO.out; omega))
        clear oR oV hb hC
        obtain ⟨q0, q1, q2, q3, q4, q5, q6, q7, q8, q9⟩ := own_10 ho
        go_upto_region 8 with fail
        clear q0 q1 q2 q3 q4 q5 q6 q7 q8 q9
        refine wp_region_held_drew (S := (fun X => Own X w2.heap.size 117 #[.pointer (some ⟨gr, 0, none⟩), .int .u32 (a), .int .i64 (hd), .int .u32 (id), .slice A2 n2 c2, .int .i64 (4), .int .i64 (2), .int .i64 (s), .slice D dn dc, .int .i64 (t)])) (by kernel_rfl) ho.drew (fun hHeld => ?_)
        have O1 := o1.drew
        have O2 := o2.drew
        have HO := ho.drew
        have HBd : Bytes w3.drew w3.drew.heap.size D dn ds := hB.drewN 1
        have hb6 : Below w.heap.size w w3.drew := bl_drewN hb5 1
        clear o1 o2 ho hB hb5 hb2
        generalize w3.drew = Y at *
        refine wpAnyH_take (i := 0) (v := ?_) rfl (by kernel_rfl) (by kernel_rfl) (by kernel_rfl) (fun _ _ _ h => h) (Or.inl ⟨by rfl, ?_⟩) (by assumption) ?_
        rotate_left
        · (intro W hSw; skip; go_simp; try with_reducible rfl)
        simp only [Act.put, List.getElem_toArray, List.getElem_cons_zero, List.setIfInBounds_toArray, List.set_cons_zero, List.set_cons_succ]
        refine wpAnyH_take (i := 1) (v := ?_) rfl (by kernel_rfl) (by kernel_rfl) (by kernel_rfl) (fun _ _ _ h => h) (Or.inl ⟨by rfl, ?_⟩) (by assumption) ?_
        rotate_left
        · (intro W hSw; skip; go_simp; try with_reducible rfl)
        simp only [Act.put, List.getElem_toArray, List.getElem_cons_zero, List.getElem_cons_succ, List.setIfInBounds_toArray, List.set_cons_zero, List.set_cons_succ]
        refine wpAnyH_take (i := 2) (v := ?_) rfl (by kernel_rfl) (by kernel_rfl) (by kernel_rfl) (fun _ _ _ h => h) (Or.inl ⟨by rfl, ?_⟩) (by assumption) ?_
        rotate_left
        · (intro W hSw; skip; go_simp; try with_reducible rfl)
        simp only [Act.put, List.getElem_toArray, List.getElem_cons_zero, List.getElem_cons_succ, List.setIfInBounds_toArray, List.set_cons_zero, List.set_cons_succ]
        refine wpAnyH_take (i := 3) (v := ?_) rfl (by kernel_rfl) (by kernel_rfl) (by kernel_rfl) (fun _ _ _ h => h) (Or.inl ⟨by rfl, ?_⟩) (by assumption) ?_
        rotate_left
        · (intro W hSw; skip; go_simp; try with_reducible rfl)
        simp only [Act.put, List.getElem_toArray, List.getElem_cons_zero, List.getElem_cons_succ, List.setIfInBounds_toArray, List.set_cons_zero, List.set_cons_succ]
        refine wpAnyH_take (i := 4) (v := ?_) rfl (by kernel_rfl) (by kernel_rfl) (by kernel_rfl) (fun _ _ _ h => h) (Or.inl ⟨by rfl, ?_⟩) (by assumption) ?_
        rotate_left
        · (intro W hSw; have s0 : Own W w2.heap.size 117 #[.pointer (some ⟨gr, 0, none⟩), .int .u32 (a), .int .i64 (hd), .int .u32 (id), .slice A2 n2 c2, .int .i64 (4), .int .i64 (2), .int .i64 (s), .slice D dn dc, .int .i64 (t)] := hSw; obtain ⟨q0, q1, q2, q3, q4, q5, q6, q7, q8, q9⟩ := own_10 s0; go_simp; try with_reducible rfl)
        simp only [Act.put, List.getElem_toArray, List.getElem_cons_zero, List.getElem_cons_succ, List.setIfInBounds_toArray, List.set_cons_zero, List.set_cons_succ]
        refine wpAnyH_ready (rs := [5]) (by kernel_rfl) (by simp) ?_
        refine (AllReadyH.cons rfl (fun K hK => ?_) AllReadyH.nil)
        obtain ⟨e0, e1, e2, e3⟩ := own_end O1
        have f0 := O1.frozen 0
        have f1 := O1.frozen 1
        have f2 := O1.frozen 2
        have f3 := O1.frozen 3
        go_simp
        rw [show ((((Y.setCell ⟨w.heap.size, 0, none⟩ (.int .u32 0)).setCell ⟨w.heap.size, 1, none⟩ (.int .i64 0)).setCell ⟨w.heap.size, 2, none⟩ (.int .u32 0)).setCell ⟨w.heap.size, 3, none⟩ (.slice none 0 0)) = sets4P Y w.heap.size (.int .u32 0) (.int .i64 0) (.int .u32 0) (.slice none 0 0) from rfl]
        have P1 := sets4P_own (a := .int .u32 0) (b := .int .i64 0) (c := .int .u32 0) (d := .slice none 0 0) O1
        have P2 := sets4P_far (g := w.heap.size) (a := .int .u32 0) (b := .int .i64 0) (c := .int .u32 0) (d := .slice none 0 0) O2 (by omega)
        have P3 := sets4P_far (g := w.heap.size) (a := .int .u32 0) (b := .int .i64 0) (c := .int .u32 0) (d := .slice none 0 0) HO (by have := HLO.out; have := HGR.out; omega)
        have P4 := sets4P_below (g := w.heap.size) (a := .int .u32 0) (b := .int .i64 0) (c := .int .u32 0) (d := .slice none 0 0) hb6 (Nat.le_refl _)
        have P5 := (sets4P_bytes (a := .int .u32 0) (b := .int .i64 0) (c := .int .u32 0) (d := .slice none 0 0) HBd O1 (by intro i z; rcases i with _ | _ | _ | _ | i <;> simp) (by simp) (by simp) (by simp)).more (B' := (sets4P Y w.heap.size (.int .u32 0) (.int .i64 0) (.int .u32 0) (.slice none 0 0)).heap.size) (by rw [sets4P_size]; exact Nat.le_refl _)
        clear e0 e1 e2 e3 f0 f1 f2 f3 O1 O2 HO hb6 HBd
        generalize sets4P Y w.heap.size (.int .u32 0) (.int .i64 0) (.int .u32 0) (.slice none 0 0) = Y1 at *
        refine hK.out _ _ P3 (fun hHeld2 => ?_)
        clear hK K hHeld
        have hHeld := hHeld2
        clear hHeld2
        try simp only [Act.put, List.getElem_toArray, List.getElem_cons_zero, List.getElem_cons_succ, List.setIfInBounds_toArray, List.set_cons_zero, List.set_cons_succ]
        refine wpAnyH_ready (rs := [6]) (by kernel_rfl) (by simp) ?_
        refine (AllReadyH.cons rfl (fun K hK => ?_) AllReadyH.nil)
        obtain ⟨e0, e1, e2, e3, e4⟩ := own_5 P2
        have f0 := P2.frozen 0
        have f1 := P2.frozen 1
        have f2 := P2.frozen 2
        have f3 := P2.frozen 3
        have f4 := P2.frozen 4
        go_simp
        rw [show (((((Y1.setCell ⟨w.heap.size + 1, 0, none⟩ (.int .i64 4)).setCell ⟨w.heap.size + 1, 1, none⟩ (.int .i64 2)).setCell ⟨w.heap.size + 1, 2, none⟩ (.int .i64 s)).setCell ⟨w.heap.size + 1, 3, none⟩ (.slice D dn dc)).setCell ⟨w.heap.size + 1, 4, none⟩ (.int .i64 t)) = sets5P Y1 (w.heap.size + 1) (.int .i64 4) (.int .i64 2) (.int .i64 s) (.slice D dn dc) (.int .i64 t) from rfl]
        have Q1 := sets5P_far (g := w.heap.size + 1) (a := .int .i64 4) (b := .int .i64 2) (c := .int .i64 s) (d := .slice D dn dc) (e := .int .i64 t) P1 (by omega)
        have Q2 := sets5P_own (a := .int .i64 4) (b := .int .i64 2) (c := .int .i64 s) (d := .slice D dn dc) (e := .int .i64 t) P2
        have Q3 := sets5P_far (g := w.heap.size + 1) (a := .int .i64 4) (b := .int .i64 2) (c := .int .i64 s) (d := .slice D dn dc) (e := .int .i64 t) P3 (by have := HLO.out; have := HGR.out; omega)
        have Q4 := sets5P_below (g := w.heap.size + 1) (a := .int .i64 4) (b := .int .i64 2) (c := .int .i64 s) (d := .slice D dn dc) (e := .int .i64 t) P4 (by omega)
        have Q5 := (sets5P_bytes (a := .int .i64 4) (b := .int .i64 2) (c := .int .i64 s) (d := .slice D dn dc) (e := .int .i64 t) P5 P2 (by intro i z; rcases i with _ | _ | _ | _ | _ | i <;> simp) (by simp) (by simp) (by simp) (by simp)).more (B' := (sets5P Y1 (w.heap.size + 1) (.int .i64 4) (.int .i64 2) (.int .i64 s) (.slice D dn dc) (.int .i64 t)).heap.size) (by rw [sets5P_size]; exact Nat.le_refl _)
        clear e0 e1 e2 e3 e4 f0 f1 f2 f3 f4 P1 P2 P3 P4 P5
        generalize sets5P Y1 (w.heap.size + 1) (.int .i64 4) (.int .i64 2) (.int .i64 s) (.slice D dn dc) (.int .i64 t) = Y2 at *
        refine hK.out _ _ Q3 (fun hHeld2 => ?_)
        clear hK K hHeld
        have hHeld := hHeld2
        clear hHeld2
        try simp only [Act.put, List.getElem_toArray, List.getElem_cons_zero, List.getElem_cons_succ, List.setIfInBounds_toArray, List.set_cons_zero, List.set_cons_succ]
        refine wpAnyH_done (by kernel_rfl) ?_ _
        go_wp2
        exact bodyPost_ret (results_twoN (p := 2) (q := 3) (fn := Tryd.f31) rfl _ _ w.heap.size 47 _ _ (w.heap.size + 1) 55 _ _ rfl Q1 op_descP rfl (op_infoP _ _ _ _) rfl Q2 ve_descN rfl (ve_infoN _ _ _ _ _)) rfl (.inl ⟨s, t, ds, D, dn, dc, hsp, rfl, Q5, Q4⟩)
    · have hix := nidxP4 w2.heap.size
      have hC := Lib.hid (pstep_4 bs w2.heap.size w2.heap.size gr wr hs (by have := HGR.out; omega) (Nat.le_refl _) hl)
      clear hs
      go_wp2_with fail
      refine hC.out.mono ?_
      rintro e w3 ⟨⟨u, rfl⟩, ⟨hs2, hb2, hz2⟩ | ⟨s, t, ds, hsp, a, hd, id, A2, n2, c2, D, dn, dc, ho, hB, hb2, hz2⟩⟩
      · have hkd := pst_kind hs2
        have o1 := oR.below hb2 (by have := HLO.out; omega)
        have o2 := oV.below hb2 (by have := HLO.out; omega)
        have hb5 := hb.trans (hb2.mono (by have := HLO.out; omega))
        clear oR oV hb hC
        go_wp2
        go_roundw
        case rel => exact ⟨5, by omega, by go_num, hs2, o1, o2, hb5, by omega⟩
        case measure => simp [intOf]
      · have o1 := oR.below hb2 (by have := HLO.out; omega)
        have o2 := oV.below hb2 (by have := HLO.out; omega)
        have hb5 := hb.trans (hb2.mono (by have := HLO.out; omega))
        clear oR oV hb hC
        obtain ⟨q0, q1, q2, q3, q4, q5, q6, q7, q8, q9⟩ := own_10 ho
        go_upto_region 8 with fail
        clear q0 q1 q2 q3 q4 q5 q6 q7 q8 q9
        refine wp_region_held_drew (S := (fun X => Own X w2.heap.size 117 #[.pointer (some ⟨gr, 0, none⟩), .int .u32 (a), .int .i64 (hd), .int .u32 (id), .slice A2 n2 c2, .int .i64 (4), .int .i64 (2), .int .i64 (s), .slice D dn dc, .int .i64 (t)])) (by kernel_rfl) ho.drew (fun hHeld => ?_)
        have O1 := o1.drew
        have O2 := o2.drew
        have HO := ho.drew
        have HBd : Bytes w3.drew w3.drew.heap.size D dn ds := hB.drewN 1
        have hb6 : Below w.heap.size w w3.drew := bl_drewN hb5 1
        clear o1 o2 ho hB hb5 hb2
        generalize w3.drew = Y at *
        refine wpAnyH_take (i := 0) (v := ?_) rfl (by kernel_rfl) (by kernel_rfl) (by kernel_rfl) (fun _ _ _ h => h) (Or.inl ⟨by rfl, ?_⟩) (by assumption) ?_
        rotate_left
        · (intro W hSw; skip; go_simp; try with_reducible rfl)
        simp only [Act.put, List.getElem_toArray, List.getElem_cons_zero, List.setIfInBounds_toArray, List.set_cons_zero, List.set_cons_succ]
        refine wpAnyH_take (i := 1) (v := ?_) rfl (by kernel_rfl) (by kernel_rfl) (by kernel_rfl) (fun _ _ _ h => h) (Or.inl ⟨by rfl, ?_⟩) (by assumption) ?_
        rotate_left
        · (intro W hSw; skip; go_simp; try with_reducible rfl)
        simp only [Act.put, List.getElem_toArray, List.getElem_cons_zero, List.getElem_cons_succ, List.setIfInBounds_toArray, List.set_cons_zero, List.set_cons_succ]
        refine wpAnyH_take (i := 2) (v := ?_) rfl (by kernel_rfl) (by kernel_rfl) (by kernel_rfl) (fun _ _ _ h => h) (Or.inl ⟨by rfl, ?_⟩) (by assumption) ?_
        rotate_left
        · (intro W hSw; skip; go_simp; try with_reducible rfl)
        simp only [Act.put, List.getElem_toArray, List.getElem_cons_zero, List.getElem_cons_succ, List.setIfInBounds_toArray, List.set_cons_zero, List.set_cons_succ]
        refine wpAnyH_take (i := 3) (v := ?_) rfl (by kernel_rfl) (by kernel_rfl) (by kernel_rfl) (fun _ _ _ h => h) (Or.inl ⟨by rfl, ?_⟩) (by assumption) ?_
        rotate_left
        · (intro W hSw; skip; go_simp; try with_reducible rfl)
        simp only [Act.put, List.getElem_toArray, List.getElem_cons_zero, List.getElem_cons_succ, List.setIfInBounds_toArray, List.set_cons_zero, List.set_cons_succ]
        refine wpAnyH_take (i := 4) (v := ?_) rfl (by kernel_rfl) (by kernel_rfl) (by kernel_rfl) (fun _ _ _ h => h) (Or.inl ⟨by rfl, ?_⟩) (by assumption) ?_
        rotate_left
        · (intro W hSw; have s0 : Own W w2.heap.size 117 #[.pointer (some ⟨gr, 0, none⟩), .int .u32 (a), .int .i64 (hd), .int .u32 (id), .slice A2 n2 c2, .int .i64 (4), .int .i64 (2), .int .i64 (s), .slice D dn dc, .int .i64 (t)] := hSw; obtain ⟨q0, q1, q2, q3, q4, q5, q6, q7, q8, q9⟩ := own_10 s0; go_simp; try with_reducible rfl)
        simp only [Act.put, List.getElem_toArray, List.getElem_cons_zero, List.getElem_cons_succ, List.setIfInBounds_toArray, List.set_cons_zero, List.set_cons_succ]
        refine wpAnyH_ready (rs := [5]) (by kernel_rfl) (by simp) ?_
        refine (AllReadyH.cons rfl (fun K hK => ?_) AllReadyH.nil)
        obtain ⟨e0, e1, e2, e3⟩ := own_end O1
        have f0 := O1.frozen 0
        have f1 := O1.frozen 1
        have f2 := O1.frozen 2
        have f3 := O1.frozen 3
        go_simp
        rw [show ((((Y.setCell ⟨w.heap.size, 0, none⟩ (.int .u32 0)).setCell ⟨w.heap.size, 1, none⟩ (.int .i64 0)).setCell ⟨w.heap.size, 2, none⟩ (.int .u32 0)).setCell ⟨w.heap.size, 3, none⟩ (.slice none 0 0)) = sets4P Y w.heap.size (.int .u32 0) (.int .i64 0) (.int .u32 0) (.slice none 0 0) from rfl]
        have P1 := sets4P_own (a := .int .u32 0) (b := .int .i64 0) (c := .int .u32 0) (d := .slice none 0 0) O1
        have P2 := sets4P_far (g := w.heap.size) (a := .int .u32 0) (b := .int .i64 0) (c := .int .u32 0) (d := .slice none 0 0) O2 (by omega)
        have P3 := sets4P_far (g := w.heap.size) (a := .int .u32 0) (b := .int .i64 0) (c := .int .u32 0) (d := .slice none 0 0) HO (by have := HLO.out; have := HGR.out; omega)
        have P4 := sets4P_below (g := w.heap.size) (a := .int .u32 0) (b := .int .i64 0) (c := .int .u32 0) (d := .slice none 0 0) hb6 (Nat.le_refl _)
        have P5 := (sets4P_bytes (a := .int .u32 0) (b := .int .i64 0) (c := .int .u32 0) (d := .slice none 0 0) HBd O1 (by intro i z; rcases i with _ | _ | _ | _ | i <;> simp) (by simp) (by simp) (by simp)).more (B' := (sets4P Y w.heap.size (.int .u32 0) (.int .i64 0) (.int .u32 0) (.slice none 0 0)).heap.size) (by rw [sets4P_size]; exact Nat.le_refl _)
        clear e0 e1 e2 e3 f0 f1 f2 f3 O1 O2 HO hb6 HBd
        generalize sets4P Y w.heap.size (.int .u32 0) (.int .i64 0) (.int .u32 0) (.slice none 0 0) = Y1 at *
        refine hK.out _ _ P3 (fun hHeld2 => ?_)
        clear hK K hHeld
        have hHeld := hHeld2
        clear hHeld2
        try simp only [Act.put, List.getElem_toArray, List.getElem_cons_zero, List.getElem_cons_succ, List.setIfInBounds_toArray, List.set_cons_zero, List.set_cons_succ]
        refine wpAnyH_ready (rs := [6]) (by kernel_rfl) (by simp) ?_
        refine (AllReadyH.cons rfl (fun K hK => ?_) AllReadyH.nil)
        obtain ⟨e0, e1, e2, e3, e4⟩ := own_5 P2
        have f0 := P2.frozen 0
        have f1 := P2.frozen 1
        have f2 := P2.frozen 2
        have f3 := P2.frozen 3
        have f4 := P2.frozen 4
        go_simp
        rw [show (((((Y1.setCell ⟨w.heap.size + 1, 0, none⟩ (.int .i64 4)).setCell ⟨w.heap.size + 1, 1, none⟩ (.int .i64 2)).setCell ⟨w.heap.size + 1, 2, none⟩ (.int .i64 s)).setCell ⟨w.heap.size + 1, 3, none⟩ (.slice D dn dc)).setCell ⟨w.heap.size + 1, 4, none⟩ (.int .i64 t)) = sets5P Y1 (w.heap.size + 1) (.int .i64 4) (.int .i64 2) (.int .i64 s) (.slice D dn dc) (.int .i64 t) from rfl]
        have Q1 := sets5P_far (g := w.heap.size + 1) (a := .int .i64 4) (b := .int .i64 2) (c := .int .i64 s) (d := .slice D dn dc) (e := .int .i64 t) P1 (by omega)
        have Q2 := sets5P_own (a := .int .i64 4) (b := .int .i64 2) (c := .int .i64 s) (d := .slice D dn dc) (e := .int .i64 t) P2
        have Q3 := sets5P_far (g := w.heap.size + 1) (a := .int .i64 4) (b := .int .i64 2) (c := .int .i64 s) (d := .slice D dn dc) (e := .int .i64 t) P3 (by have := HLO.out; have := HGR.out; omega)
        have Q4 := sets5P_below (g := w.heap.size + 1) (a := .int .i64 4) (b := .int .i64 2) (c := .int .i64 s) (d := .slice D dn dc) (e := .int .i64 t) P4 (by omega)
        have Q5 := (sets5P_bytes (a := .int .i64 4) (b := .int .i64 2) (c := .int .i64 s) (d := .slice D dn dc) (e := .int .i64 t) P5 P2 (by intro i z; rcases i with _ | _ | _ | _ | _ | i <;> simp) (by simp) (by simp) (by simp) (by simp)).more (B' := (sets5P Y1 (w.heap.size + 1) (.int .i64 4) (.int .i64 2) (.int .i64 s) (.slice D dn dc) (.int .i64 t)).heap.size) (by rw [sets5P_size]; exact Nat.le_refl _)
        clear e0 e1 e2 e3 e4 f0 f1 f2 f3 f4 P1 P2 P3 P4 P5
        generalize sets5P Y1 (w.heap.size + 1) (.int .i64 4) (.int .i64 2) (.int .i64 s) (.slice D dn dc) (.int .i64 t) = Y2 at *
        refine hK.out _ _ Q3 (fun hHeld2 => ?_)
        clear hK K hHeld
        have hHeld := hHeld2
        clear hHeld2
        try simp only [Act.put, List.getElem_toArray, List.getElem_cons_zero, List.getElem_cons_succ, List.setIfInBounds_toArray, List.set_cons_zero, List.set_cons_succ]
        refine wpAnyH_done (by kernel_rfl) ?_ _
        go_wp2
        exact bodyPost_ret (results_twoN (p := 2) (q := 3) (fn := Tryd.f31) rfl _ _ w.heap.size 47 _ _ (w.heap.size + 1) 55 _ _ rfl Q1 op_descP rfl (op_infoP _ _ _ _) rfl Q2 ve_descN rfl (ve_infoN _ _ _ _ _)) rfl (.inl ⟨s, t, ds, D, dn, dc, hsp, rfl, Q5, Q4⟩)
    · have hix := nidxP5 w2.heap.size
      have hC := Lib.hid (pstep_5 bs w2.heap.size w2.heap.size gr wr hs (by have := HGR.out; omega) (Nat.le_refl _) hl)
      clear hs
      go_wp2_with fail
      refine hC.out.mono ?_
      rintro e w3 ⟨⟨u, rfl⟩, ⟨hs2, hb2, hz2⟩ | ⟨s, t, ds, hsp, a, hd, id, A2, n2, c2, D, dn, dc, ho, hB, hb2, hz2⟩⟩
      · have hkd := pst_kind hs2
        have o1 := oR.below hb2 (by have := HLO.out; omega)
        have o2 := oV.below hb2 (by have := HLO.out; omega)
        have hb5 := hb.trans (hb2.mono (by have := HLO.out; omega))
        clear oR oV hb hC
        go_wp2
        go_roundw
        case rel => exact ⟨6, by omega, by go_num, hs2, o1, o2, hb5, by omega⟩
        case measure => simp [intOf]
      · have o1 := oR.below hb2 (by have := HLO.out; omega)
        have o2 := oV.below hb2 (by have := HLO.out; omega)
        have hb5 := hb.trans (hb2.mono (by have := HLO.out; omega))
        clear oR oV hb hC
        obtain ⟨q0, q1, q2, q3, q4, q5, q6, q7, q8, q9⟩ := own_10 ho
        go_upto_region 8 with fail
        clear q0 q1 q2 q3 q4 q5 q6 q7 q8 q9
        refine wp_region_held_drew (S := (fun X => Own X w2.heap.size 117 #[.pointer (some ⟨gr, 0, none⟩), .int .u32 (a), .int .i64 (hd), .int .u32 (id), .slice A2 n2 c2, .int .i64 (4), .int .i64 (2), .int .i64 (s), .slice D dn dc, .int .i64 (t)])) (by kernel_rfl) ho.drew (fun hHeld => ?_)
        have O1 := o1.drew
        have O2 := o2.drew
        have HO := ho.drew
        have HBd : Bytes w3.drew w3.drew.heap.size D dn ds := hB.drewN 1
        have hb6 : Below w.heap.size w w3.drew := bl_drewN hb5 1
        clear o1 o2 ho hB hb5 hb2
        generalize w3.drew = Y at *
        refine wpAnyH_take (i := 0) (v := ?_) rfl (by kernel_rfl) (by kernel_rfl) (by kernel_rfl) (fun _ _ _ h => h) (Or.inl ⟨by rfl, ?_⟩) (by assumption) ?_
        rotate_left
        · (intro W hSw; skip; go_simp; try with_reducible rfl)
        simp only [Act.put, List.getElem_toArray, List.getElem_cons_zero, List.setIfInBounds_toArray, List.set_cons_zero, List.set_cons_succ]
        refine wpAnyH_take (i := 1) (v := ?_) rfl (by kernel_rfl) (by kernel_rfl) (by kernel_rfl) (fun _ _ _ h => h) (Or.inl ⟨by rfl, ?_⟩) (by assumption) ?_
        rotate_left
        · (intro W hSw; skip; go_simp; try with_reducible rfl)
        simp only [Act.put, List.getElem_toArray, List.getElem_cons_zero, List.getElem_cons_succ, List.setIfInBounds_toArray, List.set_cons_zero, List.set_cons_succ]
        refine wpAnyH_take (i := 2) (v := ?_) rfl (by kernel_rfl) (by kernel_rfl) (by kernel_rfl) (fun _ _ _ h => h) (Or.inl ⟨by rfl, ?_⟩) (by assumption) ?_
        rotate_left
        · (intro W hSw; skip; go_simp; try with_reducible rfl)
        simp only [Act.put, List.getElem_toArray, List.getElem_cons_zero, List.getElem_cons_succ, List.setIfInBounds_toArray, List.set_cons_zero, List.set_cons_succ]
        refine wpAnyH_take (i := 3) (v := ?_) rfl (by kernel_rfl) (by kernel_rfl) (by kernel_rfl) (fun _ _ _ h => h) (Or.inl ⟨by rfl, ?_⟩) (by assumption) ?_
        rotate_left
        · (intro W hSw; skip; go_simp; try with_reducible rfl)
        simp only [Act.put, List.getElem_toArray, List.getElem_cons_zero, List.getElem_cons_succ, List.setIfInBounds_toArray, List.set_cons_zero, List.set_cons_succ]
        refine wpAnyH_take (i := 4) (v := ?_) rfl (by kernel_rfl) (by kernel_rfl) (by kernel_rfl) (fun _ _ _ h => h) (Or.inl ⟨by rfl, ?_⟩) (by assumption) ?_
        rotate_left
        · (intro W hSw; have s0 : Own W w2.heap.size 117 #[.pointer (some ⟨gr, 0, none⟩), .int .u32 (a), .int .i64 (hd), .int .u32 (id), .slice A2 n2 c2, .int .i64 (4), .int .i64 (2), .int .i64 (s), .slice D dn dc, .int .i64 (t)] := hSw; obtain ⟨q0, q1, q2, q3, q4, q5, q6, q7, q8, q9⟩ := own_10 s0; go_simp; try with_reducible rfl)
        simp only [Act.put, List.getElem_toArray, List.getElem_cons_zero, List.getElem_cons_succ, List.setIfInBounds_toArray, List.set_cons_zero, List.set_cons_succ]
        refine wpAnyH_ready (rs := [5]) (by kernel_rfl) (by simp) ?_
        refine (AllReadyH.cons rfl (fun K hK => ?_) AllReadyH.nil)
        obtain ⟨e0, e1, e2, e3⟩ := own_end O1
        have f0 := O1.frozen 0
        have f1 := O1.frozen 1
        have f2 := O1.frozen 2
        have f3 := O1.frozen 3
        go_simp
        rw [show ((((Y.setCell ⟨w.heap.size, 0, none⟩ (.int .u32 0)).setCell ⟨w.heap.size, 1, none⟩ (.int .i64 0)).setCell ⟨w.heap.size, 2, none⟩ (.int .u32 0)).setCell ⟨w.heap.size, 3, none⟩ (.slice none 0 0)) = sets4P Y w.heap.size (.int .u32 0) (.int .i64 0) (.int .u32 0) (.slice none 0 0) from rfl]
        have P1 := sets4P_own (a := .int .u32 0) (b := .int .i64 0) (c := .int .u32 0) (d := .slice none 0 0) O1
        have P2 := sets4P_far (g := w.heap.size) (a := .int .u32 0) (b := .int .i64 0) (c := .int .u32 0) (d := .slice none 0 0) O2 (by omega)
        have P3 := sets4P_far (g := w.heap.size) (a := .int .u32 0) (b := .int .i64 0) (c := .int .u32 0) (d := .slice none 0 0) HO (by have := HLO.out; have := HGR.out; omega)
        have P4 := sets4P_below (g := w.heap.size) (a := .int .u32 0) (b := .int .i64 0) (c := .int .u32 0) (d := .slice none 0 0) hb6 (Nat.le_refl _)
        have P5 := (sets4P_bytes (a := .int .u32 0) (b := .int .i64 0) (c := .int .u32 0) (d := .slice none 0 0) HBd O1 (by intro i z; rcases i with _ | _ | _ | _ | i <;> simp) (by simp) (by simp) (by simp)).more (B' := (sets4P Y w.heap.size (.int .u32 0) (.int .i64 0) (.int .u32 0) (.slice none 0 0)).heap.size) (by rw [sets4P_size]; exact Nat.le_refl _)
        clear e0 e1 e2 e3 f0 f1 f2 f3 O1 O2 HO hb6 HBd
        generalize sets4P Y w.heap.size (.int .u32 0) (.int .i64 0) (.int .u32 0) (.slice none 0 0) = Y1 at *
        refine hK.out _ _ P3 (fun hHeld2 => ?_)
        clear hK K hHeld
        have hHeld := hHeld2
        clear hHeld2
        try simp only [Act.put, List.getElem_toArray, List.getElem_cons_zero, List.getElem_cons_succ, List.setIfInBounds_toArray, List.set_cons_zero, List.set_cons_succ]
        refine wpAnyH_ready (rs := [6]) (by kernel_rfl) (by simp) ?_
        refine (AllReadyH.cons rfl (fun K hK => ?_) AllReadyH.nil)
        obtain ⟨e0, e1, e2, e3, e4⟩ := own_5 P2
        have f0 := P2.frozen 0
        have f1 := P2.frozen 1
        have f2 := P2.frozen 2
        have f3 := P2.frozen 3
        have f4 := P2.frozen 4
        go_simp
        rw [show (((((Y1.setCell ⟨w.heap.size + 1, 0, none⟩ (.int .i64 4)).setCell ⟨w.heap.size + 1, 1, none⟩ (.int .i64 2)).setCell ⟨w.heap.size + 1, 2, none⟩ (.int .i64 s)).setCell ⟨w.heap.size + 1, 3, none⟩ (.slice D dn dc)).setCell ⟨w.heap.size + 1, 4, none⟩ (.int .i64 t)) = sets5P Y1 (w.heap.size + 1) (.int .i64 4) (.int .i64 2) (.int .i64 s) (.slice D dn dc) (.int .i64 t) from rfl]
        have Q1 := sets5P_far (g := w.heap.size + 1) (a := .int .i64 4) (b := .int .i64 2) (c := .int .i64 s) (d := .slice D dn dc) (e := .int .i64 t) P1 (by omega)
        have Q2 := sets5P_own (a := .int .i64 4) (b := .int .i64 2) (c := .int .i64 s) (d := .slice D dn dc) (e := .int .i64 t) P2
        have Q3 := sets5P_far (g := w.heap.size + 1) (a := .int .i64 4) (b := .int .i64 2) (c := .int .i64 s) (d := .slice D dn dc) (e := .int .i64 t) P3 (by have := HLO.out; have := HGR.out; omega)
        have Q4 := sets5P_below (g := w.heap.size + 1) (a := .int .i64 4) (b := .int .i64 2) (c := .int .i64 s) (d := .slice D dn dc) (e := .int .i64 t) P4 (by omega)
        have Q5 := (sets5P_bytes (a := .int .i64 4) (b := .int .i64 2) (c := .int .i64 s) (d := .slice D dn dc) (e := .int .i64 t) P5 P2 (by intro i z; rcases i with _ | _ | _ | _ | _ | i <;> simp) (by simp) (by simp) (by simp) (by simp)).more (B' := (sets5P Y1 (w.heap.size + 1) (.int .i64 4) (.int .i64 2) (.int .i64 s) (.slice D dn dc) (.int .i64 t)).heap.size) (by rw [sets5P_size]; exact Nat.le_refl _)
        clear e0 e1 e2 e3 e4 f0 f1 f2 f3 f4 P1 P2 P3 P4 P5
        generalize sets5P Y1 (w.heap.size + 1) (.int .i64 4) (.int .i64 2) (.int .i64 s) (.slice D dn dc) (.int .i64 t) = Y2 at *
        refine hK.out _ _ Q3 (fun hHeld2 => ?_)
        clear hK K hHeld
        have hHeld := hHeld2
        clear hHeld2
        try simp only [Act.put, List.getElem_toArray, List.getElem_cons_zero, List.getElem_cons_succ, List.setIfInBounds_toArray, List.set_cons_zero, List.set_cons_succ]
        refine wpAnyH_done (by kernel_rfl) ?_ _
        go_wp2
        exact bodyPost_ret (results_twoN (p := 2) (q := 3) (fn := Tryd.f31) rfl _ _ w.heap.size 47 _ _ (w.heap.size + 1) 55 _ _ rfl Q1 op_descP rfl (op_infoP _ _ _ _) rfl Q2 ve_descN rfl (ve_infoN _ _ _ _ _)) rfl (.inl ⟨s, t, ds, D, dn, dc, hsp, rfl, Q5, Q4⟩)
    · have hix := nidxP6 w2.heap.size
      have hC := Lib.hid (pstep_6 bs w2.heap.size w2.heap.size gr wr hs (by have := HGR.out; omega) (Nat.le_refl _) hl)
      clear hs
      go_wp2_with fail
      refine hC.out.mono ?_
      rintro e w3 ⟨⟨u, rfl⟩, ⟨hs2, hb2, hz2⟩ | ⟨s, t, ds, hsp, a, hd, id, A2, n2, c2, D, dn, dc, ho, hB, hb2, hz2⟩⟩
      · have hkd := pst_kind hs2
        have o1 := oR.below hb2 (by have := HLO.out; omega)
        have o2 := oV.below hb2 (by have := HLO.out; omega)
        have hb5 := hb.trans (hb2.mono (by have := HLO.out; omega))
        clear oR oV hb hC
        go_wp2
        go_roundw
        case rel => exact ⟨7, by omega, by go_num, hs2, o1, o2, hb5, by omega⟩
        case measure => simp [intOf]
      · have o1 := oR.below hb2 (by have := HLO.out; omega)
        have o2 := oV.below hb2 (by have := HLO.out; omega)
        have hb5 := hb.trans (hb2.mono (by have := HLO.out; omega))
        clear oR oV hb hC
        obtain ⟨q0, q1, q2, q3, q4, q5, q6, q7, q8, q9⟩ := own_10 ho
        go_upto_region 8 with fail
        clear q0 q1 q2 q3 q4 q5 q6 q7 q8 q9
        refine wp_region_held_drew (S := (fun X => Own X w2.heap.size 117 #[.pointer (some ⟨gr, 0, none⟩), .int .u32 (a), .int .i64 (hd), .int .u32 (id), .slice A2 n2 c2, .int .i64 (4), .int .i64 (2), .int .i64 (s), .slice D dn dc, .int .i64 (t)])) (by kernel_rfl) ho.drew (fun hHeld => ?_)
        have O1 := o1.drew
        have O2 := o2.drew
        have HO := ho.drew
        have HBd : Bytes w3.drew w3.drew.heap.size D dn ds := hB.drewN 1
        have hb6 : Below w.heap.size w w3.drew := bl_drewN hb5 1
        clear o1 o2 ho hB hb5 hb2
        generalize w3.drew = Y at *
        refine wpAnyH_take (i := 0) (v := ?_) rfl (by kernel_rfl) (by kernel_rfl) (by kernel_rfl) (fun _ _ _ h => h) (Or.inl ⟨by rfl, ?_⟩) (by assumption) ?_
        rotate_left
        · (intro W hSw; skip; go_simp; try with_reducible rfl)
        simp only [Act.put, List.getElem_toArray, List.getElem_cons_zero, List.setIfInBounds_toArray, List.set_cons_zero, List.set_cons_succ]
        refine wpAnyH_take (i := 1) (v := ?_) rfl (by kernel_rfl) (by kernel_rfl) (by kernel_rfl) (fun _ _ _ h => h) (Or.inl ⟨by rfl, ?_⟩) (by assumption) ?_
        rotate_left
        · (intro W hSw; skip; go_simp; try with_reducible rfl)
        simp only [Act.put, List.getElem_toArray, List.getElem_cons_zero, List.getElem_cons_succ, List.setIfInBounds_toArray, List.set_cons_zero, List.set_cons_succ]
        refine wpAnyH_take (i := 2) (v := ?_) rfl (by kernel_rfl) (by kernel_rfl) (by kernel_rfl) (fun _ _ _ h => h) (Or.inl ⟨by rfl, ?_⟩) (by assumption) ?_
        rotate_left
        · (intro W hSw; skip; go_simp; try with_reducible rfl)
        simp only [Act.put, List.getElem_toArray, List.getElem_cons_zero, List.getElem_cons_succ, List.setIfInBounds_toArray, List.set_cons_zero, List.set_cons_succ]
        refine wpAnyH_take (i := 3) (v := ?_) rfl (by kernel_rfl) (by kernel_rfl) (by kernel_rfl) (fun _ _ _ h => h) (Or.inl ⟨by rfl, ?_⟩) (by assumption) ?_
        rotate_left
        · (intro W hSw; skip; go_simp; try with_reducible rfl)
        simp only [Act.put, List.getElem_toArray, List.getElem_cons_zero, List.getElem_cons_succ, List.setIfInBounds_toArray, List.set_cons_zero, List.set_cons_succ]
        refine wpAnyH_take (i := 4) (v := ?_) rfl (by kernel_rfl) (by kernel_rfl) (by kernel_rfl) (fun _ _ _ h => h) (Or.inl ⟨by rfl, ?_⟩) (by assumption) ?_
        rotate_left
        · (intro W hSw; have s0 : Own W w2.heap.size 117 #[.pointer (some ⟨gr, 0, none⟩), .int .u32 (a), .int .i64 (hd), .int .u32 (id), .slice A2 n2 c2, .int .i64 (4), .int .i64 (2), .int .i64 (s), .slice D dn dc, .int .i64 (t)] := hSw; obtain ⟨q0, q1, q2, q3, q4, q5, q6, q7, q8, q9⟩ := own_10 s0; go_simp; try with_reducible rfl)
        simp only [Act.put, List.getElem_toArray, List.getElem_cons_zero, List.getElem_cons_succ, List.setIfInBounds_toArray, List.set_cons_zero, List.set_cons_succ]
        refine wpAnyH_ready (rs := [5]) (by kernel_rfl) (by simp) ?_
        refine (AllReadyH.cons rfl (fun K hK => ?_) AllReadyH.nil)
        obtain ⟨e0, e1, e2, e3⟩ := own_end O1
        have f0 := O1.frozen 0
        have f1 := O1.frozen 1
        have f2 := O1.frozen 2
        have f3 := O1.frozen 3
        go_simp
        rw [show ((((Y.setCell ⟨w.heap.size, 0, none⟩ (.int .u32 0)).setCell ⟨w.heap.size, 1, none⟩ (.int .i64 0)).setCell ⟨w.heap.size, 2, none⟩ (.int .u32 0)).setCell ⟨w.heap.size, 3, none⟩ (.slice none 0 0)) = sets4P Y w.heap.size (.int .u32 0) (.int .i64 0) (.int .u32 0) (.slice none 0 0) from rfl]
        have P1 := sets4P_own (a := .int .u32 0) (b := .int .i64 0) (c := .int .u32 0) (d := .slice none 0 0) O1
        have P2 := sets4P_far (g := w.heap.size) (a := .int .u32 0) (b := .int .i64 0) (c := .int .u32 0) (d := .slice none 0 0) O2 (by omega)
        have P3 := sets4P_far (g := w.heap.size) (a := .int .u32 0) (b := .int .i64 0) (c := .int .u32 0) (d := .slice none 0 0) HO (by have := HLO.out; have := HGR.out; omega)
        have P4 := sets4P_below (g := w.heap.size) (a := .int .u32 0) (b := .int .i64 0) (c := .int .u32 0) (d := .slice none 0 0) hb6 (Nat.le_refl _)
        have P5 := (sets4P_bytes (a := .int .u32 0) (b := .int .i64 0) (c := .int .u32 0) (d := .slice none 0 0) HBd O1 (by intro i z; rcases i with _ | _ | _ | _ | i <;> simp) (by simp) (by simp) (by simp)).more (B' := (sets4P Y w.heap.size (.int .u32 0) (.int .i64 0) (.int .u32 0) (.slice none 0 0)).heap.size) (by rw [sets4P_size]; exact Nat.le_refl _)
        clear e0 e1 e2 e3 f0 f1 f2 f3 O1 O2 HO hb6 HBd
        generalize sets4P Y w.heap.size (.int .u32 0) (.int .i64 0) (.int .u32 0) (.slice none 0 0) = Y1 at *
        refine hK.out _ _ P3 (fun hHeld2 => ?_)
        clear hK K hHeld
        have hHeld := hHeld2
        clear hHeld2
        try simp only [Act.put, List.getElem_toArray, List.getElem_cons_zero, List.getElem_cons_succ, List.setIfInBounds_toArray, List.set_cons_zero, List.set_cons_succ]
        refine wpAnyH_ready (rs := [6]) (by kernel_rfl) (by simp) ?_
        refine (AllReadyH.cons rfl (fun K hK => ?_) AllReadyH.nil)
        obtain ⟨e0, e1, e2, e3, e4⟩ := own_5 P2
        have f0 := P2.frozen 0
        have f1 := P2.frozen 1
        have f2 := P2.frozen 2
        have f3 := P2.frozen 3
        have f4 := P2.frozen 4
        go_simp
        rw [show (((((Y1.setCell ⟨w.heap.size + 1, 0, none⟩ (.int .i64 4)).setCell ⟨w.heap.size + 1, 1, none⟩ (.int .i64 2)).setCell ⟨w.heap.size + 1, 2, none⟩ (.int .i64 s)).setCell ⟨w.heap.size + 1, 3, none⟩ (.slice D dn dc)).setCell ⟨w.heap.size + 1, 4, none⟩ (.int .i64 t)) = sets5P Y1 (w.heap.size + 1) (.int .i64 4) (.int .i64 2) (.int .i64 s) (.slice D dn dc) (.int .i64 t) from rfl]
        have Q1 := sets5P_far (g := w.heap.size + 1) (a := .int .i64 4) (b := .int .i64 2) (c := .int .i64 s) (d := .slice D dn dc) (e := .int .i64 t) P1 (by omega)
        have Q2 := sets5P_own (a := .int .i64 4) (b := .int .i64 2) (c := .int .i64 s) (d := .slice D dn dc) (e := .int .i64 t) P2
        have Q3 := sets5P_far (g := w.heap.size + 1) (a := .int .i64 4) (b := .int .i64 2) (c := .int .i64 s) (d := .slice D dn dc) (e := .int .i64 t) P3 (by have := HLO.out; have := HGR.out; omega)
        have Q4 := sets5P_below (g := w.heap.size + 1) (a := .int .i64 4) (b := .int .i64 2) (c := .int .i64 s) (d := .slice D dn dc) (e := .int .i64 t) P4 (by omega)
        have Q5 := (sets5P_bytes (a := .int .i64 4) (b := .int .i64 2) (c := .int .i64 s) (d := .slice D dn dc) (e := .int .i64 t) P5 P2 (by intro i z; rcases i with _ | _ | _ | _ | _ | i <;> simp) (by simp) (by simp) (by simp) (by simp)).more (B' := (sets5P Y1 (w.heap.size + 1) (.int .i64 4) (.int .i64 2) (.int .i64 s) (.slice D dn dc) (.int .i64 t)).heap.size) (by rw [sets5P_size]; exact Nat.le_refl _)
        clear e0 e1 e2 e3 e4 f0 f1 f2 f3 f4 P1 P2 P3 P4 P5
        generalize sets5P Y1 (w.heap.size + 1) (.int .i64 4) (.int .i64 2) (.int .i64 s) (.slice D dn dc) (.int .i64 t) = Y2 at *
        refine hK.out _ _ Q3 (fun hHeld2 => ?_)
        clear hK K hHeld
        have hHeld := hHeld2
        clear hHeld2
        try simp only [Act.put, List.getElem_toArray, List.getElem_cons_zero, List.getElem_cons_succ, List.setIfInBounds_toArray, List.set_cons_zero, List.set_cons_succ]
        refine wpAnyH_done (by kernel_rfl) ?_ _
        go_wp2
        exact bodyPost_ret (results_twoN (p := 2) (q := 3) (fn := Tryd.f31) rfl _ _ w.heap.size 47 _ _ (w.heap.size + 1) 55 _ _ rfl Q1 op_descP rfl (op_infoP _ _ _ _) rfl Q2 ve_descN rfl (ve_infoN _ _ _ _ _)) rfl (.inl ⟨s, t, ds, D, dn, dc, hsp, rfl, Q5, Q4⟩)
    · have hix := nidxP7 w2.heap.size
      have hC := Lib.hid (pstep_7 bs w2.heap.size w2.heap.size gr wr hs (by have := HGR.out; omega) (Nat.le_refl _) hl)
      clear hs
      go_wp2_with fail
      refine hC.out.mono ?_
      rintro e w3 ⟨⟨u, rfl⟩, ⟨hs2, hb2, hz2⟩ | ⟨s, t, ds, hsp, a, hd, id, A2, n2, c2, D, dn, dc, ho, hB, hb2, hz2⟩⟩
      · have hkd := pst_kind hs2
        have o1 := oR.below hb2 (by have := HLO.out; omega)
        have o2 := oV.below hb2 (by have := HLO.out; omega)
        have hb5 := hb.trans (hb2.mono (by have := HLO.out; omega))
        clear oR oV hb hC
        go_wp2
        go_roundw
        case rel => exact ⟨8, by omega, by go_num, hs2, o1, o2, hb5, by omega⟩
        case measure => simp [intOf]
      · have o1 := oR.below hb2 (by have := HLO.out; omega)
        have o2 := oV.below hb2 (by have := HLO.out; omega)
        have hb5 := hb.trans (hb2.mono (by have := HLO.out; omega))
        clear oR oV hb hC
        obtain ⟨q0, q1, q2, q3, q4, q5, q6, q7, q8, q9⟩ := own_10 ho
        go_upto_region 8 with fail
        clear q0 q1 q2 q3 q4 q5 q6 q7 q8 q9
        refine wp_region_held_drew (S := (fun X => Own X w2.heap.size 117 #[.pointer (some ⟨gr, 0, none⟩), .int .u32 (a), .int .i64 (hd), .int .u32 (id), .slice A2 n2 c2, .int .i64 (4), .int .i64 (2), .int .i64 (s), .slice D dn dc, .int .i64 (t)])) (by kernel_rfl) ho.drew (fun hHeld => ?_)
        have O1 := o1.drew
        have O2 := o2.drew
        have HO := ho.drew
        have HBd : Bytes w3.drew w3.drew.heap.size D dn ds := hB.drewN 1
        have hb6 : Below w.heap.size w w3.drew := bl_drewN hb5 1
        clear o1 o2 ho hB hb5 hb2
        generalize w3.drew = Y at *
        refine wpAnyH_take (i := 0) (v := ?_) rfl (by kernel_rfl) (by kernel_rfl) (by kernel_rfl) (fun _ _ _ h => h) (Or.inl ⟨by rfl, ?_⟩) (by assumption) ?_
        rotate_left
        · (intro W hSw; skip; go_simp; try with_reducible rfl)
        simp only [Act.put, List.getElem_toArray, List.getElem_cons_zero, List.setIfInBounds_toArray, List.set_cons_zero, List.set_cons_succ]
        refine wpAnyH_take (i := 1) (v := ?_) rfl (by kernel_rfl) (by kernel_rfl) (by kernel_rfl) (fun _ _ _ h => h) (Or.inl ⟨by rfl, ?_⟩) (by assumption) ?_
        rotate_left
        · (intro W hSw; skip; go_simp; try with_reducible rfl)
        simp only [Act.put, List.getElem_toArray, List.getElem_cons_zero, List.getElem_cons_succ, List.setIfInBounds_toArray, List.set_cons_zero, List.set_cons_succ]
        refine wpAnyH_take (i := 2) (v := ?_) rfl (by kernel_rfl) (by kernel_rfl) (by kernel_rfl) (fun _ _ _ h => h) (Or.inl ⟨by rfl, ?_⟩) (by assumption) ?_
        rotate_left
        · (intro W hSw; skip; go_simp; try with_reducible rfl)
        simp only [Act.put, List.getElem_toArray, List.getElem_cons_zero, List.getElem_cons_succ, List.setIfInBounds_toArray, List.set_cons_zero, List.set_cons_succ]
        refine wpAnyH_take (i := 3) (v := ?_) rfl (by kernel_rfl) (by kernel_rfl) (by kernel_rfl) (fun _ _ _ h => h) (Or.inl ⟨by rfl, ?_⟩) (by assumption) ?_
        rotate_left
        · (intro W hSw; skip; go_simp; try with_reducible rfl)
        simp only [Act.put, List.getElem_toArray, List.getElem_cons_zero, List.getElem_cons_succ, List.setIfInBounds_toArray, List.set_cons_zero, List.set_cons_succ]
        refine wpAnyH_take (i := 4) (v := ?_) rfl (by kernel_rfl) (by kernel_rfl) (by kernel_rfl) (fun _ _ _ h => h) (Or.inl ⟨by rfl, ?_⟩) (by assumption) ?_
        rotate_left
        · (intro W hSw; have s0 : Own W w2.heap.size 117 #[.pointer (some ⟨gr, 0, none⟩), .int .u32 (a), .int .i64 (hd), .int .u32 (id), .slice A2 n2 c2, .int .i64 (4), .int .i64 (2), .int .i64 (s), .slice D dn dc, .int .i64 (t)] := hSw; obtain ⟨q0, q1, q2, q3, q4, q5, q6, q7, q8, q9⟩ := own_10 s0; go_simp; try with_reducible rfl)
        simp only [Act.put, List.getElem_toArray, List.getElem_cons_zero, List.getElem_cons_succ, List.setIfInBounds_toArray, List.set_cons_zero, List.set_cons_succ]
        refine wpAnyH_ready (rs := [5]) (by kernel_rfl) (by simp) ?_
        refine (AllReadyH.cons rfl (fun K hK => ?_) AllReadyH.nil)
        obtain ⟨e0, e1, e2, e3⟩ := own_end O1
        have f0 := O1.frozen 0
        have f1 := O1.frozen 1
        have f2 := O1.frozen 2
        have f3 := O1.frozen 3
        go_simp
        rw [show ((((Y.setCell ⟨w.heap.size, 0, none⟩ (.int .u32 0)).setCell ⟨w.heap.size, 1, none⟩ (.int .i64 0)).setCell ⟨w.heap.size, 2, none⟩ (.int .u32 0)).setCell ⟨w.heap.size, 3, none⟩ (.slice none 0 0)) = sets4P Y w.heap.size (.int .u32 0) (.int .i64 0) (.int .u32 0) (.slice none 0 0) from rfl]
        have P1 := sets4P_own (a := .int .u32 0) (b := .int .i64 0) (c := .int .u32 0) (d := .slice none 0 0) O1
        have P2 := sets4P_far (g := w.heap.size) (a := .int .u32 0) (b := .int .i64 0) (c := .int .u32 0) (d := .slice none 0 0) O2 (by omega)
        have P3 := sets4P_far (g := w.heap.size) (a := .int .u32 0) (b := .int .i64 0) (c := .int .u32 0) (d := .slice none 0 0) HO (by have := HLO.out; have := HGR.out; omega)
        have P4 := sets4P_below (g := w.heap.size) (a := .int .u32 0) (b := .int .i64 0) (c := .int .u32 0) (d := .slice none 0 0) hb6 (Nat.le_refl _)
        have P5 := (sets4P_bytes (a := .int .u32 0) (b := .int .i64 0) (c := .int .u32 0) (d := .slice none 0 0) HBd O1 (by intro i z; rcases i with _ | _ | _ | _ | i <;> simp) (by simp) (by simp) (by simp)).more (B' := (sets4P Y w.heap.size (.int .u32 0) (.int .i64 0) (.int .u32 0) (.slice none 0 0)).heap.size) (by rw [sets4P_size]; exact Nat.le_refl _)
        clear e0 e1 e2 e3 f0 f1 f2 f3 O1 O2 HO hb6 HBd
        generalize sets4P Y w.heap.size (.int .u32 0) (.int .i64 0) (.int .u32 0) (.slice none 0 0) = Y1 at *
        refine hK.out _ _ P3 (fun hHeld2 => ?_)
        clear hK K hHeld
        have hHeld := hHeld2
        clear hHeld2
        try simp only [Act.put, List.getElem_toArray, List.getElem_cons_zero, List.getElem_cons_succ, List.setIfInBounds_toArray, List.set_cons_zero, List.set_cons_succ]
        refine wpAnyH_ready (rs := [6]) (by kernel_rfl) (by simp) ?_
        refine (AllReadyH.cons rfl (fun K hK => ?_) AllReadyH.nil)
        obtain ⟨e0, e1, e2, e3, e4⟩ := own_5 P2
        have f0 := P2.frozen 0
        have f1 := P2.frozen 1
        have f2 := P2.frozen 2
        have f3 := P2.frozen 3
        have f4 := P2.frozen 4
        go_simp
        rw [show (((((Y1.setCell ⟨w.heap.size + 1, 0, none⟩ (.int .i64 4)).setCell ⟨w.heap.size + 1, 1, none⟩ (.int .i64 2)).setCell ⟨w.heap.size + 1, 2, none⟩ (.int .i64 s)).setCell ⟨w.heap.size + 1, 3, none⟩ (.slice D dn dc)).setCell ⟨w.heap.size + 1, 4, none⟩ (.int .i64 t)) = sets5P Y1 (w.heap.size + 1) (.int .i64 4) (.int .i64 2) (.int .i64 s) (.slice D dn dc) (.int .i64 t) from rfl]
        have Q1 := sets5P_far (g := w.heap.size + 1) (a := .int .i64 4) (b := .int .i64 2) (c := .int .i64 s) (d := .slice D dn dc) (e := .int .i64 t) P1 (by omega)
        have Q2 := sets5P_own (a := .int .i64 4) (b := .int .i64 2) (c := .int .i64 s) (d := .slice D dn dc) (e := .int .i64 t) P2
        have Q3 := sets5P_far (g := w.heap.size + 1) (a := .int .i64 4) (b := .int .i64 2) (c := .int .i64 s) (d := .slice D dn dc) (e := .int .i64 t) P3 (by have := HLO.out; have := HGR.out; omega)
        have Q4 := sets5P_below (g := w.heap.size + 1) (a := .int .i64 4) (b := .int .i64 2) (c := .int .i64 s) (d := .slice D dn dc) (e := .int .i64 t) P4 (by omega)
        have Q5 := (sets5P_bytes (a := .int .i64 4) (b := .int .i64 2) (c := .int .i64 s) (d := .slice D dn dc) (e := .int .i64 t) P5 P2 (by intro i z; rcases i with _ | _ | _ | _ | _ | i <;> simp) (by simp) (by simp) (by simp) (by simp)).more (B' := (sets5P Y1 (w.heap.size + 1) (.int .i64 4) (.int .i64 2) (.int .i64 s) (.slice D dn dc) (.int .i64 t)).heap.size) (by rw [sets5P_size]; exact Nat.le_refl _)
        clear e0 e1 e2 e3 e4 f0 f1 f2 f3 f4 P1 P2 P3 P4 P5
        generalize sets5P Y1 (w.heap.size + 1) (.int .i64 4) (.int .i64 2) (.int .i64 s) (.slice D dn dc) (.int .i64 t) = Y2 at *
        refine hK.out _ _ Q3 (fun hHeld2 => ?_)
        clear hK K hHeld
        have hHeld := hHeld2
        clear hHeld2
        try simp only [Act.put, List.getElem_toArray, List.getElem_cons_zero, List.getElem_cons_succ, List.setIfInBounds_toArray, List.set_cons_zero, List.set_cons_succ]
        refine wpAnyH_done (by kernel_rfl) ?_ _
        go_wp2
        exact bodyPost_ret (results_twoN (p := 2) (q := 3) (fn := Tryd.f31) rfl _ _ w.heap.size 47 _ _ (w.heap.size + 1) 55 _ _ rfl Q1 op_descP rfl (op_infoP _ _ _ _) rfl Q2 ve_descN rfl (ve_infoN _ _ _ _ _)) rfl (.inl ⟨s, t, ds, D, dn, dc, hsp, rfl, Q5, Q4⟩)
    · obtain rfl : k = 0 := by omega
      obtain ⟨a, hd, id, A2, n2, c2, L, ho, hC, hsp⟩ := hs
      have P1 := sets4P_own (a := .int .u32 a) (b := .int .i64 hd) (c := .int .u32 id) (d := .slice A2 n2 c2) oR
      have P2 := sets4P_far (g := w.heap.size) (a := .int .u32 a) (b := .int .i64 hd) (c := .int .u32 id) (d := .slice A2 n2 c2) oV (by omega)
      have P4 := sets4P_below (g := w.heap.size) (a := .int .u32 a) (b := .int .i64 hd) (c := .int .u32 id) (d := .slice A2 n2 c2) hb (Nat.le_refl _)
      have P5 := sets4P_crow (g := w.heap.size) (a := .int .u32 a) (b := .int .i64 hd) (c := .int .u32 id) (d := .slice A2 n2 c2) hC (by have := HLO.out; have := HGR.out; omega)
      have Q1 := Lib.hid (sets5P_far (g := w.heap.size + 1) (a := .int .i64 0) (b := .int .i64 0) (c := .int .i64 0) (d := .slice none 0 0) (e := .int .i64 0) P1 (by omega))
      have Q2 := Lib.hid (sets5P_own (a := .int .i64 0) (b := .int .i64 0) (c := .int .i64 0) (d := .slice none 0 0) (e := .int .i64 0) P2)
      have Q4 := Lib.hid (sets5P_below (g := w.heap.size + 1) (a := .int .i64 0) (b := .int .i64 0) (c := .int .i64 0) (d := .slice none 0 0) (e := .int .i64 0) P4 (by omega))
      have Q5 := Lib.hid (sets5P_crow (g := w.heap.size + 1) (a := .int .i64 0) (b := .int .i64 0) (c := .int .i64 0) (d := .slice none 0 0) (e := .int .i64 0) P5 (by have := HLO.out; have := HGR.out; omega))
      have QN := Lib.hid Q5.out.len
      have QC := Lib.hid Q5.out.caps
      clear P1 P2 P4 P5 Q5 hC hb
      obtain ⟨q0, q1, q2, q3, q4, q5, q6, q7, q8, q9⟩ := own_10 ho
      obtain ⟨e0, e1, e2, e3⟩ := own_end oR
      obtain ⟨d0, d1, d2, d3, d4⟩ := own_5 oV
      have f0 := oR.frozen 0
      have f1 := oR.frozen 1
      have f2 := oR.frozen 2
      have f3 := oR.frozen 3
      have k0 := oV.frozen 0
      have k1 := oV.frozen 1
      have k2 := oV.frozen 2
      have k3 := oV.frozen 3
      have k4 := oV.frozen 4
      clear ho oR oV
      go_wp2
      exact bodyPost_ret (results_twoN (p := 2) (q := 3) (fn := Tryd.f31) rfl _ _ w.heap.size 47 _ _ (w.heap.size + 1) 55 _ _ rfl Q1.out op_descP rfl (op_infoP _ _ _ _) rfl Q2.out ve_descN rfl (ve_infoN _ _ _ _ _)) rfl (.inr ⟨a, hd, id, A2, n2, c2, L, hsp, rfl, by have := QC.out; rwa [← QN.out] at this, Q4.out⟩)
end Go.Proofs.YtniheakafkakhaaDoor

/- peerageref17.Parse: its answer over positions, without memory -/
namespace Go.Proofs.YtniheakafkakhaaDoor
open Go.RowKit Go.Sort
theorem nth_dropO (xs : List Int) (k j : Nat) : nth (xs.drop k) j = nth xs (k + j) := by
  unfold nth
  rw [List.getD_eq_getElem?_getD, List.getD_eq_getElem?_getD, List.getElem?_drop]
theorem big_take1 {xs : List Int} (h : 0 < xs.length) : big (xs.take 1) = nth xs 0 := by
  match xs, h with
  | x :: r, _ => show big [x] = x; simp [big]
theorem oParse_at {bs : List Int} (h : 10 ≤ bs.length) : oParse bs = if nth bs 0 = 4 then (if big ((bs.drop 1).take 2) = 0 then .inl (2, 1, []) else if 0 < big ((bs.drop 3).take 2) ∧ big ((bs.drop 3).take 2) < 3 then .inl (6, 3, []) else if big ((bs.drop 5).take 4) = 0 then .inl (3, 5, []) else if nth bs 9 = (bs.length : Int) - 10 then oPp (big ((bs.drop 1).take 2)) (big ((bs.drop 3).take 2)) (big ((bs.drop 5).take 4)) (bs.drop 10) else .inl (0, 9, [])) else .inl (1, 0, [0, 4]) := by
  unfold oParse
  rw [if_neg (by omega)]
  unfold oPv
  rw [big_take1 (by omega)]
  unfold oPs oPh oPi oPc
  simp only [List.drop_drop]
  rw [big_take1 (by rw [List.length_drop]; omega), nth_dropO, List.length_drop]
  have e : ((bs.length - (1 + 2 + 2 + 4 + 1) : Nat) : Int) = (bs.length : Int) - 10 := by omega
  rw [e]
theorem ps_1 {bs : List Int} {q : Nat} (h : bs.length < q + 2) : parStep q (bs.drop q) = .inl (0, q) := by
  unfold parStep
  rw [if_pos (by rw [List.length_drop]; omega)]
theorem ps_2 {bs : List Int} {q : Nat} (h1 : q + 2 ≤ bs.length) (h : bs.length < q + 2 + (nth bs (q + 1)).toNat) : parStep q (bs.drop q) = .inl (0, q) := by
  unfold parStep
  rw [if_neg (by rw [List.length_drop]; omega), nth_dropO, if_pos (by rw [List.length_drop]; omega)]
theorem ps_3 {bs : List Int} {q : Nat} (h : q + 2 + (nth bs (q + 1)).toNat ≤ bs.length) (h0 : ¬ nth bs q = 2) : parStep q (bs.drop q) = .inl (4, q) := by
  unfold parStep
  rw [if_neg (by rw [List.length_drop]; omega), nth_dropO, nth_dropO, if_neg (by rw [List.length_drop]; omega), if_pos (by simpa using h0)]
theorem ps_4 {bs : List Int} {q m : Nat} (hm : (nth bs (q + 1)).toNat = m) (h : q + 2 + m ≤ bs.length) (h0 : nth bs q = 2) (hr : readC (m + 1) ((bs.drop (q + 2)).take m) = none) : parStep q (bs.drop q) = .inl (0, q) := by
  unfold parStep
  rw [if_neg (by rw [List.length_drop]; omega), nth_dropO, nth_dropO, hm, if_neg (by rw [List.length_drop]; omega), if_neg (by simpa using h0), List.drop_drop, hr]
theorem ps_5 {bs : List Int} {q m : Nat} {M : List (Int × List Int)} (hm : (nth bs (q + 1)).toNat = m) (h : q + 2 + m ≤ bs.length) (h0 : nth bs q = 2) (hr : readC (m + 1) ((bs.drop (q + 2)).take m) = some M) : parStep q (bs.drop q) = .inr (m, M) := by
  unfold parStep
  rw [if_neg (by rw [List.length_drop]; omega), nth_dropO, nth_dropO, hm, if_neg (by rw [List.length_drop]; omega), if_neg (by simpa using h0), List.drop_drop, hr]
/-- How far the reference's loop has come. -/
def RCome (bs : List Int) (q : Nat) (N0 : List (Int × List Int)) : Prop := q ≤ bs.length ∧ 2 * N0.length ≤ q ∧ ∃ f, (bs.drop q).length < f ∧ parAll ((bs.drop 10).length + 1) 10 (bs.drop 10) = parJoin N0 (parAll f q (bs.drop q))
theorem RCome.start {bs : List Int} (h : 10 ≤ bs.length) : RCome bs 10 [] := ⟨h, by simp, _, Nat.lt_succ_self _, by cases parAll ((bs.drop 10).length + 1) 10 (bs.drop 10) <;> rfl⟩
theorem RCome.bad {bs : List Int} {q : Nat} {N0 : List (Int × List Int)} (h : RCome bs q N0) (hq : q < bs.length) {e : Int × Int} (hs : parStep q (bs.drop q) = .inl e) (a hd id : Int) : oPp a hd id (bs.drop 10) = .inl (e.1, e.2, []) := by
  obtain ⟨_, _, f, hf, hp⟩ := h
  unfold oPp
  rw [hp]
  cases f with
  | zero => omega
  | succ f =>
    rw [parAll_bad (by intro h; have := congrArg List.length h; rw [List.length_drop] at this; simp at this; omega) hs]
    rfl
theorem RCome.go {bs : List Int} {q m : Nat} {N0 M : List (Int × List Int)} (h : RCome bs q N0) (hq : q + 2 + m ≤ bs.length) (hs : parStep q (bs.drop q) = .inr (m, M)) : RCome bs (q + 2 + m) (N0 ++ M) := by
  obtain ⟨_, h2, f, hf, hp⟩ := h
  have hM := parStep_len hs
  refine ⟨hq, by rw [List.length_append]; omega, ?_⟩
  cases f with
  | zero => omega
  | succ f =>
    refine ⟨f, by rw [List.length_drop] at hf ⊢; omega, ?_⟩
    rw [hp, parAll_go (by intro h; have := congrArg List.length h; rw [List.length_drop] at this; simp at this; omega) hs, parJoin_join, List.drop_drop, Nat.add_assoc]
theorem RCome.done {bs : List Int} {N0 : List (Int × List Int)} (h : RCome bs bs.length N0) (a hd id : Int) : oPp a hd id (bs.drop 10) = oPn a hd id N0 := by
  obtain ⟨_, _, f, hf, hp⟩ := h
  rw [List.drop_length] at hf hp
  unfold oPp
  rw [hp]
  cases f with
  | zero => simp at hf
  | succ f =>
    rw [parAll_nil]
    show oPn a hd id (N0 ++ []) = _
    rw [List.append_nil]
end Go.Proofs.YtniheakafkakhaaDoor

/- peerageref17.bad -/
namespace Go.Proofs.YtniheakafkakhaaDoor
open Go.RowKit Go.Sort
set_option maxRecDepth 100000 in
theorem ro_descP : Tryd.prog.underlying 41 = some (.struct (Tryd.prog.fieldsOf 41)) := by kernel_rfl
set_option maxRecDepth 100000 in
theorem ro_infoP (a b c d : Value) : (Tryd.prog.info? 41).map (·.size) = some (#[a, b, c, d] : Array Value).size := by kernel_rfl
end Go.Proofs.YtniheakafkakhaaDoor

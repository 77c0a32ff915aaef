/- XMtM2: XMpA, XRfA, XRfB, XRfC, XAlive, XOctC, XRfD, XRfE, XFlA, XBits, XFlB, XFlCa, XMfA in one text -/
import Derived.Test.YtecbbjdcnlocdaaDoorOwn
import Derived.Test.YtecbbjdcnlocdaaDoorPfx
import Derived.Test.YtecbbjdcnlocdaaDoorPut
import Derived.Laws.StructEq
import Derived.Deep.QuietTactic
import Derived.BigQuiet
import Derived.Test.YtecbbjdcnlocdaaDoorTot
import Derived.Test.YtecbbjdcnlocdaaDoorCat
import Derived.Test.YtecbbjdcnlocdaaDoorEq
import Derived.Test.YtecbbjdcnlocdaaDoorMtM1
import Derived.Deep.RegionHeld3
import Derived.Maps.OwnSet
import Derived.Deep.Cut
import Derived.Test.YtecbbjdcnlocdaaDoorNum
import Derived.Deep.RegionWith
import Derived.Test.YtecbbjdcnlocdaaDoorTen
/- mp: options by family, kinds, next hops (written by gen/mpa.py) -/
namespace Go.Proofs.YtecbbjdcnlocdaaDoor
open Go.RowKit

theorem ret_boolM {a b : Bool} (h : a = b) : Ending.returned (.bool a) = Ending.returned (.bool b) := by rw [h]
/-- Whether a family's option is set (x for family 1, y for family 2). -/
def famB (x y : Bool) (f : Int) : Bool := (decide (f = 1) && x) || (decide (f = 2) && y)
def hopB (f : Int) (n : Nat) : Bool := if f = 1 then decide (n = 4) else decide (n = 16 ∨ n = 32)
set_option maxRecDepth 100000 in
theorem omp_any (a0 a1 a2 a3 a4 a5 : Bool) (f : Int) (w : World) : Calls Tryd.prog 100 #[.agg #[.bool a0, .bool a1, .bool a2, .bool a3, .bool a4, .bool a5], .int .i64 f] w fun e w' => e = .returned (.bool (famB a2 a3 f)) ∧ Below w.heap.size w w' := by
  have hb := bl_alloc (bl_refl w) (.cells #[.bool a0, .bool a1, .bool a2, .bool a3, .bool a4, .bool a5] 111)
  by_cases h1 : f = 1
  · subst h1
    go_enter Tryd.func100, Tryd.ntmps100
    go_wp2
    all_goals go_ret
    all_goals exact ⟨ret_boolM (by simp_all [famB]), bl_alloc (bl_refl w) _⟩
  · by_cases h2 : f = 2
    · subst h2
      go_enter Tryd.func100, Tryd.ntmps100
      go_wp2
      all_goals go_ret
      all_goals exact ⟨ret_boolM (by simp_all [famB]), bl_alloc (bl_refl w) _⟩
    · have e1 : (f == 1) = false := by simpa using h1
      have e2 : (f == 2) = false := by simpa using h2
      have hR := Lib.hid (show famB a2 a3 f = false by unfold famB; rw [decide_eq_false h1, decide_eq_false h2]; rfl)
      clear h1 h2
      go_enter Tryd.func100, Tryd.ntmps100
      go_wp2
      go_ret
      exact ⟨ret_boolM hR.out.symm, hb⟩
set_option maxRecDepth 100000 in
theorem oadd_any (a0 a1 a2 a3 a4 a5 : Bool) (f : Int) (w : World) : Calls Tryd.prog 98 #[.agg #[.bool a0, .bool a1, .bool a2, .bool a3, .bool a4, .bool a5], .int .i64 f] w fun e w' => e = .returned (.bool (famB a4 a5 f)) ∧ Below w.heap.size w w' := by
  have hb := bl_alloc (bl_refl w) (.cells #[.bool a0, .bool a1, .bool a2, .bool a3, .bool a4, .bool a5] 111)
  by_cases h1 : f = 1
  · subst h1
    go_enter Tryd.func98, Tryd.ntmps98
    go_wp2
    all_goals go_ret
    all_goals exact ⟨ret_boolM (by simp_all [famB]), bl_alloc (bl_refl w) _⟩
  · by_cases h2 : f = 2
    · subst h2
      go_enter Tryd.func98, Tryd.ntmps98
      go_wp2
      all_goals go_ret
      all_goals exact ⟨ret_boolM (by simp_all [famB]), bl_alloc (bl_refl w) _⟩
    · have e1 : (f == 1) = false := by simpa using h1
      have e2 : (f == 2) = false := by simpa using h2
      have hR := Lib.hid (show famB a4 a5 f = false by unfold famB; rw [decide_eq_false h1, decide_eq_false h2]; rfl)
      clear h1 h2
      go_enter Tryd.func98, Tryd.ntmps98
      go_wp2
      go_ret
      exact ⟨ret_boolM hR.out.symm, hb⟩
set_option maxRecDepth 100000 in
theorem mhop_any (f : Int) (n : Nat) (w : World) : Calls Tryd.prog 102 #[.int .i64 f, .int .i64 n] w fun e w' => e = .returned (.bool (hopB f n)) ∧ w = w' := by
  by_cases h1 : f = 1
  · subst h1
    have hR := Lib.hid (show hopB 1 n = ((n : Int) == 4) by unfold hopB; rw [if_pos rfl, Bool.eq_iff_iff]; simp; omega)
    generalize hopB 1 n = V at *
    go_enter Tryd.func102, Tryd.ntmps102
    go_wp2
    all_goals go_ret
    all_goals exact ⟨ret_boolM (by rw [hR.out]; try simp_all), rfl⟩
  · have e1 : (f == 1) = false := by simpa using h1
    have hR := Lib.hid (show hopB f n = (((n : Int) == 16) || ((n : Int) == 32)) by unfold hopB; rw [if_neg h1, Bool.eq_iff_iff]; simp; omega)
    generalize hopB f n = V at *
    clear h1
    go_enter Tryd.func102, Tryd.ntmps102
    go_wp2
    all_goals go_ret
    all_goals exact ⟨ret_boolM (by rw [hR.out]; try simp_all), rfl⟩
set_option maxRecDepth 100000 in
theorem rmhop_any (f : Int) (n : Nat) (w : World) : Calls Tryd.prog 107 #[.int .i64 f, .int .i64 n] w fun e w' => e = .returned (.bool (hopB f n)) ∧ w = w' := by
  by_cases h1 : f = 1
  · subst h1
    have hR := Lib.hid (show hopB 1 n = ((n : Int) == 4) by unfold hopB; rw [if_pos rfl, Bool.eq_iff_iff]; simp; omega)
    generalize hopB 1 n = V at *
    go_enter Tryd.func107, Tryd.ntmps107
    go_wp2
    all_goals go_ret
    all_goals exact ⟨ret_boolM (by rw [hR.out]; try simp_all), rfl⟩
  · have e1 : (f == 1) = false := by simpa using h1
    have hR := Lib.hid (show hopB f n = (((n : Int) == 16) || ((n : Int) == 32)) by unfold hopB; rw [if_neg h1, Bool.eq_iff_iff]; simp; omega)
    generalize hopB f n = V at *
    clear h1
    go_enter Tryd.func107, Tryd.ntmps107
    go_wp2
    all_goals go_ret
    all_goals exact ⟨ret_boolM (by rw [hR.out]; try simp_all), rfl⟩
end Go.Proofs.YtecbbjdcnlocdaaDoor

/- option.Families, peerageref05.MP, peerageref19.Make -/
namespace Go.Proofs.YtecbbjdcnlocdaaDoor
open Go.RowKit

def opts (a0 a1 a2 a3 a4 a5 : Bool) : Value := .agg #[.bool a0, .bool a1, .bool a2, .bool a3, .bool a4, .bool a5]
def famsOf (a3 : Bool) : List Int := if a3 then [1, 2] else [1]
end Go.Proofs.YtecbbjdcnlocdaaDoor

/- refresh.Valid: the masks, structs of three ints compared, equal or not -/
namespace Go.Proofs.YtecbbjdcnlocdaaDoor
open Go.RowKit Extern.Stop

theorem and_mask16 (x : Int) : bits BinOp.and IntKind.i64 x 65535 = x % 65536 := by
  show IntKind.i64.wrap ((BitVec.ofInt 64 x &&& BitVec.ofInt 64 (65535 : Int)).toNat : Int) = _
  have h1 : (BitVec.ofInt 64 (65535 : Int)).toNat = 2 ^ 16 - 1 := by decide
  rw [BitVec.toNat_and, h1, Nat.and_two_pow_sub_one_eq_mod, BitVec.toNat_ofInt, IntKind.wrap_i64]
  rw [show ((2 ^ 64 : Nat) : Int) = 18446744073709551616 from rfl, show (2 ^ 16 : Nat) = 65536 from rfl]
  omega
theorem and_mask8 (x : Int) : bits BinOp.and IntKind.i64 x 255 = x % 256 := by
  show IntKind.i64.wrap ((BitVec.ofInt 64 x &&& BitVec.ofInt 64 (255 : Int)).toNat : Int) = _
  have h1 : (BitVec.ofInt 64 (255 : Int)).toNat = 2 ^ 8 - 1 := by decide
  rw [BitVec.toNat_and, h1, Nat.and_two_pow_sub_one_eq_mod, BitVec.toNat_ofInt, IntKind.wrap_i64]
  rw [show ((2 ^ 64 : Nat) : Int) = 18446744073709551616 from rfl, show (2 ^ 8 : Nat) = 256 from rfl]
  omega
theorem three_fields {fs : List Field} {n1 n2 n3 : String} {t1 t2 t3 : TypeId} {o1 o2 o3 : Nat} (hf : fs.map (fun x => (x.name, x.type, x.offset)) = [(n1, t1, o1), (n2, t2, o2), (n3, t3, o3)]) :
    ∃ f1 f2 f3 : Field, fs = [f1, f2, f3] ∧ (f1.name = n1 ∧ f1.type = t1 ∧ f1.offset = o1) ∧ (f2.name = n2 ∧ f2.type = t2 ∧ f2.offset = o2) ∧ f3.name = n3 ∧ f3.type = t3 ∧ f3.offset = o3 := by
  obtain ⟨f1, g1, rfl, h1, hf⟩ := List.map_eq_cons_iff.1 hf
  obtain ⟨f2, g2, rfl, h2, hf⟩ := List.map_eq_cons_iff.1 hf
  obtain ⟨f3, g3, rfl, h3, hf⟩ := List.map_eq_cons_iff.1 hf
  rw [List.map_eq_nil_iff] at hf
  subst hf
  simp only [Prod.mk.injEq] at h1 h2 h3
  exact ⟨f1, f2, f3, rfl, h1, h2, h3⟩
/-- Whether a refresh is valid. -/
def rfOk (a b c : Int) : Bool := decide (0 ≤ a ∧ a ≤ 65535) && (decide (0 ≤ b ∧ b ≤ 255) && decide (0 ≤ c ∧ c ≤ 255))
theorem rfOk_masks (a b c : Int) : (decide (a = a % 65536) && (decide (b = b % 256) && decide (c = c % 256))) = rfOk a b c := by
  unfold rfOk
  have h1 : (a = a % 65536) ↔ (0 ≤ a ∧ a ≤ 65535) := by omega
  have h2 : (b = b % 256) ↔ (0 ≤ b ∧ b ≤ 255) := by omega
  have h3 : (c = c % 256) ↔ (0 ≤ c ∧ c ≤ 255) := by omega
  simp only [h1, h2, h3]
end Go.Proofs.YtecbbjdcnlocdaaDoor

/- peerageref19.Valid, Make -/
namespace Go.Proofs.YtecbbjdcnlocdaaDoor
open Go.RowKit Extern.Stop

def mkOk (f s : Int) : Bool := (decide (f = 1) || decide (f = 2)) && (decide (0 ≤ s) && decide (s ≤ 255))
def mkR (f s : Int) : Value := if mkOk f s then .agg #[.int .i64 f, .int .i64 s, .int .i64 1] else .agg #[.int .i64 0, .int .i64 0, .int .i64 0]
end Go.Proofs.YtecbbjdcnlocdaaDoor

/- peeragelaw01.alive -/
namespace Go.Proofs.YtecbbjdcnlocdaaDoor
open Go.RowKit

end Go.Proofs.YtecbbjdcnlocdaaDoor

/- OctetCats: the walk -/
namespace Go.Proofs.YtecbbjdcnlocdaaDoor
open Go.RowKit

end Go.Proofs.YtecbbjdcnlocdaaDoor

/- mp's table of families: its two numbers; mp.Family, mp.Codes, the families of a refresh; slices.Contains at one or two ints -/
namespace Go.Proofs.YtecbbjdcnlocdaaDoor
open Go.RowKit Extern.Stop

/-- What the walks ask of the table of families. -/
def Fams (w : World) : Prop := w.cell? ⟨1, 3, none⟩ = some (.int .u32 1) ∧ w.cell? ⟨1, 5, none⟩ = some (.int .u32 2) ∧ 1 < w.heap.size
theorem Fams.below {w w' : World} (h : Fams w) (hb : Below w.heap.size w w') : Fams w' :=
  ⟨(hb.cell (by exact h.2.2)).trans h.1, (hb.cell (by exact h.2.2)).trans h.2.1, Nat.lt_of_lt_of_le h.2.2 hb.size⟩
theorem Fams.alloc {w : World} (h : Fams w) (o : Obj) : Fams (w.alloc o) := h.below (bl_alloc (bl_refl w) o)
theorem Fams.drew {w : World} (h : Fams w) : Fams w.drew := h
theorem Fams.drewN {w : World} (h : Fams w) (n : Nat) : Fams (w.drewN n) := h
/-- The family of two numbers. -/
def famOf (a c : Int) : Int := if c = 1 ∧ (a = 1 ∨ a = 2) then a else 0
/-- Whether a family is among those of a session. -/
def famIn (a3 : Bool) (x : Int) : Bool := decide (x = 1) || (decide (x = 2) && a3)
end Go.Proofs.YtecbbjdcnlocdaaDoor

/- mp.Codes, refresh.Make -/
namespace Go.Proofs.YtecbbjdcnlocdaaDoor
open Go.RowKit Extern.Stop

theorem own_threeE {w : World} {g : Nat} {t : TypeId} {a b c : Value} (h : Own w g t #[a, b, c]) (x y z : Value) :
    Own (((w.setCell ⟨g, 0, none⟩ x).setCell ⟨g, 1, none⟩ y).setCell ⟨g, 2, none⟩ z) g t #[x, y, z] := by
  have h2 := ((h.set_ 0 x).set_ 1 y).set_ 2 z
  simpa using h2
set_option maxRecDepth 100000 in
theorem codes_yes (f : Int) (w : World) (hf : f = 1 ∨ f = 2) (ht : Fams w) :
    Calls Tryd.prog 96 #[.int .i64 f] w fun e w' => ∃ g, e = .returned (.tuple #[.slice (some ⟨g, 0, none⟩) 3 3, .bool true]) ∧ w.heap.size ≤ g ∧ Own w' g 5 #[.int .u8 0, .int .u8 f, .int .u8 1] ∧ Below w.heap.size w w' := by
  have key : ∀ (W w1 : World), Own w1 W.heap.size 5 ((digitsOf (2 : Int).toNat f).map (Value.int .u8)).toArray → Below W.heap.size W w1 →
      Calls Tryd.prog 41 #[.slice (some ⟨w1.heap.size + 1, 0, none⟩) 2 2] ((w1.alloc (.cells #[.int .u8 1] 5)).alloc (.cells #[.slice (some ⟨W.heap.size, 0, none⟩) 2 2, .slice (some ⟨w1.heap.size, 0, none⟩) 1 1] 25)) fun e w' => ∃ g, e = .returned (.slice (some ⟨g, 0, none⟩) 3 3) ∧ W.heap.size ≤ g ∧ Own w' g 5 #[.int .u8 0, .int .u8 f, .int .u8 1] ∧ Below W.heap.size W w' := by
    intro W w1 ho hb
    have hba := bl_alloc (bl_alloc (bl_refl w1) (.cells #[.int .u8 1] 5)) (.cells #[.slice (some ⟨W.heap.size, 0, none⟩) 2 2, .slice (some ⟨w1.heap.size, 0, none⟩) 1 1] 25)
    have om := ((Own.new w1 5 #[.int .u8 1]).alloc (.cells #[.slice (some ⟨W.heap.size, 0, none⟩) 2 2, .slice (some ⟨w1.heap.size, 0, none⟩) 1 1] 25))
    have b1 := Bytes.of_owned (xs := [1]) om (by intro x hx; simp at hx; omega) om.lt
    have o2 := ho.step hba
    have b2 := Bytes.of_owned (xs := digitsOf (2 : Int).toNat f) o2 (digitsOf_range _ _) o2.lt
    rw [digitsOf_len] at b2
    have hs2 : (w1.alloc (.cells #[.int .u8 1] 5)).heap.size = w1.heap.size + 1 := by simp
    have on := Own.new (w1.alloc (.cells #[.int .u8 1] 5)) 25 #[.slice (some ⟨W.heap.size, 0, none⟩) 2 2, .slice (some ⟨w1.heap.size, 0, none⟩) 1 1]
    rw [hs2] at on
    have hpt := parts_two (c1 := 2) (c2 := 1) on b2 b1
    have hfl : flat [⟨some ⟨W.heap.size, 0, none⟩, 2, 2, digitsOf (2 : Int).toNat f⟩, ⟨some ⟨w1.heap.size, 0, none⟩, 1, 1, [1]⟩] = [0, f, 1] := by
      rcases hf with rfl | rfl <;> rfl
    refine (cat_own (c := 2) hpt (by omega) (by rw [hfl]; simp)).mono ?_
    rw [hfl]
    rintro e w2 ⟨rfl, ho2, hb2⟩
    exact ⟨_, rfl, by have := hb.size; simp; omega, ho2, bl_trans (bl_trans hb hba) hb2⟩
  obtain ⟨f1, f2, _⟩ := ht
  rcases hf with rfl | rfl
  · go_enter Tryd.func96, Tryd.ntmps96
    go_wp2_with fail
    refine (put_yes 2 1 _ (by omega) (by omega) (by omega) (by decide)).mono ?_
    rintro e w1 ⟨rfl, ho1, hb1⟩
    go_wp2_with fail
    refine (key _ _ ho1 hb1).mono ?_
    rintro e w2 ⟨g, rfl, hg, ho2, hb2⟩
    go_wp2
    go_ret2
    exact ⟨_, rfl, hg, ho2, hb2⟩
  · go_enter Tryd.func96, Tryd.ntmps96
    go_wp2_with fail
    refine (put_yes 2 2 _ (by omega) (by omega) (by omega) (by decide)).mono ?_
    rintro e w1 ⟨rfl, ho1, hb1⟩
    go_wp2_with fail
    refine (key _ _ ho1 hb1).mono ?_
    rintro e w2 ⟨g, rfl, hg, ho2, hb2⟩
    go_wp2
    go_ret2
    exact ⟨_, rfl, hg, ho2, hb2⟩
set_option maxRecDepth 100000 in
theorem codes_no (f : Int) (w : World) (h1 : f ≠ 1) (h2 : f ≠ 2) :
    Calls Tryd.prog 96 #[.int .i64 f] w fun e w' => e = .returned (.tuple #[.slice none 0 0, .bool false]) ∧ w = w' := by
  have e1 : (f != 1) = true := by simpa using h1
  have e2 : (f != 2) = true := by simpa using h2
  go_enter Tryd.func96, Tryd.ntmps96
  go_wp2
  go_ret2
  exact ⟨rfl, rfl⟩
theorem far3 {w : World} {g b : Nat} {T : TypeId} {a0 a1 a2 : Value} (ho : Own w g T #[a0, a1, a2]) (hne : g ≠ b) (x y z : Value) :
    (((w.setCell ⟨b, 0, none⟩ x).setCell ⟨b, 1, none⟩ y).setCell ⟨b, 2, none⟩ z).drew.cell? ⟨g, 0, none⟩ = some a0 ∧ (((w.setCell ⟨b, 0, none⟩ x).setCell ⟨b, 1, none⟩ y).setCell ⟨b, 2, none⟩ z).drew.cell? ⟨g, 1, none⟩ = some a1 ∧ (((w.setCell ⟨b, 0, none⟩ x).setCell ⟨b, 1, none⟩ y).setCell ⟨b, 2, none⟩ z).drew.cell? ⟨g, 2, none⟩ = some a2 := by
  have h := (((ho.far (p := ⟨b, 0, none⟩) hne x).far (p := ⟨b, 1, none⟩) hne y).far (p := ⟨b, 2, none⟩) hne z).drew
  exact ⟨h.cell rfl, h.cell rfl, h.cell rfl⟩
end Go.Proofs.YtecbbjdcnlocdaaDoor

/- flag.classes, Class; peerageref10.Class -/
namespace Go.Proofs.YtecbbjdcnlocdaaDoor
open Go.RowKit Go.Maps

/-- The class of a type; 0 if it is not known. -/
def flagCls (k : Int) : Int := if k = 1 ∨ k = 2 ∨ k = 3 ∨ k = 5 ∨ k = 6 then 64 else if k = 4 ∨ k = 9 ∨ k = 10 ∨ k = 14 ∨ k = 15 then 128 else if k = 7 ∨ k = 8 ∨ k = 16 ∨ k = 17 ∨ k = 18 ∨ k = 32 then 192 else 0
def flagKnown (k : Int) : Bool := decide (flagCls k ≠ 0)
theorem flagCls_cases (k : Int) : flagCls k = 64 ∨ flagCls k = 128 ∨ flagCls k = 192 ∨ flagCls k = 0 := by
  unfold flagCls
  split
  · simp
  · split
    · simp
    · split <;> simp
theorem flag_split (k : Int) : (k = 1 ∨ k = 2 ∨ k = 3 ∨ k = 4 ∨ k = 5 ∨ k = 6 ∨ k = 7 ∨ k = 8 ∨ k = 9 ∨ k = 10 ∨ k = 14 ∨ k = 15 ∨ k = 16 ∨ k = 17 ∨ k = 18 ∨ k = 32) ∨ (flagCls k = 0 ∧ (k == 1) = false ∧ (k == 2) = false ∧ (k == 3) = false ∧ (k == 4) = false ∧ (k == 5) = false ∧ (k == 6) = false ∧ (k == 7) = false ∧ (k == 8) = false ∧ (k == 9) = false ∧ (k == 10) = false ∧ (k == 14) = false ∧ (k == 15) = false ∧ (k == 16) = false ∧ (k == 17) = false ∧ (k == 18) = false ∧ (k == 32) = false) := by
  by_cases h : k = 1 ∨ k = 2 ∨ k = 3 ∨ k = 4 ∨ k = 5 ∨ k = 6 ∨ k = 7 ∨ k = 8 ∨ k = 9 ∨ k = 10 ∨ k = 14 ∨ k = 15 ∨ k = 16 ∨ k = 17 ∨ k = 18 ∨ k = 32
  · left; simpa using h
  · right
    simp only [not_or] at h
    refine ⟨?_, by simpa using h⟩
    unfold flagCls
    rw [if_neg (by simp; omega), if_neg (by simp; omega), if_neg (by simp; omega)]

theorem wpList_insert_own {H : Type} {P : Program} (w : World) {ops : Array Oper} {rest : List Oper} {o : Oper} {a : Act} {Q : Exit → Act → World → Prop}
    (hg : o.guard = none) (m x v : Operand) (t : TypeId) (hop : o.op = Op.insert t m x v)
    (k e : TypeId) (K : Keyed P k) (ht : P.underlying t = some (.map k e)) (R : Value → Option (DataW H × List MemPlace)) (b n : Nat) (D : DataW H)
    (hm : a.eval m = .map (some b)) (hown : w.ownsMap P k R b n D) (hn : n < maxLen) (key val : Value) (kl : Lit) (hx : a.eval x = key) (hv : a.eval v = val) (hkey : keyOf P k key = some kl)
    (d : DataW H) (ps : List MemPlace) (hval : R val = some (d, ps))
    (hK : ∀ w', w'.ownsMap P k R b (n + 1) (D.put kl d) → w.grownBy w' (some b) → wpList P ops Q rest (a.put o.dst undef) w') :
    wpList P ops Q (o :: rest) a w := by
  refine wpList_plain hg fun K' hK' => ?_
  obtain ⟨w', hrun, r1, r2⟩ := hown.update K ht hn hkey hval
  unfold Oper.wp
  simp [execOp, hop, hm, hx, hv, hrun, Result.andThen]
  exact hK' _ _ (hK w' r1 r2)
set_option maxRecDepth 100000 in
theorem int_key : Keyed Tryd.prog 3 := int_keyed Tryd.underlying3
set_option maxRecDepth 100000 in
theorem int_zero (w : World) : (zeroValue 3).run Tryd.prog w = .ok (.int .i64 0) w := by kernel_rfl
def clsMap : DataW Unit := .map [(.int .i64 1, .lit (.int .i64 64)), (.int .i64 2, .lit (.int .i64 64)), (.int .i64 3, .lit (.int .i64 64)), (.int .i64 4, .lit (.int .i64 128)), (.int .i64 5, .lit (.int .i64 64)), (.int .i64 6, .lit (.int .i64 64)), (.int .i64 7, .lit (.int .i64 192)), (.int .i64 8, .lit (.int .i64 192)), (.int .i64 9, .lit (.int .i64 128)), (.int .i64 10, .lit (.int .i64 128)), (.int .i64 14, .lit (.int .i64 128)), (.int .i64 15, .lit (.int .i64 128)), (.int .i64 16, .lit (.int .i64 192)), (.int .i64 17, .lit (.int .i64 192)), (.int .i64 18, .lit (.int .i64 192)), (.int .i64 32, .lit (.int .i64 192))]
theorem clsMap_at (k : Int) : clsMap.atKey (.int .i64 k) (.lit (.int .i64 0)) = .lit (.int .i64 (flagCls k)) ∧ has clsMap (.int .i64 k) = flagKnown k := by
  rcases flag_split k with h | ⟨h0, e1, e2, e3, e4, e5, e6, e7, e8, e9, e10, e14, e15, e16, e17, e18, e32⟩
  · rcases h with rfl | rfl | rfl | rfl | rfl | rfl | rfl | rfl | rfl | rfl | rfl | rfl | rfl | rfl | rfl | rfl
    all_goals exact ⟨rfl, rfl⟩
  · unfold flagKnown
    rw [h0]
    have hs : ∀ j : Int, (k == j) = false → Lit.sameKey (.int .i64 j) (.int .i64 k) = false := by
      intro j hj
      have : ¬ j = k := fun e => by subst e; simp at hj
      simp [Lit.sameKey, this]
    simp [clsMap, DataW.atKey, has, hs _ e1, hs _ e2, hs _ e3, hs _ e4, hs _ e5, hs _ e6, hs _ e7, hs _ e8, hs _ e9, hs _ e10, hs _ e14, hs _ e15, hs _ e16, hs _ e17, hs _ e18, hs _ e32]

end Go.Proofs.YtecbbjdcnlocdaaDoor

/- Bits of an int: what & and ^ make of the lowest byte -/
namespace Go.Proofs.YtecbbjdcnlocdaaDoor
open Go.RowKit

/-- The lowest byte of an int. -/
def low8 (x : Int) : Nat := (x % 256).toNat
theorem low8_lt (x : Int) : low8 x < 256 := by unfold low8; omega
theorem low8_byte {x : Int} (h0 : 0 ≤ x) (h1 : x ≤ 255) : (low8 x : Int) = x := by unfold low8; omega
theorem ofInt_low (x : Int) : (BitVec.ofInt 64 x).toNat % 256 = low8 x := by
  rw [BitVec.toNat_ofInt]
  unfold low8
  rw [show ((2 ^ 64 : Nat) : Int) = 18446744073709551616 from rfl]
  omega
theorem ofInt_small {m : Nat} (h : m < 256) : (BitVec.ofInt 64 (m : Int)).toNat = m := by
  rw [BitVec.ofInt_natCast, BitVec.toNat_ofNat]; exact Nat.mod_eq_of_lt (by omega)
theorem and_low8 (n m : Nat) (hm : m < 256) : n &&& m = (n % 256) &&& m := by
  have h1 : (n &&& m) % 2 ^ 8 = (n % 2 ^ 8) &&& (m % 2 ^ 8) := Nat.and_mod_two_pow
  have h2 : n &&& m ≤ m := Nat.and_le_right
  rw [Nat.mod_eq_of_lt (show n &&& m < 2 ^ 8 by omega), Nat.mod_eq_of_lt (show m < 2 ^ 8 by omega)] at h1
  exact h1
theorem and_i64 (x : Int) (m : Nat) (hm : m < 256) : bits BinOp.and IntKind.i64 x (m : Int) = ((low8 x &&& m : Nat) : Int) := by
  show IntKind.i64.wrap ((BitVec.ofInt 64 x &&& BitVec.ofInt 64 (m : Int)).toNat : Int) = _
  rw [BitVec.toNat_and, ofInt_small hm, and_low8 _ m hm, ofInt_low]
  have h2 : low8 x &&& m ≤ m := Nat.and_le_right
  rw [IntKind.wrap_i64]
  omega
theorem or_i64 (a m : Nat) (ha : a < 256) (hm : m < 256) : bits BinOp.or IntKind.i64 (a : Int) (m : Int) = ((a ||| m : Nat) : Int) := by
  show IntKind.i64.wrap ((BitVec.ofInt 64 (a : Int) ||| BitVec.ofInt 64 (m : Int)).toNat : Int) = _
  rw [BitVec.toNat_or, ofInt_small hm, ofInt_small ha]
  have h2 : a ||| m < 2 ^ 8 := Nat.or_lt_two_pow (by omega) (by omega)
  rw [IntKind.wrap_i64]
  omega
theorem xor_low8 (x : Int) (k : Nat) (hk : k < 256) : low8 (bits BinOp.xor IntKind.i64 x (k : Int)) = low8 x ^^^ k := by
  show low8 (IntKind.i64.wrap ((BitVec.ofInt 64 x ^^^ BitVec.ofInt 64 (k : Int)).toNat : Int)) = _
  rw [BitVec.toNat_xor, ofInt_small hk]
  have h1 : ((BitVec.ofInt 64 x).toNat ^^^ k) % 2 ^ 8 = ((BitVec.ofInt 64 x).toNat % 2 ^ 8) ^^^ (k % 2 ^ 8) := Nat.xor_mod_two_pow
  rw [Nat.mod_eq_of_lt (show k < 2 ^ 8 by omega), show (2 : Nat) ^ 8 = 256 from rfl, ofInt_low] at h1
  rw [← h1]
  unfold low8
  rw [IntKind.wrap_i64]
  omega
theorem keep_masks : ∀ a, a < 256 → ∀ k, k < 32 → (a ^^^ k) &&& 128 = a &&& 128 ∧ (a ^^^ k) &&& 192 = a &&& 192 ∧ (a ^^^ k) &&& 32 = a &&& 32 := by decide +kernel
theorem and31 (x : Int) : ∃ k : Nat, k < 32 ∧ bits BinOp.and IntKind.i64 x 31 = (k : Int) := by
  refine ⟨low8 x &&& 31, ?_, and_i64 x 31 (by omega)⟩
  have : low8 x &&& 31 ≤ 31 := Nat.and_le_right
  omega
/-- The two class bits together say what each of them says. -/
theorem class_masks : ∀ a, a < 256 → ∀ c, c = 64 ∨ c = 128 ∨ c = 192 → (a &&& 192 = c ↔ (decide (a &&& 128 ≠ 0) = decide (c &&& 128 ≠ 0) ∧ decide (a &&& 64 ≠ 0) = decide (c &&& 64 ≠ 0))) := by
  intro a ha c hc
  rcases hc with rfl | rfl | rfl
  · revert a; decide +kernel
  · revert a; decide +kernel
  · revert a; decide +kernel
end Go.Proofs.YtecbbjdcnlocdaaDoor

/- flag.Right, lengthSize, isByte, Size, Canonical; peerageref10.bits, Right, Canonical -/
namespace Go.Proofs.YtecbbjdcnlocdaaDoor
open Go.RowKit

theorem mask_c : ∀ a, a < 256 → ∀ c, c = 64 ∨ c = 128 ∨ c = 192 → decide (a &&& 192 = c) = (decide (a &&& 128 ≠ 0) == decide (c ≠ 64) && (decide (a &&& 64 ≠ 0) == decide (c ≠ 128))) := by
  intro a ha c hc
  rcases hc with rfl | rfl | rfl <;> (revert a; decide +kernel)
theorem and_ne (x : Int) (m : Nat) (hm : m < 256) : (bits BinOp.and IntKind.i64 x (m : Int) != 0) = decide (low8 x &&& m ≠ 0) := by
  rw [and_i64 x m hm]
  by_cases h : low8 x &&& m = 0
  · simp [h]
  · first | (simp [h]; done) | (simp [h]; omega)
theorem and_eq (x : Int) (m c : Nat) (hm : m < 256) : (bits BinOp.and IntKind.i64 x (m : Int) == (c : Int)) = decide (low8 x &&& m = c) := by
  rw [and_i64 x m hm]
  by_cases h : low8 x &&& m = c
  · simp [h]
  · first | (simp [h]; done) | (simp [h]; omega)
theorem and192 (f c : Int) (hc : c = 64 ∨ c = 128 ∨ c = 192) : (bits BinOp.and IntKind.i64 f 192 == c) = ((bits BinOp.and IntKind.i64 f 128 != 0) == (c != 64) && ((bits BinOp.and IntKind.i64 f 64 != 0) == (c != 128))) := by
  have e1 := and_ne f 128 (by omega)
  have e2 := and_ne f 64 (by omega)
  have hl := low8_lt f
  rcases hc with rfl | rfl | rfl
  · have e3 := and_eq f 192 64 (by omega)
    have := mask_c _ hl 64 (by omega)
    rw [show ((192 : Nat) : Int) = 192 from rfl, show ((64 : Nat) : Int) = 64 from rfl] at e3
    rw [show ((128 : Nat) : Int) = 128 from rfl] at e1
    rw [show ((64 : Nat) : Int) = 64 from rfl] at e2
    rw [e1, e2, e3, this]; rfl
  · have e3 := and_eq f 192 128 (by omega)
    have := mask_c _ hl 128 (by omega)
    rw [show ((192 : Nat) : Int) = 192 from rfl, show ((128 : Nat) : Int) = 128 from rfl] at e3
    rw [show ((128 : Nat) : Int) = 128 from rfl] at e1
    rw [show ((64 : Nat) : Int) = 64 from rfl] at e2
    rw [e1, e2, e3, this]; rfl
  · have e3 := and_eq f 192 192 (by omega)
    have := mask_c _ hl 192 (by omega)
    rw [show ((192 : Nat) : Int) = 192 from rfl] at e3
    rw [show ((128 : Nat) : Int) = 128 from rfl] at e1
    rw [show ((64 : Nat) : Int) = 64 from rfl] at e2
    rw [e1, e2, e3, this]; rfl
/-- Are the flags f right for type k? -/
def rightB (f k : Int) : Bool := if flagKnown k then !((bits BinOp.and IntKind.i64 f 32 != 0) && (flagCls k != 192)) && (bits BinOp.and IntKind.i64 f 192 == flagCls k) else (bits BinOp.and IntKind.i64 f 128 != 0)
theorem low8_ne (x : Int) : ∀ m : Nat, m < 256 → (bits BinOp.and IntKind.i64 x (m : Int)) = ((low8 x &&& m : Nat) : Int) := fun m hm => and_i64 x m hm
theorem right_low (f k low : Int) : rightB (bits BinOp.xor IntKind.i64 f (bits BinOp.and IntKind.i64 low 31)) k = rightB f k := by
  obtain ⟨j, hj, hjl⟩ := and31 low
  have hx := xor_low8 f j (by omega)
  obtain ⟨m1, m2, m3⟩ := keep_masks (low8 f) (low8_lt f) j hj
  have a1 : bits BinOp.and IntKind.i64 (bits BinOp.xor IntKind.i64 f (j : Int)) 128 = bits BinOp.and IntKind.i64 f 128 := by
    have h1 := and_i64 (bits BinOp.xor IntKind.i64 f (j : Int)) 128 (by omega)
    have h2 := and_i64 f 128 (by omega)
    rw [hx, m1] at h1
    exact h1.trans h2.symm
  have a2 : bits BinOp.and IntKind.i64 (bits BinOp.xor IntKind.i64 f (j : Int)) 192 = bits BinOp.and IntKind.i64 f 192 := by
    have h1 := and_i64 (bits BinOp.xor IntKind.i64 f (j : Int)) 192 (by omega)
    have h2 := and_i64 f 192 (by omega)
    rw [hx, m2] at h1
    exact h1.trans h2.symm
  have a3 : bits BinOp.and IntKind.i64 (bits BinOp.xor IntKind.i64 f (j : Int)) 32 = bits BinOp.and IntKind.i64 f 32 := by
    have h1 := and_i64 (bits BinOp.xor IntKind.i64 f (j : Int)) 32 (by omega)
    have h2 := and_i64 f 32 (by omega)
    rw [hx, m3] at h1
    exact h1.trans h2.symm
  rw [hjl]
  unfold rightB
  rw [a1, a2, a3]

/-- The bytes of the length of a head with flags f. -/
def fk (f : Int) : Int := if (bits BinOp.and IntKind.i64 f 16 != 0) = true then 2 else 1
end Go.Proofs.YtecbbjdcnlocdaaDoor

/- flag.Canonical, peerageref10.Canonical -/
namespace Go.Proofs.YtecbbjdcnlocdaaDoor
open Go.RowKit

def canC (k : Int) : Int := if flagKnown k then flagCls k else 192
def canOk (k : Int) (p : Bool) (n : Int) : Bool := decide (0 ≤ k ∧ k ≤ 255) && decide (0 ≤ n) && decide (n ≤ 65535) && !(p && (canC k != 192))
def canF (k : Int) (p : Bool) (n : Int) : Int := canC k + (if p then 32 else 0) + (if 255 < n then 16 else 0)
theorem canC_cases (k : Int) : canC k = 64 ∨ canC k = 128 ∨ canC k = 192 := by
  unfold canC
  rcases flagCls_cases k with h | h | h | h
  · rw [h]; split <;> simp
  · rw [h]; split <;> simp
  · rw [h]; split <;> simp
  · rw [show flagKnown k = false by unfold flagKnown; rw [h]; rfl]; simp
/-- The head that Canonical returns: its flags, type, length. -/
def canH (k : Int) (p : Bool) (n : Int) : Array Value := if canOk k p n then #[.int .i64 (canF k p n), .int .i64 k, .int .i64 n] else #[.int .i64 0, .int .i64 0, .int .i64 0]
theorem canF_val (k : Int) (p : Bool) (n : Int) : ∃ c, canC k = c ∧ canF k p n = c + (if p then 32 else 0) + (if 255 < n then 16 else 0) := ⟨_, rfl, rfl⟩
theorem or_flags : bits BinOp.or IntKind.i64 64 16 = 80 ∧ bits BinOp.or IntKind.i64 128 16 = 144 ∧ bits BinOp.or IntKind.i64 192 16 = 208 ∧ bits BinOp.or IntKind.i64 192 32 = 224 ∧ bits BinOp.or IntKind.i64 224 16 = 240 := by decide




theorem canH_ok {k : Int} {p : Bool} {n c F : Int} (hc : canC k = c) (h1 : 0 ≤ k ∧ k ≤ 255) (h2 : 0 ≤ n) (h3 : n ≤ 65535) (h4 : p = true → c = 192) (hF : F = c + (if p = true then 32 else 0) + (if 255 < n then 16 else 0)) :
    canH k p n = #[.int .i64 F, .int .i64 k, .int .i64 n] ∧ canOk k p n = true := by
  have e : canOk k p n = true := by
    unfold canOk
    rw [hc, decide_eq_true h1, decide_eq_true h2, decide_eq_true h3]
    cases p
    · rfl
    · rw [h4 rfl]; rfl
  refine ⟨?_, e⟩
  unfold canH
  rw [e, if_pos rfl]
  unfold canF
  rw [hc, hF]
theorem canH_no {k : Int} {p : Bool} {n c : Int} (hc : canC k = c) (h : ¬(0 ≤ k ∧ k ≤ 255) ∨ n < 0 ∨ 65535 < n ∨ (p = true ∧ c ≠ 192)) :
    canH k p n = #[.int .i64 0, .int .i64 0, .int .i64 0] ∧ canOk k p n = false := by
  have e : canOk k p n = false := by
    unfold canOk
    rw [hc]
    rcases h with h | h | h | ⟨h, h'⟩
    · rw [decide_eq_false h]; rfl
    · rw [decide_eq_false (show ¬ 0 ≤ n by omega)]; simp
    · rw [decide_eq_false (show ¬ n ≤ 65535 by omega)]; simp
    · rw [h]; simp [h']
  refine ⟨?_, e⟩
  unfold canH
  rw [e]; rfl

theorem own_three {w : World} {g : Nat} {t : TypeId} {a b c : Value} (h : Own w g t #[a, b, c]) (x y z : Value) :
    Own (((w.setCell ⟨g, 0, none⟩ x).setCell ⟨g, 1, none⟩ y).setCell ⟨g, 2, none⟩ z) g t #[x, y, z] := by
  have h2 := ((h.set_ 0 x).set_ 1 y).set_ 2 z
  simpa using h2
end Go.Proofs.YtecbbjdcnlocdaaDoor

/- alive of layer 12: mp.Has, option.MP, option.Add, basic.Plain, mp.Valid at the example -/
namespace Go.Proofs.YtecbbjdcnlocdaaDoor
open Go.RowKit Go.Sort

def hasB (x : Int) : Bool := decide (x = 14 ∨ x = 15)
set_option maxRecDepth 100000 in
theorem mhas_any (x : Int) (w : World) : Calls Tryd.prog 99 #[.int .i64 x] w fun e w' => e = .returned (.bool (hasB x)) ∧ w = w' := by
  by_cases h : x = 14
  · subst h
    go_enter Tryd.func99, Tryd.ntmps99
    go_wp2
    go_ret
    exact ⟨rfl, rfl⟩
  · have hq : (x == 14) = false := by simpa using h
    have hh : Hid (hasB x = (x == 15)) := Lib.hid (by unfold hasB; rw [Bool.eq_iff_iff]; simp [h])
    clear h
    go_enter Tryd.func99, Tryd.ntmps99
    go_wp2
    go_ret
    exact ⟨by rw [hh.out]; rfl, rfl⟩
set_option maxRecDepth 100000 in
theorem rmhas_any (x : Int) (w : World) : Calls Tryd.prog 104 #[.int .i64 x] w fun e w' => e = .returned (.bool (hasB x)) ∧ w = w' := by
  by_cases h : x = 14
  · subst h
    go_enter Tryd.func104, Tryd.ntmps104
    go_wp2
    go_ret
    exact ⟨rfl, rfl⟩
  · have hq : (x == 14) = false := by simpa using h
    have hh : Hid (hasB x = (x == 15)) := Lib.hid (by unfold hasB; rw [Bool.eq_iff_iff]; simp [h])
    clear h
    go_enter Tryd.func104, Tryd.ntmps104
    go_wp2
    go_ret
    exact ⟨by rw [hh.out]; rfl, rfl⟩
def exO : Array Value := #[.bool false, .bool false, .bool false, .bool true, .bool false, .bool false]
def exA : Array Value := #[.int .i64 15, .bool false, .int .u32 0, .int .u32 0, .slice none 0 0, .slice none 0 0, .slice none 0 0, .int .i64 2, .slice none 0 0]
def exP : Array Value := #[.int .i64 15, .bool false, .int .u32 0, .int .u32 0, .slice none 0 0, .slice none 0 0, .slice none 0 0, .int .i64 0, .slice none 0 0]
set_option maxRecDepth 100000 in
theorem omp_ex (w : World) : Calls Tryd.prog 100 #[.agg exO, .int .i64 2] w fun e w' => e = .returned (.bool true) ∧ Below w.heap.size w w' := by
  unfold exO
  go_enter Tryd.func100, Tryd.ntmps100
  go_wp2
  go_ret
  exact ⟨rfl, bl_alloc (bl_refl w) _⟩
set_option maxRecDepth 100000 in
theorem oadd_ex (w : World) : Calls Tryd.prog 98 #[.agg exO, .int .i64 2] w fun e w' => e = .returned (.bool false) ∧ Below w.heap.size w w' := by
  unfold exO
  go_enter Tryd.func98, Tryd.ntmps98
  go_wp2
  go_ret
  exact ⟨rfl, bl_alloc (bl_refl w) _⟩
set_option maxRecDepth 100000 in
theorem copy_none (g : Nat) (w : World) : (Builtin.copy_ #[52, 52] 3 #[.slice (some ⟨g, 0, none⟩) 2 2, .slice none 0 0]).run Tryd.prog w = .ok (.int .i64 0) w := by kernel_rfl
set_option maxRecDepth 100000 in
set_option maxHeartbeats 800000 in
theorem plain_ex (w : World) : Calls Tryd.prog 103 #[.agg exP, .slice none 0 0] w fun e w' => e = .returned (.bool true) ∧ Below w.heap.size w w' := by
  unfold exP
  go_enter Tryd.func103, Tryd.ntmps103
  go_wp2
  rw [copy_none]
  go_wp2
  go_ret
  exact ⟨rfl, bl_alloc (bl_alloc (bl_refl w) _) _⟩
theorem routes_nil (w : World) (B : Nat) : Routes w B none 0 [] := ⟨rfl, by simp, .inl rfl⟩
set_option maxRecDepth 100000 in
set_option maxHeartbeats 1600000 in
theorem mvalid_ex (w : World) : Calls Tryd.prog 74 #[.agg exO, .agg exA] w fun e w' => e = .returned (.bool true) ∧ Below w.heap.size w w' := by
  have hb0 := bl_alloc (bl_alloc (bl_refl w) (.cells exO 111)) (.cells exA 55)
  have o1 := (Own.new w 111 exO).alloc (.cells exA 55)
  have o2 := Own.new (w.alloc (.cells exO 111)) 55 exA
  rw [show (w.alloc (.cells exO 111)).heap.size = w.heap.size + 1 by simp] at o2
  go_enter Tryd.func74, Tryd.ntmps74
  go_wp2_with fail
  generalize (w.alloc (.cells exO 111)).alloc (.cells exA 55) = W at *
  have hg2 : Hid (w.heap.size ≤ w.heap.size + 1) := Lib.hid (by omega)
  generalize w.heap.size + 1 = g2 at o2 hg2 ⊢
  have q0 := cell_regrown (o2.cell (i := 0) (v := .int .i64 15) rfl)
  have q1 := cell_regrown (o2.cell (i := 1) (v := .bool false) rfl)
  have q7 := cell_regrown (o2.cell (i := 7) (v := .int .i64 2) rfl)
  have q8 := cell_regrown (o2.cell (i := 8) (v := .slice none 0 0) rfl)
  have a1 := Lib.hid (rg_of (w := W) (v := .bool true) (fun W' _ => (mhas_any 15 W').mono (fun e w' h => ⟨h.1, by rw [← h.2]; exact bl_refl W'⟩)))
  have a2 := Lib.hid (rg_of (w := W) (fun W' _ => omp_ex W'))
  have a3 := Lib.hid (rg_of (w := W) (fun W' _ => oadd_ex W'))
  have a4 := Lib.hid (rg_of (w := W) (v := .bool true) (fun W' _ => nvalid_any 2 false none 0 0 [] W' (routes_nil _ _) (by omega)))
  refine wp_region_quiet_below (by kernel_rfl) (by kernel_rfl) ?_
  repeat (first
    | go_big_quiet_skip
    | (refine wpQuiet_load_row (by rfl) 111 _ rfl w.heap.size rfl 111 exO (.struct (Tryd.prog.fieldsOf 111)) o1.rg (by kernel_rfl) rfl (by kernel_rfl) ?_; go_simp)
    | go_big_quiet_step (with_reducible first | exact a1.out _ _ | exact a2.out _ _ | exact a3.out _ _ | exact a4.out _ _))
  refine wpQuiet_nil ?_
  rintro ⟨dq, osq⟩
  have hgw := below_regrown W dq osq
  have x2 := o2.step hgw
  have hb1 := bl_trans hb0 hgw
  generalize grow (redrawn W dq) osq = V at *
  clear q0 q1 q7 q8 a1 a2 a3 a4 o1 o2 hgw hb0
  have c0 := x2.cell (i := 0) (v := .int .i64 15) rfl
  have c6 := x2.cell (i := 6) (v := .slice none 0 0) rfl
  have c7 := x2.cell (i := 7) (v := .int .i64 2) rfl
  have c8 := x2.cell (i := 8) (v := .slice none 0 0) rfl
  have z6 := x2.frozen 6
  have z7 := x2.frozen 7
  have z8 := x2.frozen 8
  have y2 : Own (((V.setCell ⟨g2, 7, none⟩ (.int .i64 0)).setCell ⟨g2, 6, none⟩ (.slice none 0 0)).setCell ⟨g2, 8, none⟩ (.slice none 0 0)) g2 55 exP := ((x2.set_ 7 (.int .i64 0)).set_ 6 (.slice none 0 0)).set_ 8 (.slice none 0 0)
  have hb2 : Below w.heap.size w (((V.setCell ⟨g2, 7, none⟩ (.int .i64 0)).setCell ⟨g2, 6, none⟩ (.slice none 0 0)).setCell ⟨g2, 8, none⟩ (.slice none 0 0)) := ((hb1.setCell hg2.out _).setCell hg2.out _).setCell hg2.out _
  go_wp2_with (refine wpList_load_row rfl 55 _ rfl g2 rfl 55 exP (0, 0) (.struct (Tryd.prog.fieldsOf 55)) y2 (by kernel_rfl) rfl (by kernel_rfl) ?_)
  refine (plain_ex _).mono ?_
  rintro e w3 ⟨rfl, hb3⟩
  go_wp2
  go_ret
  exact ⟨rfl, bl_trans hb2 hb3⟩
end Go.Proofs.YtecbbjdcnlocdaaDoor

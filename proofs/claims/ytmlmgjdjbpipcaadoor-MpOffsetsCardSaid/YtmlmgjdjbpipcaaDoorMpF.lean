/- mp.Read of a value whose family has no option -/
import Derived.Test.YtmlmgjdjbpipcaaDoorMpC
import Derived.Test.YtmlmgjdjbpipcaaDoorMfBQ
import Derived.Test.YtmlmgjdjbpipcaaDoorRdrB
import Derived.Test.YtmlmgjdjbpipcaaDoorApAt
import Derived.ScopeJumps
import Derived.WalkMore
import Derived.Deep.RegionLaw
namespace Go.Proofs.YtmlmgjdjbpipcaaDoor
open Go.RowKit

set_option maxRecDepth 100000 in
theorem vd_descM : Tryd.prog.underlying 38 = some (.struct (Tryd.prog.fieldsOf 38)) := by kernel_rfl
set_option maxRecDepth 100000 in
theorem vd_infoM (a b c d e : Value) : (Tryd.prog.info? 38).map (·.size) = some (#[a, b, c, d, e] : Array Value).size := by kernel_rfl
theorem vd_oneM (a b c d : Int) : (#[Value.int .i64 a, .int .i64 b, .int .i64 c, .slice none 0 0, .int .i64 d] : Array Value).all (·.oneCell') = true := by simp [Value.oneCell']
set_option maxRecDepth 100000 in
theorem at_descM : Tryd.prog.underlying 30 = some (.struct (Tryd.prog.fieldsOf 30)) := by kernel_rfl
set_option maxRecDepth 100000 in
theorem at_infoM (a b c d e f g h i : Value) : (Tryd.prog.info? 30).map (·.size) = some (#[a, b, c, d, e, f, g, h, i] : Array Value).size := by kernel_rfl
theorem Rest.setRowM (w : World) (g : Nat) (cs : Array Value) : Rest w (w.setRow g cs) (fun i => i = g) := ⟨rfl, rfl, rfl, by simp, fun i _ hn => setRow_other w g i _ hn⟩
set_option maxRecDepth 100000 in
set_option maxHeartbeats 1600000 in
theorem mread1_any (kd at_ fam : Int) (b8 b9 : Nat) (x0 x1 x2 x3 x4 x5 x6 x8 : Value) (old : Array Value) (w : World) (o8 : Own w b8 30 #[x0, x1, x2, x3, x4, x5, x6, .int .i64 fam, x8]) (o9 : Own w b9 38 old) (hs : old.size = 5) :
    Calls Tryd.prog 42 #[.int .i64 kd, .int .i64 at_, .pointer (some ⟨b8, 0, none⟩), .pointer (some ⟨b9, 0, none⟩)] w fun e w' => e = .returned (.bool false) ∧ w' = w.setRow b9 #[.int .i64 kd, .int .i64 0, .int .i64 fam, .slice none 0 0, .int .i64 at_] := by
  have e7 := o8.cell (i := 7) (v := .int .i64 fam) rfl
  have l8 := o8.lt
  have l9 := o9.lt
  clear o8
  go_enter Tryd.func42, Tryd.ntmps42
  go_wp2_with (refine wpList_store_row rfl 38 _ _ rfl b9 #[.int .i64 kd, .int .i64 0, .int .i64 fam, .slice none 0 0, .int .i64 at_] rfl rfl 38 old o9 (vd_infoM _ _ _ _ _) hs (vd_oneM _ _ _ _) ?_)
  go_ret
  exact ⟨rfl, rfl⟩
theorem mp_types2 : (41 : TypeId) ≠ 74 ∧ (3 : TypeId) ≠ 74 ∧ (38 : TypeId) ≠ 74 ∧ (23 : TypeId) ≠ 74 ∧ (60 : TypeId) ≠ 74 ∧ (30 : TypeId) ≠ 74 := by decide
theorem RdrB.typedM {B : Nat} {w : World} {g p : Nat} {xs : List Int} (h : RdrB B w g xs p) : Typed w g 74 := by
  obtain ⟨A, n, c, ho, _⟩ := h
  exact ho.typed
theorem grown_restM {w w' : World} {g : Nat} (h : w.grownBy w' (some g)) : Rest w w' (fun i => i = g) := Rest.of_grown h (fun _ hj => (Option.some.inj hj).symm)
theorem Own.byR {w w' : World} {g j : Nat} {T : TypeId} {cs : Array Value} (o : Own w g T cs) (R : Rest w w' (fun i => i = j)) (hj : Typed w j 74) (hT : T ≠ 74) : Own w' g T cs := R.own o (fun e => by
  have e2 : g = j := e
  exact o.typed.ne (e2 ▸ hj) hT rfl)
theorem Fams.rest {w w' : World} {P : Nat → Prop} (h : Fams w) (k : Rest w w' P) (hp : ¬ P 0) : Fams w' :=
  ⟨(World.cell?_of_block (a := ⟨0, 3, none⟩) (k.block _ h.2.2 hp)).trans h.1, (World.cell?_of_block (a := ⟨0, 5, none⟩) (k.block _ h.2.2 hp)).trans h.2.1, Nat.lt_of_lt_of_le h.2.2 k.size⟩
set_option maxRecDepth 100000 in
set_option maxHeartbeats 3200000 in
theorem mread2_no (a0 a1 a2 a3 a4 a5 : Bool) (b10 b12 b9 b3 b13 b8 j B : Nat) (st f : Int) (zs : List Int) (p : Nat) (x0 x1 x2 x3 x4 x5 x6 x8 : Value) (old : Array Value) (w : World) (hF : Fams w) (hf : f = 1 ∨ f = 2) (hno : famB a2 a3 f = false)
    (o10 : Own w b10 41 #[.pointer (some ⟨j, 0, none⟩)]) (o12 : Own w b12 3 #[.int .i64 st]) (o9 : Own w b9 38 old) (hs : old.size = 5) (o3 : Own w b3 23 #[.bool a0, .bool a1, .bool a2, .bool a3, .bool a4, .bool a5]) (o13 : Own w b13 60 #[.func (.func 42) #[] #[.pointer (some ⟨b8, 0, none⟩), .pointer (some ⟨b9, 0, none⟩)]]) (o8 : Own w b8 30 #[x0, x1, x2, x3, x4, x5, x6, .int .i64 0, x8])
    (hr : RdrB B w j (0 :: f :: 1 :: zs) p) (hl : zs.length ≤ 1000000) (hp : p ≤ 1000000) (hgj : 0 ≠ j) :
    Calls Tryd.prog 43 #[.pointer (some ⟨b10, 0, none⟩), .pointer (some ⟨b12, 0, none⟩), .pointer (some ⟨b9, 0, none⟩), .pointer (some ⟨b3, 0, none⟩), .pointer (some ⟨b13, 0, none⟩), .pointer (some ⟨b8, 0, none⟩)] w fun e w' => e = .returned (.bool false) ∧ Own w' b9 38 #[.int .i64 1, .int .i64 0, .int .i64 0, .slice none 0 0, .int .i64 st] ∧ Rest w w' (fun i => i = j ∨ i = b9) := by
  have hLf := Lib.hid (left_any j _ p w hr.rdr)
  have hN1 := number_yesB B j (0 :: f :: 1 :: zs) p 2 w hr (by simp; omega) (by omega) (by omega) (by omega) (by simp; omega)
  have eb : big ((0 :: f :: 1 :: zs).take (2 : Int).toNat) = f := by show big [0, f] = f; simp [big]
  rw [eb] at hN1
  have hN1 := Lib.hid hN1
  have hN2 := Lib.hid (fun W (h : RdrB B W j (1 :: zs) (p + 2)) => number_yesB B j (1 :: zs) (p + 2) 1 W h (by simp; omega) (by omega) (by omega) (by omega) (by simp; omega))
  have eb2 : big ((1 :: zs : List Int).take (1 : Int).toNat) = 1 := by show big [1] = 1; simp [big]
  rw [eb2] at hN2
  have hMp := Lib.hid (fun W => omp_any a0 a1 a2 a3 a4 a5 f W)
  rw [hno] at hMp
  have c10 := o10.cell (i := 0) (v := .pointer (some ⟨j, 0, none⟩)) rfl
  have l10 := o10.lt
  have hlen : ¬ ((zs.length : Int) + 1 + 1 + 1 < 3) := by omega
  have HR := Lib.hid hr
  clear hr hno
  go_enter Tryd.func43, Tryd.ntmps43
  go_wp2_with fail
  refine hLf.out.mono ?_
  rintro e w' ⟨rfl, rfl⟩
  go_wp2_with fail
  refine hN1.out.mono ?_
  rintro e w1 ⟨rfl, r1, hg1⟩
  have R1 := grown_restM hg1
  have ty := HR.out.typedM
  have p10 := o10.byR R1 ty mp_types2.1
  have p12 := o12.byR R1 ty mp_types2.2.1
  have p9 := o9.byR R1 ty mp_types2.2.2.1
  have p3 := o3.byR R1 ty mp_types2.2.2.2.1
  have p13 := o13.byR R1 ty mp_types2.2.2.2.2.1
  have p8 := o8.byR R1 ty mp_types2.2.2.2.2.2
  clear o10 o12 o9 o3 o13 o8 c10 l10 hg1
  have c10 := p10.cell (i := 0) (v := .pointer (some ⟨j, 0, none⟩)) rfl
  have l10 := p10.lt
  go_wp2_with fail
  refine (hN2.out w1 r1).mono ?_
  rintro e w2 ⟨rfl, r2, hg2⟩
  have R2 := R1.trans (grown_restM hg2) (fun _ _ e => e)
  have ty1 := r1.typedM
  have q12 := p12.byR (grown_restM hg2) ty1 mp_types2.2.1
  have q9 := p9.byR (grown_restM hg2) ty1 mp_types2.2.2.1
  have q3 := p3.byR (grown_restM hg2) ty1 mp_types2.2.2.2.1
  have q13 := p13.byR (grown_restM hg2) ty1 mp_types2.2.2.2.2.1
  have q8 := p8.byR (grown_restM hg2) ty1 mp_types2.2.2.2.2.2
  have hF2 : Fams w2 := hF.rest R2 hgj
  clear p10 p12 p9 p3 p13 p8 c10 l10 hg2 r1 R1 ty1
  go_wp2_with fail
  refine (mfamily_any f 1 w2 hF2).mono ?_
  rintro e w3 ⟨rfl, rfl⟩
  have ef : famOf f 1 = f := by unfold famOf; rw [if_pos ⟨rfl, hf⟩]
  rw [ef]
  obtain ⟨y0, y1, y2, y3, y4, y5⟩ : _ ∧ _ ∧ _ ∧ _ ∧ _ ∧ _ := ⟨q3.cell (i := 0) rfl, q3.cell (i := 1) rfl, q3.cell (i := 2) rfl, q3.cell (i := 3) rfl, q3.cell (i := 4) rfl, q3.cell (i := 5) rfl⟩
  have l3 := q3.lt
  go_wp2_with fail
  refine (hMp.out _).mono ?_
  rintro e w4 ⟨rfl, hb4⟩
  have s12 := q12.step hb4
  have s9 := q9.step hb4
  have s13 := q13.step hb4
  have s8 := q8.step hb4
  clear y0 y1 y2 y3 y4 y5 l3 q12 q9 q3 q13 q8
  have c12 := s12.cell (i := 0) (v := .int .i64 st) rfl
  have c13 := s13.cell (i := 0) (v := .func (.func 42) #[] #[.pointer (some ⟨b8, 0, none⟩), .pointer (some ⟨b9, 0, none⟩)]) rfl
  have l12 := s12.lt
  have l13 := s13.lt
  have H1 := Lib.hid (mread1_any 1 st 0 b8 b9 x0 x1 x2 x3 x4 x5 x6 x8 old w4 s8 s9 hs)
  have R3 := (R2.below hb4).mono (fun i (e : i = j) => (Or.inl e : i = j ∨ i = b9))
  have HFin := Lib.hid (And.intro s9 R3)
  clear s12 s9 s13 s8 R3 R2 hb4
  go_wp2_with fail
  go_at_call 42
  refine H1.out.mono ?_
  rintro e w5 ⟨rfl, rfl⟩
  go_wp2
  go_ret
  exact ⟨rfl, HFin.out.1.setRow, HFin.out.2.trans (Rest.setRowM w4 b9 _) (fun i _ e => Or.inr e)⟩
def atZ : Array Value := #[.int .i64 0, .bool false, .int .u32 0, .int .u32 0, .slice none 0 0, .slice none 0 0, .slice none 0 0, .int .i64 0, .slice none 0 0]
def vdZ : Array Value := #[.int .i64 0, .int .i64 0, .int .i64 0, .slice none 0 0, .int .i64 0]
theorem results_mp2 {P : Program} {fn : Func} {p q : Tmp} {ty ty2 : TypeId} (h : fn.results = #[.cell p ty, .cell q ty2]) (tmps : Array Value) (w : World) (g : Nat) (T : TypeId) (cs : Array Value) (d : TypeDesc) (g2 : Nat) (T2 : TypeId) (cs2 : Array Value) (d2 : TypeDesc)
    (hp : tmps.getD p undef = .pointer (some ⟨g, 0, none⟩)) (hg : Own w g T cs) (hu : P.underlying ty = some d) (hd : (match d with | .struct _ | .array _ _ => true | _ => false) = true) (hi : (P.info? ty).map (·.size) = some cs.size)
    (hp2 : tmps.getD q undef = .pointer (some ⟨g2, 0, none⟩)) (hg2 : Own w g2 T2 cs2) (hu2 : P.underlying ty2 = some d2) (hd2 : (match d2 with | .struct _ | .array _ _ => true | _ => false) = true) (hi2 : (P.info? ty2).map (·.size) = some cs2.size) :
    (results fn tmps).run P w = .ok (.tuple #[.agg cs, .agg cs2]) w := by
  have hp' : tmps[p]?.getD undef = .pointer (some ⟨g, 0, none⟩) := by simpa using hp
  have hp2' : tmps[q]?.getD undef = .pointer (some ⟨g2, 0, none⟩) := by simpa using hp2
  simp [results, h, hp', hp2', asAddr, run_loadVar_row w g T ty cs (0, 0) d hg hu hd hi, run_loadVar_row w g2 T2 ty2 cs2 (0, 0) d2 hg2 hu2 hd2 hi2]
theorem Rest.setM {w w' : World} {P : Nat → Prop} (h : Rest w w' P) (p : Addr) (u : Value) (hp : w.heap.size ≤ p.block) : Rest w (w'.setCell p u) P := h.trans (Rest.setCell w' p u) (fun i hi e => by
  have e2 : i = p.block := e
  omega)
theorem Rest.drewM {w w' : World} {P : Nat → Prop} (h : Rest w w' P) : Rest w w'.drew P := ⟨h.os, h.tape, h.output, h.size, h.block⟩
section
variable {V w : World} {g : Nat} {T U : TypeId} {x0 x1 x2 x3 x4 x5 x6 x7 x8 y0 y1 y2 y3 y4 a0 a1 a2 a3 a4 a5 a6 a7 a8 b0 b1 b2 b3 b4 : Value} {P : Nat → Prop}
theorem mst_own1 (h : Own V g T #[x0, x1, x2, x3, x4, x5, x6, x7, x8]) : Own ((((((((((((((V.setCell ⟨g, 0, none⟩ a0).setCell ⟨g, 1, none⟩ a1).setCell ⟨g, 2, none⟩ a2).setCell ⟨g, 3, none⟩ a3).setCell ⟨g, 4, none⟩ a4).setCell ⟨g, 5, none⟩ a5).setCell ⟨g, 6, none⟩ a6).setCell ⟨g, 7, none⟩ a7).setCell ⟨g, 8, none⟩ a8).setCell ⟨g + 1, 0, none⟩ b0).setCell ⟨g + 1, 1, none⟩ b1).setCell ⟨g + 1, 2, none⟩ b2).setCell ⟨g + 1, 3, none⟩ b3).setCell ⟨g + 1, 4, none⟩ b4) g T #[a0, a1, a2, a3, a4, a5, a6, a7, a8] := by
  have h2 : Own (((((((((V.setCell ⟨g, 0, none⟩ a0).setCell ⟨g, 1, none⟩ a1).setCell ⟨g, 2, none⟩ a2).setCell ⟨g, 3, none⟩ a3).setCell ⟨g, 4, none⟩ a4).setCell ⟨g, 5, none⟩ a5).setCell ⟨g, 6, none⟩ a6).setCell ⟨g, 7, none⟩ a7).setCell ⟨g, 8, none⟩ a8) g T #[a0, a1, a2, a3, a4, a5, a6, a7, a8] := by simpa using ((((((((h.set_ 0 a0).set_ 1 a1).set_ 2 a2).set_ 3 a3).set_ 4 a4).set_ 5 a5).set_ 6 a6).set_ 7 a7).set_ 8 a8
  have hne : g ≠ g + 1 := by omega
  exact ((((h2.far (p := ⟨g + 1, 0, none⟩) hne b0).far (p := ⟨g + 1, 1, none⟩) hne b1).far (p := ⟨g + 1, 2, none⟩) hne b2).far (p := ⟨g + 1, 3, none⟩) hne b3).far (p := ⟨g + 1, 4, none⟩) hne b4
theorem mst_own2 (h : Own V (g + 1) U #[y0, y1, y2, y3, y4]) : Own ((((((((((((((V.setCell ⟨g, 0, none⟩ a0).setCell ⟨g, 1, none⟩ a1).setCell ⟨g, 2, none⟩ a2).setCell ⟨g, 3, none⟩ a3).setCell ⟨g, 4, none⟩ a4).setCell ⟨g, 5, none⟩ a5).setCell ⟨g, 6, none⟩ a6).setCell ⟨g, 7, none⟩ a7).setCell ⟨g, 8, none⟩ a8).setCell ⟨g + 1, 0, none⟩ b0).setCell ⟨g + 1, 1, none⟩ b1).setCell ⟨g + 1, 2, none⟩ b2).setCell ⟨g + 1, 3, none⟩ b3).setCell ⟨g + 1, 4, none⟩ b4) (g + 1) U #[b0, b1, b2, b3, b4] := by
  have hne : g + 1 ≠ g := by omega
  have h2 := ((((((((h.far (p := ⟨g, 0, none⟩) hne a0).far (p := ⟨g, 1, none⟩) hne a1).far (p := ⟨g, 2, none⟩) hne a2).far (p := ⟨g, 3, none⟩) hne a3).far (p := ⟨g, 4, none⟩) hne a4).far (p := ⟨g, 5, none⟩) hne a5).far (p := ⟨g, 6, none⟩) hne a6).far (p := ⟨g, 7, none⟩) hne a7).far (p := ⟨g, 8, none⟩) hne a8
  simpa using ((((h2.set_ 0 b0).set_ 1 b1).set_ 2 b2).set_ 3 b3).set_ 4 b4
theorem mst_rest (h : Rest w V P) (hg : w.heap.size ≤ g) : Rest w ((((((((((((((V.setCell ⟨g, 0, none⟩ a0).setCell ⟨g, 1, none⟩ a1).setCell ⟨g, 2, none⟩ a2).setCell ⟨g, 3, none⟩ a3).setCell ⟨g, 4, none⟩ a4).setCell ⟨g, 5, none⟩ a5).setCell ⟨g, 6, none⟩ a6).setCell ⟨g, 7, none⟩ a7).setCell ⟨g, 8, none⟩ a8).setCell ⟨g + 1, 0, none⟩ b0).setCell ⟨g + 1, 1, none⟩ b1).setCell ⟨g + 1, 2, none⟩ b2).setCell ⟨g + 1, 3, none⟩ b3).setCell ⟨g + 1, 4, none⟩ b4) P := by
  have h1 : w.heap.size ≤ g + 1 := by omega
  exact (((((((((((((h.setM ⟨g, 0, none⟩ a0 hg).setM ⟨g, 1, none⟩ a1 hg).setM ⟨g, 2, none⟩ a2 hg).setM ⟨g, 3, none⟩ a3 hg).setM ⟨g, 4, none⟩ a4 hg).setM ⟨g, 5, none⟩ a5 hg).setM ⟨g, 6, none⟩ a6 hg).setM ⟨g, 7, none⟩ a7 hg).setM ⟨g, 8, none⟩ a8 hg).setM ⟨g + 1, 0, none⟩ b0 h1).setM ⟨g + 1, 1, none⟩ b1 h1).setM ⟨g + 1, 2, none⟩ b2 h1).setM ⟨g + 1, 3, none⟩ b3 h1).setM ⟨g + 1, 4, none⟩ b4 h1
end
theorem mst_all (V w : World) (g : Nat) (T U : TypeId) (x0 x1 x2 x3 x4 x5 x6 x7 x8 y0 y1 y2 y3 y4 a0 a1 a2 a3 a4 a5 a6 a7 a8 b0 b1 b2 b3 b4 : Value) (P : Nat → Prop) (h : Own V g T #[x0, x1, x2, x3, x4, x5, x6, x7, x8]) (k : Own V (g + 1) U #[y0, y1, y2, y3, y4]) (r : Rest w V P) (hg : w.heap.size ≤ g) :
    ∃ W, W = ((((((((((((((V.setCell ⟨g, 0, none⟩ a0).setCell ⟨g, 1, none⟩ a1).setCell ⟨g, 2, none⟩ a2).setCell ⟨g, 3, none⟩ a3).setCell ⟨g, 4, none⟩ a4).setCell ⟨g, 5, none⟩ a5).setCell ⟨g, 6, none⟩ a6).setCell ⟨g, 7, none⟩ a7).setCell ⟨g, 8, none⟩ a8).setCell ⟨g + 1, 0, none⟩ b0).setCell ⟨g + 1, 1, none⟩ b1).setCell ⟨g + 1, 2, none⟩ b2).setCell ⟨g + 1, 3, none⟩ b3).setCell ⟨g + 1, 4, none⟩ b4).drew ∧ Own W g T #[a0, a1, a2, a3, a4, a5, a6, a7, a8] ∧ Own W (g + 1) U #[b0, b1, b2, b3, b4] ∧ Rest w W P :=
  ⟨_, rfl, (mst_own1 h).drew, (mst_own2 k).drew, (mst_rest r hg).drewM⟩
theorem run_store_fn (P : Program) (w : World) (a : Addr) (f : Fn) (ts cs : Array Value) (m : Mode) : (store a (.func f ts cs) m).run P w = stored P w a (.func f ts cs) m := run_store P w a _ m rfl
theorem three_boxes (w : World) (c0 c1 c2 : Array Value) (t0 t1 t2 : TypeId) : ∃ W, W = (((w.alloc (.cells c0 t0)).alloc (.cells c1 t1)).alloc (.cells c2 t2)) ∧ Own W w.heap.size t0 c0 ∧ Own W (w.heap.size + 1) t1 c1 ∧ Own W (w.heap.size + 1 + 1) t2 c2 ∧ Below w.heap.size w W ∧ W.heap.size = w.heap.size + 1 + 1 + 1 := by
  have s1 : (w.alloc (.cells c0 t0)).heap.size = w.heap.size + 1 := by simp
  have s2 : ((w.alloc (.cells c0 t0)).alloc (.cells c1 t1)).heap.size = w.heap.size + 1 + 1 := by simp
  have o1 := Own.new (w.alloc (.cells c0 t0)) t1 c1
  have o2 := Own.new ((w.alloc (.cells c0 t0)).alloc (.cells c1 t1)) t2 c2
  rw [s1] at o1
  rw [s2] at o2
  exact ⟨_, rfl, (((Own.new w t0 c0).alloc _).alloc _), o1.alloc _, o2, bl_alloc (bl_alloc (bl_alloc (bl_refl w) _) _) _, by simp⟩
theorem five_boxes (w : World) (c0 c1 c2 c3 c4 : Array Value) (t0 t1 t2 t3 t4 : TypeId) : ∃ W, W = (((((w.alloc (.cells c0 t0)).alloc (.cells c1 t1)).alloc (.cells c2 t2)).alloc (.cells c3 t3)).alloc (.cells c4 t4)) ∧ Own W w.heap.size t0 c0 ∧ Own W (w.heap.size + 1) t1 c1 ∧ Own W (w.heap.size + 1 + 1) t2 c2 ∧ Own W (w.heap.size + 1 + 1 + 1) t3 c3 ∧ Own W (w.heap.size + 1 + 1 + 1 + 1) t4 c4 ∧ Below w.heap.size w W ∧ W.heap.size = w.heap.size + 1 + 1 + 1 + 1 + 1 := by
  have s1 : (w.alloc (.cells c0 t0)).heap.size = w.heap.size + 1 := by simp
  have s2 : ((w.alloc (.cells c0 t0)).alloc (.cells c1 t1)).heap.size = w.heap.size + 1 + 1 := by simp
  have s3 : (((w.alloc (.cells c0 t0)).alloc (.cells c1 t1)).alloc (.cells c2 t2)).heap.size = w.heap.size + 1 + 1 + 1 := by simp
  have s4 : ((((w.alloc (.cells c0 t0)).alloc (.cells c1 t1)).alloc (.cells c2 t2)).alloc (.cells c3 t3)).heap.size = w.heap.size + 1 + 1 + 1 + 1 := by simp
  have o1 := Own.new (w.alloc (.cells c0 t0)) t1 c1
  have o2 := Own.new ((w.alloc (.cells c0 t0)).alloc (.cells c1 t1)) t2 c2
  have o3 := Own.new (((w.alloc (.cells c0 t0)).alloc (.cells c1 t1)).alloc (.cells c2 t2)) t3 c3
  have o4 := Own.new ((((w.alloc (.cells c0 t0)).alloc (.cells c1 t1)).alloc (.cells c2 t2)).alloc (.cells c3 t3)) t4 c4
  rw [s1] at o1
  rw [s2] at o2
  rw [s3] at o3
  rw [s4] at o4
  exact ⟨_, rfl, (((((Own.new w t0 c0).alloc _).alloc _).alloc _).alloc _), ((o1.alloc _).alloc _).alloc _, (o2.alloc _).alloc _, o3.alloc _, o4, bl_alloc (bl_alloc (bl_alloc (bl_alloc (bl_alloc (bl_refl w) _) _) _) _) _, by simp⟩
set_option maxRecDepth 100000 in
set_option maxHeartbeats 6400000 in
theorem mread_no (a0 a1 a2 a3 a4 a5 : Bool) (k : Int) (g : Nat) (f : Int) (zs : List Int) (w : World) (hF : Fams w) (hf : f = 1 ∨ f = 2) (hno : famB a2 a3 f = false) (hr : Rdr w g (0 :: f :: 1 :: zs) 0) (hl : zs.length ≤ 1000000) (hgf : 0 ≠ g) :
    Calls Tryd.prog 14 #[.agg #[.bool a0, .bool a1, .bool a2, .bool a3, .bool a4, .bool a5], .int .i64 k, .pointer (some ⟨g, 0, none⟩)] w fun e w' => e = .returned (.tuple #[.agg #[.int .i64 0, .bool false, .int .u32 0, .int .u32 0, .slice none 0 0, .slice none 0 0, .slice none 0 0, .int .i64 0, .slice none 0 0], .agg #[.int .i64 1, .int .i64 0, .int .i64 0, .slice none 0 0, .int .i64 0]]) ∧ Rest w w' (fun i => i = g) := by
  have hwf := hF.2.2
  have hgl := hr.lt
  go_enter Tryd.func14, Tryd.ntmps14
  go_wp2_with fail
  refine wp_scope_jumps 0 (fun a' w' => ∃ (u4 u5 u10 u11 u12 u13 u14 u15 u16 u17 u18 u19 u20 u21 u22 u23 u24 u25 u26 u27 u28 u29 u30 u31 u32 u33 u34 u35 u36 u37 u38 u39 u40 u41 u42 u43 u44 u45 u46 u47 u48 : Value), a' = { tmps := #[.agg #[.bool a0, .bool a1, .bool a2, .bool a3, .bool a4, .bool a5], .int .i64 k, .pointer (some ⟨g, 0, none⟩), .pointer (some ⟨w.heap.size, 0, none⟩), u4, u5, .pointer (some ⟨w.heap.size + 1, 0, none⟩), .pointer (some ⟨w.heap.size + 1 + 1, 0, none⟩), .pointer (some ⟨w.heap.size + 1 + 1 + 1, 0, none⟩), .pointer (some ⟨w.heap.size + 1 + 1 + 1 + 1, 0, none⟩), u10, u11, u12, u13, u14, u15, u16, u17, u18, u19, u20, u21, u22, u23, u24, u25, u26, u27, u28, u29, u30, u31, u32, u33, u34, u35, u36, u37, u38, u39, u40, u41, u42, u43, u44, u45, u46, u47, u48], defers := [] } ∧ Own w' (w.heap.size + 1) 30 atZ ∧ Own w' (w.heap.size + 1 + 1) 38 vdZ ∧ Own w' (w.heap.size + 1 + 1 + 1 + 1) 38 #[.int .i64 1, .int .i64 0, .int .i64 0, .slice none 0 0, .int .i64 0] ∧ Rest w w' (fun i => i = g)) (fun _ _ => 0) rfl ?first ?pass
  case first =>
    go_wp2_with fail
    obtain ⟨W5, hW5, o30, oA0, oV0, o80, o90, bA, hs5⟩ := five_boxes w #[.bool a0, .bool a1, .bool a2, .bool a3, .bool a4, .bool a5] #[.int .i64 0, .bool false, .int .u32 0, .int .u32 0, .slice none 0 0, .slice none 0 0, .slice none 0 0, .int .i64 0, .slice none 0 0] #[.int .i64 0, .int .i64 0, .int .i64 0, .slice none 0 0, .int .i64 0] #[.int .i64 k, .bool false, .int .u32 0, .int .u32 0, .slice none 0 0, .slice none 0 0, .slice none 0 0, .int .i64 0, .slice none 0 0] #[.int .i64 0, .int .i64 0, .int .i64 0, .slice none 0 0, .int .i64 0] 23 30 38 30 38
    rw [← hW5]
    clear hW5
    have rW := (hr.toB.below bA).rdr
    refine (left_any g _ 0 _ rW).mono ?_
    rintro e w' ⟨rfl, rfl⟩
    go_wp2_with fail
    refine (part_yes g _ 0 _ _ rW (by simp; omega) (by omega) (by omega) (by simp)).mono ?_
    rintro e w1 ⟨j, rfl, hj, rj, rg, hg1⟩
    have e1 : (0 :: f :: 1 :: zs).take ((zs.length : Int) + 1 + 1 + 1).toNat = 0 :: f :: 1 :: zs := by rw [show ((zs.length : Int) + 1 + 1 + 1).toNat = (0 :: f :: 1 :: zs : List Int).length by simp; omega, List.take_length]
    rw [e1] at rj
    have R1 : Rest w w1 (fun i => i = g) := (Rest.of_below bA _).trans (grown_restM hg1) (fun _ _ e => e)
    have oA1 := oA0.grown hg1 (by simp; omega)
    have oV1 := oV0.grown hg1 (by simp; omega)
    have o31 := o30.grown hg1 (by simp; omega)
    have o81 := o80.grown hg1 (by simp; omega)
    have o91 := o90.grown hg1 (by simp; omega)
    have hs1 := o91.lt
    have hjl := rj.lt
    have hjg : g ≠ j := by omega
    have rB := rj.toB
    clear oA0 oV0 o30 o80 o90 hg1 rW e1 rj rg bA
    go_wp2_with fail
    refine (at_any j _ 0 _ (rB.below (bl_alloc (bl_refl w1) _)).rdr).mono ?_
    rintro e w' ⟨rfl, rfl⟩
    go_wp2_with fail
    simp only [run_store_fn]
    go_simp
    go_wp2_with fail
    go_at_call 43
    obtain ⟨W4, hW4, o10, o12, o13, b4, hs4⟩ := three_boxes w1 #[.pointer (some ⟨j, 0, none⟩)] #[.int .i64 0] #[.func (.func 42) #[] #[.pointer (some ⟨w.heap.size + 1 + 1 + 1, 0, none⟩), .pointer (some ⟨w.heap.size + 1 + 1 + 1 + 1, 0, none⟩)]] 41 3 60
    rw [← hW4]
    clear hW4
    have R4 := R1.below b4
    refine (mread2_no a0 a1 a2 a3 a4 a5 w1.heap.size (w1.heap.size + 1) (w.heap.size + 1 + 1 + 1 + 1) w.heap.size (w1.heap.size + 1 + 1) (w.heap.size + 1 + 1 + 1) j w1.heap.size 0 f zs 0 (.int .i64 k) (.bool false) (.int .u32 0) (.int .u32 0) (.slice none 0 0) (.slice none 0 0) (.slice none 0 0) (.slice none 0 0) _ W4 (hF.rest R4 hgf) hf hno o10 o12 (o91.step b4) rfl (o31.step b4) o13 (o81.step b4) (rB.below b4) hl (by omega) (by omega)).mono ?_
    rintro e w5 ⟨rfl, oR5, R5⟩
    have oA5 := R5.own (oA1.step b4) (by omega)
    have oV5 := R5.own (oV1.step b4) (by omega)
    have R6 := Lib.hid (R4.trans R5 (fun i hi e => by omega))
    have HX := Lib.hid (And.intro oA5 (And.intro oV5 oR5))
    clear oA5 oV5 oR5 R5 R4 o10 o12 o13 b4 oA1 oV1 o31 o81 o91 rB R1
    go_wp2_with fail
    go_step3
    exact ⟨rfl, _, _, _, _, _, _, _, _, _, _, _, _, _, _, _, _, _, _, _, _, _, _, _, _, _, _, _, _, _, _, _, _, _, _, _, _, _, _, _, _, _, rfl, HX.out.1, HX.out.2.1, HX.out.2.2, R6.out⟩
  case pass =>
    rintro a' w' ⟨u4, u5, u10, u11, u12, u13, u14, u15, u16, u17, u18, u19, u20, u21, u22, u23, u24, u25, u26, u27, u28, u29, u30, u31, u32, u33, u34, u35, u36, u37, u38, u39, u40, u41, u42, u43, u44, u45, u46, u47, u48, rfl, oA, oV, oR, R⟩
    have ha0 := oA.cell (i := 0) (v := .int .i64 0) rfl
    have fa0 := oA.frozen 0
    have ha1 := oA.cell (i := 1) (v := .bool false) rfl
    have fa1 := oA.frozen 1
    have ha2 := oA.cell (i := 2) (v := .int .u32 0) rfl
    have fa2 := oA.frozen 2
    have ha3 := oA.cell (i := 3) (v := .int .u32 0) rfl
    have fa3 := oA.frozen 3
    have ha4 := oA.cell (i := 4) (v := .slice none 0 0) rfl
    have fa4 := oA.frozen 4
    have ha5 := oA.cell (i := 5) (v := .slice none 0 0) rfl
    have fa5 := oA.frozen 5
    have ha6 := oA.cell (i := 6) (v := .slice none 0 0) rfl
    have fa6 := oA.frozen 6
    have ha7 := oA.cell (i := 7) (v := .int .i64 0) rfl
    have fa7 := oA.frozen 7
    have ha8 := oA.cell (i := 8) (v := .slice none 0 0) rfl
    have fa8 := oA.frozen 8
    have hv0 := oV.cell (i := 0) (v := .int .i64 0) rfl
    have fv0 := oV.frozen 0
    have hv1 := oV.cell (i := 1) (v := .int .i64 0) rfl
    have fv1 := oV.frozen 1
    have hv2 := oV.cell (i := 2) (v := .int .i64 0) rfl
    have fv2 := oV.frozen 2
    have hv3 := oV.cell (i := 3) (v := .slice none 0 0) rfl
    have fv3 := oV.frozen 3
    have hv4 := oV.cell (i := 4) (v := .int .i64 0) rfl
    have fv4 := oV.frozen 4
    have hr0 := oR.cell (i := 0) (v := .int .i64 1) rfl
    have hr1 := oR.cell (i := 1) (v := .int .i64 0) rfl
    have hr2 := oR.cell (i := 2) (v := .int .i64 0) rfl
    have hr3 := oR.cell (i := 3) (v := .slice none 0 0) rfl
    have hr4 := oR.cell (i := 4) (v := .int .i64 0) rfl
    have la := oA.lt
    have lv := oV.lt
    have lr := oR.lt
    have HX := Lib.hid (And.intro oA (And.intro oV R))
    clear oA oV oR R
    go_wp2_with fail
    go_region
    obtain ⟨W, hW, F1, F2, F3⟩ := mst_all w' w (w.heap.size + 1) 30 38 (.int .i64 0) (.bool false) (.int .u32 0) (.int .u32 0) (.slice none 0 0) (.slice none 0 0) (.slice none 0 0) (.int .i64 0) (.slice none 0 0) (.int .i64 0) (.int .i64 0) (.int .i64 0) (.slice none 0 0) (.int .i64 0) (.int .i64 0) (.bool false) (.int .u32 0) (.int .u32 0) (.slice none 0 0) (.slice none 0 0) (.slice none 0 0) (.int .i64 0) (.slice none 0 0) (.int .i64 1) (.int .i64 0) (.int .i64 0) (.slice none 0 0) (.int .i64 0) _ HX.out.1 HX.out.2.1 HX.out.2.2 (by omega)
    rw [← hW]
    clear hW HX ha0 fa0 ha1 fa1 ha2 fa2 ha3 fa3 ha4 fa4 ha5 fa5 ha6 fa6 ha7 fa7 ha8 fa8 hv0 fv0 hv1 fv1 hv2 fv2 hv3 fv3 hv4 fv4 hr0 hr1 hr2 hr3 hr4 la lv lr
    go_wp2_with fail
    dsimp only [Exit.jump]
    refine bodyPost_ret (results_mp2 (p := 6) (q := 7) (fn := Tryd.f14) rfl _ _ (w.heap.size + 1) 30 #[.int .i64 0, .bool false, .int .u32 0, .int .u32 0, .slice none 0 0, .slice none 0 0, .slice none 0 0, .int .i64 0, .slice none 0 0] _ (w.heap.size + 1 + 1) 38 #[.int .i64 1, .int .i64 0, .int .i64 0, .slice none 0 0, .int .i64 0] _ rfl F1 at_descM rfl (at_infoM _ _ _ _ _ _ _ _ _) rfl F2 vd_descM rfl (vd_infoM _ _ _ _ _)) rfl ⟨rfl, F3⟩
end Go.Proofs.YtmlmgjdjbpipcaaDoor

/- XMqMz: XTab, XTied, XStruct, XBstr, XHdSQ, XMpN, XMqJ, XMqL, XMqK, XMqM in one text -/
import Derived.Test.YtmlmgjdjbpipcaaDoorWords
import Derived.ProofKit
import Derived.OpenShut
import Derived.ChangeArms
import Derived.MakeChecks
import Derived.Deep.Slices
import Derived.Test.YtmlmgjdjbpipcaaDoorRfD
import Derived.Test.YtmlmgjdjbpipcaaDoorRows
import Derived.Deep.RegionHeld
import Derived.Test.YtmlmgjdjbpipcaaDoorLeaf
import Derived.Lib.SmallJoins
import Derived.Test.YtmlmgjdjbpipcaaDoorOwn
import Derived.Laws.BytesArg
import Derived.Test.YtmlmgjdjbpipcaaDoorMpC
import Derived.Test.YtmlmgjdjbpipcaaDoorMqMa
import Derived.Test.YtmlmgjdjbpipcaaDoorNqR
import Derived.Test.YtmlmgjdjbpipcaaDoorMqMi
import Derived.Test.YtmlmgjdjbpipcaaDoorMqMh
import Derived.Test.YtmlmgjdjbpipcaaDoorMqMb
import Derived.Deep.DeepCutAuto
/- What the cells of a package-level variable hold whose datum is known -/
namespace Go.Proofs.YtmlmgjdjbpipcaaDoor
open Go.ChangeShapes Go.WideShapes Go.RowKit

/-- The leaf of a value of type t at cell i: its type and its datum. -/
def leafD {H : Type} (P : Program) : Nat → TypeId → Nat → DataW H → Option (TypeId × DataW H)
  | 0, _, _, _ => none
  | n + 1, t, i, d => match P.underlying t, d with
    | some (.struct fs), .agg ds => ((fs.toList.zip ds).find? fun f => decide (f.1.offset ≤ i ∧ i < f.1.offset + P.cellsOf f.1.type)).bind fun f => leafD P n f.1.type (i - f.1.offset) f.2
    | some (.array k e), .agg ds => if i / P.cellsOf e < k ∧ i % P.cellsOf e < P.cellsOf e then (ds[i / P.cellsOf e]?).bind (leafD P n e (i % P.cellsOf e)) else none
    | some (.int _), d => if i = 0 then some (t, d) else none
    | some .string, d => if i = 0 then some (t, d) else none
    | _, _ => none
def leafV {H : Type} (P : Program) (n : Nat) (t : TypeId) (i : Nat) (d : DataW H) : Option Value :=
  match leafD P n t i d with
  | some (l, .lit (.int k z)) => match P.underlying l with
    | some (.int k') => if k = k' then some (.int k z) else none
    | _ => none
  | some (l, .lit (.string s)) => match P.underlying l with
    | some .string => some (.string ⟨s.toArray⟩)
    | _ => none
  | _ => none

theorem part_of {cs : List Value} {o s i : Nat} (h1 : o ≤ i) (h2 : i < o + s) : ((((cs.drop o).take s).drop (i - o)).take 1) = (cs.drop i).take 1 := by
  rw [List.drop_take, List.drop_drop, List.take_take, show min 1 (s - (i - o)) = 1 by omega, show o + (i - o) = i by omega]
section
variable {H : Type} {enc : TypeId × Value → H} {P : Program} {w : World} {base : Nat} {spare : Nat → Bool} {held : Bool}
theorem trod_leafD : ∀ (n : Nat) {t : TypeId} {i : Nat} {l : TypeId} {dl : DataW H} {fuel : Nat} {cs : List Value} {x : DataW H × List MemPlace}, leafD P n t i x.1 = some (l, dl) → DataW.trod enc P w base spare held fuel t cs = some x →
    ∃ fuel' y, DataW.trod enc P w base spare held fuel' l ((cs.drop i).take 1) = some y ∧ y.1 = dl := by
  intro n
  induction n with
  | zero => intro t i l dl fuel cs x h; simp [leafD] at h
  | succ n ih =>
    intro t i l dl fuel cs x h hx
    unfold leafD at h
    split at h
    · rename_i fs ds ht hd
      obtain ⟨⟨f, d'⟩, hf, hlf⟩ := Option.bind_eq_some_iff.1 h
      have hmem := List.mem_of_find?_eq_some hf
      have hp := List.find?_some hf
      simp only [decide_eq_true_eq] at hp
      obtain ⟨xs, m, _, hxe, hcl, hxl, hg⟩ := DataW.trod_struct ht hx
      obtain ⟨j, hj⟩ := List.getElem?_of_mem hmem
      rw [List.getElem?_zip_eq_some] at hj
      have hj' : fs[j]? = some f := by rw [← Array.getElem?_toList]; exact hj.1
      have hjl : j < xs.length := by rw [hxl]; exact (Array.getElem?_eq_some_iff.1 hj').1
      have h1 := hg j f hj'
      rw [List.getElem?_eq_getElem hjl] at h1
      have hdd : (xs[j]'hjl).1 = d' := by
        have h2 := hj.2
        rw [hxe] at hd
        injection hd with hd
        rw [← hd, List.getElem?_map, List.getElem?_eq_getElem hjl] at h2
        exact Option.some.inj h2
      obtain ⟨fuel', y, hy, hyd⟩ := ih (x := xs[j]'hjl) (by rw [hdd]; exact hlf) h1
      rw [part_of hp.1 hp.2] at hy
      exact ⟨fuel', y, hy, hyd⟩
    · rename_i k e ds ht hd
      split at h
      · rename_i hc
        obtain ⟨xs, m, _, hxe, hcl, hxl, hg⟩ := DataW.trod_array ht hx
        obtain ⟨d', hd', hlf⟩ := Option.bind_eq_some_iff.1 h
        have hjl : i / P.cellsOf e < xs.length := by rw [hxl]; exact hc.1
        have h1 := hg (i / P.cellsOf e) hc.1
        rw [List.getElem?_eq_getElem hjl] at h1
        have hdd : (xs[i / P.cellsOf e]'hjl).1 = d' := by
          rw [hxe] at hd
          injection hd with hd
          rw [← hd, List.getElem?_map, List.getElem?_eq_getElem hjl] at hd'
          exact Option.some.inj hd'
        obtain ⟨fuel', y, hy, hyd⟩ := ih (x := xs[i / P.cellsOf e]'hjl) (by rw [hdd]; exact hlf) h1
        have e1 : i % P.cellsOf e = i - i / P.cellsOf e * P.cellsOf e := by rw [Nat.mul_comm]; have := Nat.div_add_mod i (P.cellsOf e); omega
        have e2 : i / P.cellsOf e * P.cellsOf e ≤ i := Nat.div_mul_le_self _ _
        rw [e1, part_of e2 (by have := hc.2; omega)] at hy
        exact ⟨fuel', y, hy, hyd⟩
      · cases h
    · rename_i k ht
      split at h
      · rename_i h0
        obtain ⟨rfl, rfl⟩ := Prod.mk.inj (Option.some.inj h)
        obtain ⟨z, hz, _⟩ := DataW.trod_int ht hx
        subst h0 hz
        exact ⟨fuel, x, hx, rfl⟩
      · cases h
    · rename_i ht
      split at h
      · rename_i h0
        obtain ⟨rfl, rfl⟩ := Prod.mk.inj (Option.some.inj h)
        obtain ⟨z, hz, _⟩ := DataW.trod_string ht hx
        subst h0 hz
        exact ⟨fuel, x, hx, rfl⟩
      · cases h
    · cases h
theorem leaf_read {n : Nat} {t : TypeId} {i : Nat} {v : Value} {fuel : Nat} {cs : List Value} {x : DataW H × List MemPlace} (h : leafV P n t i x.1 = some v) (hx : DataW.trod enc P w base spare held fuel t cs = some x) : cs[i]? = some v := by
  unfold leafV at h
  split at h
  · rename_i l k z hl
    split at h
    · rename_i k' hu
      split at h
      · rename_i hk
        subst hk
        obtain rfl := Option.some.inj h
        obtain ⟨f', y, hy, hyd⟩ := trod_leafD n hl hx
        obtain ⟨q, hq, hq2, _⟩ := DataW.trod_int hu hy
        rw [hq2] at hyd
        have e : q = z := by injection hyd with hyd; injection hyd
        subst e
        have h3 := congrArg (fun l => l[0]?) hq
        simpa [List.getElem?_take, List.getElem?_drop] using h3
      · cases h
    · cases h
  · rename_i l s hl
    split at h
    · rename_i hu
      obtain rfl := Option.some.inj h
      obtain ⟨f', y, hy, hyd⟩ := trod_leafD n hl hx
      obtain ⟨q, hq, hq2, _⟩ := DataW.trod_string hu hy
      rw [hq2] at hyd
      have e : q.data.toList = s := by injection hyd with hyd; injection hyd
      have e2 : q = ⟨s.toArray⟩ := by rw [← e]
      subst e2
      have h3 := congrArg (fun l => l[0]?) hq
      simpa [List.getElem?_take, List.getElem?_drop] using h3
    · cases h
  · cases h
end
theorem laid_read {P : Program} {W : World} {d : DataW Unit} {nm : String} : ∀ {l : List (String × DataW Unit)} {ps : List MemPlace}, DataW.LaidVars P W l ps → (nm, d) ∈ l →
    ∃ g t cs fuel p, P.globalNamed nm = some g ∧ (P.globals[g]?).map (·.type) = some t ∧ W.var? P nm = some cs ∧ DataW.trod (fun _ => ()) P W 0 (fun _ => true) false fuel t cs.toList = some (d, p)
  | (n, d') :: r, ps, h, hm => by
    obtain ⟨g, t, cs, fuel, p, q, h1, h2, h3, h4, h5, _⟩ := h
    rcases List.mem_cons.1 hm with he | hm
    · obtain ⟨rfl, rfl⟩ := Prod.mk.inj he
      exact ⟨g, t, cs, fuel, p, h1, h2, h3, h4⟩
    · exact laid_read h5 hm
/-- The cells of a laid variable. -/
theorem laid_cells {P : Program} {W : World} {l : List (String × DataW Unit)} (hm : laidMet P l W) {nm : String} {d : DataW Unit} (hd : (nm, d) ∈ l) {g : Nat} {t : TypeId} (hg : P.globalNamed nm = some g) (ht : (P.globals[g]?).map (·.type) = some t)
    (n : Nat) {vals : List Value} (hv : (List.range vals.length).map (fun i => leafV P n t i d) = vals.map some) : ∀ i v, vals[i]? = some v → W.cell? ⟨g, i, none⟩ = some v := by
  intro i v hi
  obtain ⟨ps, hl, _⟩ := hm
  obtain ⟨g', t', cs, fuel, p, h1, h2, h3, h4⟩ := laid_read hl hd
  obtain rfl := Option.some.inj (hg.symm.trans h1)
  obtain rfl := Option.some.inj (ht.symm.trans h2)
  rw [World.var?_cell h1 h3, ← Array.getElem?_toList]
  refine leaf_read (n := n) ?_ h4
  have hil : i < vals.length := (List.getElem?_eq_some_iff.1 hi).1
  have e := congrArg (fun l => l[i]?) hv
  simp only [List.getElem?_map, List.getElem?_range hil, hi, Option.map_some] at e
  exact Option.some.inj e
end Go.Proofs.YtmlmgjdjbpipcaaDoor

/- What a tied row's condition gives the walks -/
namespace Go.Proofs.YtmlmgjdjbpipcaaDoor
open Go.ChangeShapes Go.WideShapes Go.RowKit

set_option maxRecDepth 100000 in
theorem fams_of {l : List (String × DataW Unit)} {W : World} (h : laidMetH Tryd.prog l W) (hp : (l.all fun x => x.2.handleName?.isNone) = true) (hm : ("peerage/mp.families", Rows.laid_peerage_mp_families) ∈ l) : Fams W := by
  rw [MakeChecks.laidMetH_plain _ _ _ hp] at h
  have hc := laid_cells h hm (g := 0) (t := 80) (by kernel_rfl) (by kernel_rfl) 5 (vals := [.string ⟨#[]⟩, .int .u32 0, .string ⟨#[105, 112, 118, 52]⟩, .int .u32 1, .string ⟨#[105, 112, 118, 54]⟩, .int .u32 2]) (by kernel_rfl)
  have h3 := hc 3 _ rfl
  exact ⟨h3, hc 5 _ rfl, World.block_lt_of_cell? W _ h3⟩
end Go.Proofs.YtmlmgjdjbpipcaaDoor

/- Struct arguments opened to their cells -/
namespace Go.Proofs.YtmlmgjdjbpipcaaDoor
open Go.ChangeShapes Go.WideShapes Go.ChangeAt Go.RowKit Go.Deep

theorem arr3 {C : Array Value} {x y z : Value} (h : C.size = 3) (h0 : C.toList[0]? = some x) (h1 : C.toList[1]? = some y) (h2 : C.toList[2]? = some z) : C = #[x, y, z] := by
  obtain ⟨l⟩ := C
  match l, h, h0, h1, h2 with
  | [a, b, c], _, h0, h1, h2 =>
    simp at h0 h1 h2
    subst h0 h1 h2
    rfl
theorem arr6 {C : Array Value} {x y z u v t : Value} (h : C.size = 6) (h0 : C.toList[0]? = some x) (h1 : C.toList[1]? = some y) (h2 : C.toList[2]? = some z) (h3 : C.toList[3]? = some u) (h4 : C.toList[4]? = some v) (h5 : C.toList[5]? = some t) : C = #[x, y, z, u, v, t] := by
  obtain ⟨l⟩ := C
  match l, h, h0, h1, h2, h3, h4, h5 with
  | [a, b, c, d, e, f], _, h0, h1, h2, h3, h4, h5 =>
    simp at h0 h1 h2 h3 h4 h5
    subst h0 h1 h2 h3 h4 h5
    rfl
end Go.Proofs.YtmlmgjdjbpipcaaDoor

/- Bytes as a string -/
namespace Go.Proofs.YtmlmgjdjbpipcaaDoor
open Go.RowKit

set_option maxRecDepth 100000 in
theorem bytes_str {w : World} {B : Nat} {A : Option Addr} {n c : Nat} {xs : List Int} (hx : Bytes w B A n xs) : (convert 27 9 (.slice A n c)).run Tryd.prog w = Result.ok (.string (strOfNums xs)) w := by
  have hlen : xs.length = n := hx.1.symm
  rcases hx.2.2 with h0 | ⟨b, o, rfl, hb, hc⟩
  · obtain rfl : xs = [] := by simpa using h0
    cases A with
    | none => exact run_convert_bytes_nil w 27 5 Tryd.underlying27 Tryd.underlying5 n c 9 Tryd.underlying9
    | some a =>
      obtain ⟨b, o, s⟩ := a
      obtain rfl : n = 0 := by rw [hx.1]; rfl
      cases s with
      | none => exact run_convert_bytes_arg w 27 5 Tryd.underlying27 Tryd.underlying5 b o 0 c [] rfl (fun i hi => absurd hi (Nat.not_lt_zero i)) 9 Tryd.underlying9
      | some s =>
        rw [run_convert_bytes_string w _ _ 5 _ _ _ Tryd.underlying27 Tryd.underlying5 Tryd.underlying9, run_bytesToString w _ 0 c [] (by simpa using run_loadCells_list (P := Tryd.prog) w _ [] (fun j v hj => by simp at hj))]
        rfl
  · refine run_convert_bytes_arg w 27 5 Tryd.underlying27 Tryd.underlying5 b o n c xs hlen (fun i hi => ?_) 9 Tryd.underlying9
    have hi2 : i < xs.length := by omega
    exact hc i _ (by rw [List.getElem?_map, nth_some hi2]; rfl)
end Go.Proofs.YtmlmgjdjbpipcaaDoor

/- (as XHdS, with few imports) peerageref01.Same, peerageref04.Same at what is equal -/
namespace Go.Proofs.YtmlmgjdjbpipcaaDoor
open Go.RowKit

set_option maxRecDepth 100000 in
theorem rsame1_same (A A2 : Option Addr) (n n2 c c2 : Nat) (xs : List Int) (w : World) (B B2 : Nat) (hx : Bytes w B A n xs) (hy : Bytes w B2 A2 n2 xs) :
    Calls Tryd.prog 49 #[.slice A n c, .slice A2 n2 c2] w fun e w' => e = .returned (.bool true) ∧ w = w' := by
  have h1 := bytes_str (c := c) hx
  have h2 := bytes_str (c := c2) hy
  generalize strOfNums xs = s at h1 h2
  go_enter Tryd.func49, Tryd.ntmps49
  go_wp2
  go_ret
  exact ⟨by simp, rfl⟩
set_option maxRecDepth 100000 in
set_option maxHeartbeats 800000 in
theorem vsame_same (a b c d : Int) (A A2 : Option Addr) (n n2 c1 c2 : Nat) (xs : List Int) (w : World) (hx : Bytes w w.heap.size A n xs) (hy : Bytes w w.heap.size A2 n2 xs) :
    Calls Tryd.prog 16 #[.agg #[.int .i64 a, .int .i64 b, .int .i64 c, .slice A n c1, .int .i64 d], .agg #[.int .i64 a, .int .i64 b, .int .i64 c, .slice A2 n2 c2, .int .i64 d]] w fun e w' => e = .returned (.bool true) ∧ Below w.heap.size w w' := by
  have hb := bl_alloc (bl_alloc (bl_refl w) (.cells #[.int .i64 a, .int .i64 b, .int .i64 c, .slice A n c1, .int .i64 d] 38)) (.cells #[.int .i64 a, .int .i64 b, .int .i64 c, .slice A2 n2 c2, .int .i64 d] 38)
  have hx1 := hx.below hb
  have hy1 := hy.below hb
  have qa : (a == a) = true := by simp
  have qb : (b == b) = true := by simp
  have qc : (c == c) = true := by simp
  have qd : (d == d) = true := by simp
  go_enter Tryd.func16, Tryd.ntmps16
  go_wp2_with fail
  refine (rsame1_same _ _ _ _ _ _ _ _ _ _ hx1 hy1).mono ?_
  rintro e w1 ⟨rfl, rfl⟩
  go_wp2
  go_ret
  exact ⟨rfl, hb⟩
end Go.Proofs.YtmlmgjdjbpipcaaDoor

/- peerageref12.Same at what is equal; that both ends hold the same attributes for valid -/
namespace Go.Proofs.YtmlmgjdjbpipcaaDoor
open Go.RowKit

theorem mv_eq (a2 a3 a4 a5 : Bool) (a : At) (rs : List Rt) : rmvB a2 a3 a4 a5 a rs = mvB a2 a3 a4 a5 a rs := by
  cases hm : mvB a2 a3 a4 a5 a rs with
  | true =>
    unfold mvB at hm
    simp only [Bool.and_eq_true] at hm
    obtain ⟨h1, h2, h3, h4, h5, h6⟩ := hm
    have hk : a.k = 14 ∨ a.k = 15 := by unfold hasB at h1; exact of_decide_eq_true h1
    have hf := famB_12 h3
    have h6 := of_decide_eq_true h6
    have hh : (if a.k = 15 then decide (a.n3 = 0) else hopB a.f a.n3) = true := by
      unfold hop2B at h5
      rcases hk with e | e
      · rw [if_pos e] at h5
        rw [if_neg (by omega)]
        exact h5
      · rw [if_neg (by omega)] at h5
        rw [if_pos e]
        exact h5
    have hp : a.p = false := by simpa using h2
    unfold rmvB shB bareM
    rw [h1, h3, h4, hh, decide_eq_true hf, hp, decide_eq_true (show a.n1 = 0 ∧ a.n2 = 0 from ⟨h6.2.2.1, h6.2.2.2⟩), decide_eq_true (show a.N = 0 ∧ a.M = 0 from ⟨h6.1, h6.2.1⟩)]
    rfl
  | false =>
    cases hr : rmvB a2 a3 a4 a5 a rs with
    | false => rfl
    | true =>
      exfalso
      unfold rmvB shB bareM at hr
      simp only [Bool.and_eq_true, decide_eq_true_eq] at hr
      obtain ⟨h1, h2, h3, ⟨⟨h4, h5⟩, ⟨h6, h7⟩, h8⟩, h9, h10⟩ := hr
      have hk : a.k = 14 ∨ a.k = 15 := by unfold hasB at h2; exact of_decide_eq_true h2
      have hh : hop2B a = true := by
        unfold hop2B
        rcases hk with e | e
        · rw [if_pos e]
          rw [if_neg (by omega)] at h10
          exact h10
        · rw [if_neg (by omega)]
          rw [if_pos e] at h10
          exact h10
      unfold mvB at hm
      rw [h1, h2, h8, h9, hh, decide_eq_true (show a.N = 0 ∧ a.M = 0 ∧ a.n1 = 0 ∧ a.n2 = 0 from ⟨h6, h7, h4, h5⟩)] at hm
      cases hm
set_option maxRecDepth 100000 in
set_option maxHeartbeats 3200000 in
theorem rsame12_eq (k f : Int) (p p' : Bool) (N M N' M' : Int) (A1 : Option Addr) (n1 c1 : Nat) (A2 : Option Addr) (n2 c2 : Nat) (A3 : Option Addr) (n3 c3 : Nat) (A4 : Option Addr) (n4 c4 : Nat) (B1 : Option Addr) (m1 d1 : Nat) (B2 : Option Addr) (m2 d2 : Nat) (B3 : Option Addr) (d3 : Nat) (B4 : Option Addr) (d4 : Nat) (bs : List Int) (rs : List Rt) (w : World) (hx : Bytes w w.heap.size A3 n3 bs) (hy : Bytes w w.heap.size B3 n3 bs) (rx : Routes w w.heap.size A4 n4 rs) (ry : Routes w w.heap.size B4 n4 rs) (hn : n4 ≤ 1000000000)
    (hbx : bareM ⟨k, p, N, M, A1, n1, c1, A2, n2, c2, A3, n3, c3, f, A4, n4, c4⟩ = true) (hby : bareM ⟨k, p', N', M', B1, m1, d1, B2, m2, d2, B3, n3, d3, f, B4, n4, d4⟩ = true) :
    Calls Tryd.prog 17 #[.agg #[.int .i64 k, .bool p, .int .u32 N, .int .u32 M, .slice A1 n1 c1, .slice A2 n2 c2, .slice A3 n3 c3, .int .i64 f, .slice A4 n4 c4], .agg #[.int .i64 k, .bool p', .int .u32 N', .int .u32 M', .slice B1 m1 d1, .slice B2 m2 d2, .slice B3 n3 d3, .int .i64 f, .slice B4 n4 d4]] w fun e w' => e = .returned (.bool true) ∧ Below w.heap.size w w' := by
  have b2 := bl_alloc (bl_alloc (bl_refl w) (.cells #[.int .i64 k, .bool p, .int .u32 N, .int .u32 M, .slice A1 n1 c1, .slice A2 n2 c2, .slice A3 n3 c3, .int .i64 f, .slice A4 n4 c4] 30)) (.cells #[.int .i64 k, .bool p', .int .u32 N', .int .u32 M', .slice B1 m1 d1, .slice B2 m2 d2, .slice B3 n3 d3, .int .i64 f, .slice B4 n4 d4] 30)
  have o1 := (Own.new w 30 #[.int .i64 k, .bool p, .int .u32 N, .int .u32 M, .slice A1 n1 c1, .slice A2 n2 c2, .slice A3 n3 c3, .int .i64 f, .slice A4 n4 c4]).alloc (.cells #[.int .i64 k, .bool p', .int .u32 N', .int .u32 M', .slice B1 m1 d1, .slice B2 m2 d2, .slice B3 n3 d3, .int .i64 f, .slice B4 n4 d4] 30)
  have o2 := Own.new (w.alloc (.cells #[.int .i64 k, .bool p, .int .u32 N, .int .u32 M, .slice A1 n1 c1, .slice A2 n2 c2, .slice A3 n3 c3, .int .i64 f, .slice A4 n4 c4] 30)) 30 #[.int .i64 k, .bool p', .int .u32 N', .int .u32 M', .slice B1 m1 d1, .slice B2 m2 d2, .slice B3 n3 d3, .int .i64 f, .slice B4 n4 d4]
  rw [show (w.alloc (.cells #[.int .i64 k, .bool p, .int .u32 N, .int .u32 M, .slice A1 n1 c1, .slice A2 n2 c2, .slice A3 n3 c3, .int .i64 f, .slice A4 n4 c4] 30)).heap.size = w.heap.size + 1 by simp] at o2
  have H1 := Lib.hid (fun W => rmbare_any ⟨k, p, N, M, A1, n1, c1, A2, n2, c2, A3, n3, c3, f, A4, n4, c4⟩ W)
  rw [hbx] at H1
  have H2 := Lib.hid (fun W => rmbare_any ⟨k, p', N', M', B1, m1, d1, B2, m2, d2, B3, n3, d3, f, B4, n4, d4⟩ W)
  rw [hby] at H2
  have HS := Lib.hid (fun W (h : Below w.heap.size w W) => rsame1_same A3 B3 n3 n3 c3 d3 bs W w.heap.size w.heap.size (hx.below h) (hy.below h))
  have HR := Lib.hid (fun W (h : Below w.heap.size w W) => rsame3_same A4 B4 n4 c4 d4 rs W w.heap.size w.heap.size (rx.below h) (ry.below h) hn)
  have q1 : (k == k) = true := by simp
  have q2 : (f == f) = true := by simp
  unfold atc at H1 H2
  clear hx hy rx ry hbx hby
  go_enter Tryd.func17, Tryd.ntmps17
  go_wp2_with fail
  refine (HS.out _ b2).mono ?_
  rintro e w' ⟨rfl, rfl⟩
  go_wp2_with fail
  refine (HR.out _ b2).mono ?_
  rintro e w1 ⟨rfl, hb1⟩
  replace o1 := o1.step hb1
  replace o2 := o2.step hb1
  replace b2 := bl_trans b2 hb1
  obtain ⟨c0, c1', c2', c3', c4', c5, c6, c7, c8⟩ := at_cells o1
  clear hb1
  go_wp2_with fail
  refine (H1.out _).mono ?_
  rintro e w2 ⟨rfl, hb1⟩
  replace o2 := o2.step hb1
  replace b2 := bl_trans b2 hb1
  clear hb1 o1 c0 c1' c2' c3' c4' c5 c6 c7 c8
  obtain ⟨c0, c1', c2', c3', c4', c5, c6, c7, c8⟩ := at_cells o2
  go_wp2_with fail
  refine (H2.out _).mono ?_
  rintro e w3 ⟨rfl, hb1⟩
  have B4' := Lib.hid (bl_trans b2 hb1)
  clear hb1 b2 o2 c0 c1' c2' c3' c4' c5 c6 c7 c8
  go_wp2
  go_ret
  exact ⟨rfl, B4'.out⟩
end Go.Proofs.YtmlmgjdjbpipcaaDoor

/- peerageref12.Read at a reach; what both ends read, told in one form -/
namespace Go.Proofs.YtmlmgjdjbpipcaaDoor
open Go.RowKit

set_option maxRecDepth 100000 in
theorem rmread_any (a0 a1 a2 a3 a4 a5 : Bool) (A : Option Addr) (c : Nat) (xs : List Int) (w : World) (hx : Bytes w w.heap.size A xs.length xs) (hc : xs.length ≤ c) (hn : xs.length ≤ 500) :
    Calls Tryd.prog 19 #[.agg #[.bool a0, .bool a1, .bool a2, .bool a3, .bool a4, .bool a5], .int .i64 14, .agg #[.slice A xs.length c, .int .i64 0]] w fun e w' => Below w.heap.size w w' ∧ ((∃ V, e = .returned (.tuple #[.agg zA9, .agg V]) ∧ MFail a2 a3 a4 a5 xs 0 V) ∨ (∃ A', e = .returned (.tuple #[.agg A', .agg zV5]) ∧ MGood a2 a3 a4 a5 xs w' A')) := by
  by_cases h3 : xs.length < 3
  · exact rmread_short a0 a1 a2 a3 a4 a5 A c xs w hx hc hn h3
  cases hfb : famB a2 a3 (mF xs)
  · exact rmread_nofam a0 a1 a2 a3 a4 a5 A c xs w hx hc hn h3 hfb
  by_cases h4 : xs.length < 4
  · exact rmread_hop1 a0 a1 a2 a3 a4 a5 A c xs w hx hc hn h3 hfb h4
  cases hh : hopB (mF xs) (mN xs)
  · exact rmread_hop2 a0 a1 a2 a3 a4 a5 A c xs w hx hc hn h3 hfb h4 hh
  by_cases h5 : xs.length < 4 + mN xs
  · exact rmread_hop3 a0 a1 a2 a3 a4 a5 A c xs w hx hc hn h3 hfb h4 hh h5
  by_cases h6 : xs.length = 4 + mN xs
  · exact rmread_res a0 a1 a2 a3 a4 a5 A c xs w hx hc hn h3 hfb h4 hh h5 (Lib.hid h6)
  by_cases hce : c = 5 + mN xs
  · exact rmread_routesE a0 a1 a2 a3 a4 a5 A c xs w hx hc hn h3 hfb h4 hh h5 (Lib.hid h6) (Lib.hid hce)
  · exact rmread_routesN a0 a1 a2 a3 a4 a5 A c xs w hx hc hn h3 hfb h4 hh h5 (Lib.hid h6) hce
/-- What either end hands back: an attribute (all zero where the value is refused) and a verdict. -/
def MRes (a2 a3 a4 a5 : Bool) (xs : List Int) (p : Int) (W : World) (k : Int) (A3 : Option Addr) (n3 c3 : Nat) (f : Int) (A4 : Option Addr) (n4 c4 : Nat) (k1 k2 k3 k5 : Int) : Prop :=
  (atR k A3 n3 c3 f A4 n4 c4 = zA9 ∧ k1 ≠ 0 ∧ MFail a2 a3 a4 a5 xs p #[.int .i64 k1, .int .i64 k2, .int .i64 k3, .slice none 0 0, .int .i64 k5]) ∨
  (k1 = 0 ∧ k2 = 0 ∧ k3 = 0 ∧ k5 = 0 ∧ MGood a2 a3 a4 a5 xs W (atR k A3 n3 c3 f A4 n4 c4))
theorem MFail.parts {a2 a3 a4 a5 : Bool} {xs : List Int} {p : Int} {V : Array Value} (h : MFail a2 a3 a4 a5 xs p V) : ∃ k1 k2 k3 k5, V = #[.int .i64 k1, .int .i64 k2, .int .i64 k3, .slice none 0 0, .int .i64 k5] ∧ k1 ≠ 0 := by
  rcases h with ⟨_, rfl⟩ | ⟨_, rfl⟩ | ⟨_, rfl⟩ | ⟨_, rfl⟩ | ⟨_, _, _, _, _, _, rfl⟩
  · exact ⟨_, _, _, _, rfl, by decide⟩
  · exact ⟨_, _, _, _, rfl, by decide⟩
  · exact ⟨_, _, _, _, rfl, by decide⟩
  · exact ⟨_, _, _, _, rfl, by decide⟩
  · exact ⟨_, _, _, _, rfl, by decide⟩
theorem mres_of {a2 a3 a4 a5 : Bool} {xs : List Int} {p : Int} {W : World} {e : Ending} (h : (∃ V, e = .returned (.tuple #[.agg zA9, .agg V]) ∧ MFail a2 a3 a4 a5 xs p V) ∨ (∃ A, e = .returned (.tuple #[.agg A, .agg zV5]) ∧ MGood a2 a3 a4 a5 xs W A)) :
    ∃ k A3 n3 c3 f A4 n4 c4 k1 k2 k3 k5, e = .returned (.tuple #[.agg (atR k A3 n3 c3 f A4 n4 c4), .agg #[.int .i64 k1, .int .i64 k2, .int .i64 k3, .slice none 0 0, .int .i64 k5]]) ∧ MRes a2 a3 a4 a5 xs p W k A3 n3 c3 f A4 n4 c4 k1 k2 k3 k5 := by
  rcases h with ⟨V, rfl, hV⟩ | ⟨A, rfl, hA⟩
  · obtain ⟨k1, k2, k3, k5, rfl, hk⟩ := hV.parts
    exact ⟨0, none, 0, 0, 0, none, 0, 0, k1, k2, k3, k5, rfl, .inl ⟨rfl, hk, hV⟩⟩
  · obtain ⟨ht, rs, A3, c3, A4, c4, hp, rfl, hb, hr⟩ := hA
    exact ⟨14, A3, mN xs, c3, mF xs, A4, rs.length, c4, 0, 0, 0, 0, rfl, .inr ⟨rfl, rfl, rfl, rfl, ht, rs, A3, c3, A4, c4, hp, rfl, hb, hr⟩⟩
end Go.Proofs.YtmlmgjdjbpipcaaDoor

/- what both ends read off the same bytes is the same -/
namespace Go.Proofs.YtmlmgjdjbpipcaaDoor
open Go.RowKit

theorem MRes.below {a2 a3 a4 a5 : Bool} {xs : List Int} {p : Int} {W W' : World} {k : Int} {A3 : Option Addr} {n3 c3 : Nat} {f : Int} {A4 : Option Addr} {n4 c4 : Nat} {k1 k2 k3 k5 : Int} (h : MRes a2 a3 a4 a5 xs p W k A3 n3 c3 f A4 n4 c4 k1 k2 k3 k5) (hb : Below W.heap.size W W') : MRes a2 a3 a4 a5 xs p W' k A3 n3 c3 f A4 n4 c4 k1 k2 k3 k5 := by
  rcases h with h | ⟨h1, h2, h3, h4, ht, rs, B3, d3, B4, d4, hp, he, hB, hR⟩
  · exact .inl h
  · exact .inr ⟨h1, h2, h3, h4, ht, rs, B3, d3, B4, d4, hp, he, (hB.below hb).more hb.size, (hR.below hb).more hb.size⟩
theorem atR_inj {k : Int} {A3 : Option Addr} {n3 c3 : Nat} {f : Int} {A4 : Option Addr} {n4 c4 : Nat} {k' : Int} {B3 : Option Addr} {m3 d3 : Nat} {f' : Int} {B4 : Option Addr} {m4 d4 : Nat} (h : atR k A3 n3 c3 f A4 n4 c4 = atR k' B3 m3 d3 f' B4 m4 d4) : k = k' ∧ A3 = B3 ∧ n3 = m3 ∧ c3 = d3 ∧ f = f' ∧ A4 = B4 ∧ n4 = m4 ∧ c4 = d4 := by
  unfold atR at h
  simp at h
  obtain ⟨h1, ⟨h2, h3, h4⟩, h5, h6, h7, h8⟩ := h
  exact ⟨h1, h2, h3, h4, h5, h6, h7, h8⟩
theorem vd_inj {a b c d a' b' c' d' : Int} (h : (#[.int .i64 a, .int .i64 b, .int .i64 c, .slice none 0 0, .int .i64 d] : Array Value) = #[.int .i64 a', .int .i64 b', .int .i64 c', .slice none 0 0, .int .i64 d']) : a = a' ∧ b = b' ∧ c = c' ∧ d = d' := by
  simp at h
  exact h
theorem MFail.join {a2 a3 a4 a5 : Bool} {xs : List Int} {p p' : Int} {k1 k2 k3 k5 j1 j2 j3 j5 : Int} (h : MFail a2 a3 a4 a5 xs p #[.int .i64 k1, .int .i64 k2, .int .i64 k3, .slice none 0 0, .int .i64 k5]) (h' : MFail a2 a3 a4 a5 xs p' #[.int .i64 j1, .int .i64 j2, .int .i64 j3, .slice none 0 0, .int .i64 j5]) : k1 = j1 ∧ k2 = j2 ∧ k3 = j3 ∧ k5 - p = j5 - p' := by
  rcases h with ⟨t, h⟩ | ⟨t, h⟩ | ⟨t, h⟩ | ⟨t, h⟩ | ⟨t, q, rs, hq, hp, ho, h⟩ <;> obtain ⟨e1, e2, e3, e4⟩ := vd_inj h <;> rcases h' with ⟨t', h'⟩ | ⟨t', h'⟩ | ⟨t', h'⟩ | ⟨t', h'⟩ | ⟨t', q', rs', hq', hp', ho', h'⟩ <;> obtain ⟨f1, f2, f3, f4⟩ := vd_inj h'
  case inr.inr.inr.inr.inr.inr.inr.inr =>
    rcases hp.cmp hp' with ⟨e, _⟩ | ⟨_, e⟩ | ⟨_, e⟩
    · subst e
      exact ⟨by omega, by omega, by omega, by omega⟩
    · rw [ho] at e
      cases e
    · rw [ho'] at e
      cases e
  all_goals (first | (exfalso; omega) | exact ⟨by omega, by omega, by omega, by omega⟩)
/-- Both refuse alike, or both read the same. -/
theorem MRes.join {a2 a3 a4 a5 : Bool} {xs : List Int} {p p' : Int} {W W' : World} {k : Int} {A3 : Option Addr} {n3 c3 : Nat} {f : Int} {A4 : Option Addr} {n4 c4 : Nat} {k1 k2 k3 k5 : Int} {k' : Int} {B3 : Option Addr} {m3 d3 : Nat} {f' : Int} {B4 : Option Addr} {m4 d4 : Nat} {j1 j2 j3 j5 : Int}
    (h : MRes a2 a3 a4 a5 xs p W k A3 n3 c3 f A4 n4 c4 k1 k2 k3 k5) (h' : MRes a2 a3 a4 a5 xs p' W' k' B3 m3 d3 f' B4 m4 d4 j1 j2 j3 j5) :
    (atR k A3 n3 c3 f A4 n4 c4 = zA9 ∧ atR k' B3 m3 d3 f' B4 m4 d4 = zA9 ∧ k1 ≠ 0 ∧ k1 = j1 ∧ k2 = j2 ∧ k3 = j3 ∧ k5 - p = j5 - p') ∨
    (k1 = 0 ∧ k2 = 0 ∧ k3 = 0 ∧ k5 = 0 ∧ j1 = 0 ∧ j2 = 0 ∧ j3 = 0 ∧ j5 = 0 ∧ k = k' ∧ f = f' ∧ n3 = m3 ∧ n4 = m4 ∧ ∃ bs rs, Bytes W W.heap.size A3 n3 bs ∧ Bytes W' W'.heap.size B3 n3 bs ∧ Routes W W.heap.size A4 n4 rs ∧ Routes W' W'.heap.size B4 n4 rs ∧ rs.length ≤ xs.length) := by
  rcases h with ⟨z, hk, hf⟩ | ⟨h1, h2, h3, h4, ht, rs, C3, e3, C4, e4, hp, he, hB, hR⟩ <;> rcases h' with ⟨z', hk', hf'⟩ | ⟨g1, g2, g3, g4, ht', rs', D3, i3, D4, i4, hp', he', hB', hR'⟩
  · obtain ⟨q1, q2, q3, q5⟩ := hf.join hf'
    exact .inl ⟨z, z', hk, q1, q2, q3, q5⟩
  · exfalso
    rcases hf with ⟨t, _⟩ | ⟨t, _⟩ | ⟨t, _⟩ | ⟨t, _⟩ | ⟨t, q, rs, hq, hp, ho, _⟩
    · omega
    · omega
    · omega
    · omega
    · rcases hp.cmp hp' with ⟨e, _⟩ | ⟨_, e⟩ | ⟨e, _⟩
      · omega
      · rw [ho] at e
        cases e
      · omega
  · exfalso
    rcases hf' with ⟨t, _⟩ | ⟨t, _⟩ | ⟨t, _⟩ | ⟨t, _⟩ | ⟨t, q, rs', hq, hp', ho, _⟩
    · omega
    · omega
    · omega
    · omega
    · rcases hp'.cmp hp with ⟨e, _⟩ | ⟨_, e⟩ | ⟨e, _⟩
      · omega
      · rw [ho] at e
        cases e
      · omega
  · obtain ⟨rfl, rfl, rfl, rfl, rfl, rfl, rfl, rfl⟩ := atR_inj he
    obtain ⟨rfl, rfl, rfl, rfl, rfl, rfl, rfl, rfl⟩ := atR_inj he'
    have hrs : rs = rs' := by
      rcases hp.cmp hp' with ⟨_, e⟩ | ⟨e, _⟩ | ⟨e, _⟩
      · exact e
      · omega
      · omega
    subst hrs
    exact .inr ⟨h1, h2, h3, h4, g1, g2, g3, g4, rfl, rfl, rfl, rfl, _, rs, hB, hB', hR, hR', by have h1 := hp.le.2; rw [List.length_drop] at h1; omega⟩
end Go.Proofs.YtmlmgjdjbpipcaaDoor

/- MpOffsets: the walk -/
namespace Go.Proofs.YtmlmgjdjbpipcaaDoor
open Go.RowKit

theorem RvSt.call_ {w W W' : World} {xs : List Int} {ab vb : Option Nat} {X Y : World → Prop} (h : RvSt w W xs ab vb none X false) (hb : Below W.heap.size W W') (hx : Y W') : RvSt w W' xs ab vb none Y true := by
  obtain ⟨h1, h2, h3, h4, h5⟩ := h
  exact ⟨bl_trans h1 hb, (fun b e => ⟨(h2 b e).1, (h2 b e).2.step hb⟩), (fun b e => ⟨(h3 b e).1, (h3 b e).2.step hb⟩), (fun i e => by cases e), (fun _ => hx)⟩
theorem KeepX.mres (a2 a3 a4 a5 : Bool) (xs : List Int) (p : Int) (k : Int) (A3 : Option Addr) (n3 c3 : Nat) (f : Int) (A4 : Option Addr) (n4 c4 : Nat) (k1 k2 k3 k5 : Int) : KeepX (fun W => MRes a2 a3 a4 a5 xs p W k A3 n3 c3 f A4 n4 c4 k1 k2 k3 k5) := by
  intro W W' h hs hk
  rcases h with h | ⟨h1, h2, h3, h4, ht, rs, B3, d3, B4, d4, hp, he, hB, hR⟩
  · exact .inl h
  · exact .inr ⟨h1, h2, h3, h4, ht, rs, B3, d3, B4, d4, hp, he, KeepX.bytes _ _ _ W W' hB hs hk, KeepX.routes _ _ _ W W' hR hs hk⟩
theorem mres_two {a2 a3 a4 a5 : Bool} {xs : List Int} {p : Int} {w W : World} {e : Ending} (h : Below w.heap.size w W ∧ ((∃ V, e = .returned (.tuple #[.agg zA9, .agg V]) ∧ MFail a2 a3 a4 a5 xs p V) ∨ (∃ A, e = .returned (.tuple #[.agg A, .agg zV5]) ∧ MGood a2 a3 a4 a5 xs W A))) :
    ∃ k A3 n3 c3 f A4 n4 c4 k1 k2 k3 k5, e = .returned (.tuple #[.agg (atR k A3 n3 c3 f A4 n4 c4), .agg #[.int .i64 k1, .int .i64 k2, .int .i64 k3, .slice none 0 0, .int .i64 k5]]) ∧ MRes a2 a3 a4 a5 xs p W k A3 n3 c3 f A4 n4 c4 k1 k2 k3 k5 ∧ Below w.heap.size w W := by
  obtain ⟨k, A3, n3, c3, f, A4, n4, c4, k1, k2, k3, k5, he, hm⟩ := mres_of h.2
  exact ⟨k, A3, n3, c3, f, A4, n4, c4, k1, k2, k3, k5, he, hm, h.1⟩
theorem MFail.bound {a2 a3 a4 a5 : Bool} {xs : List Int} {p k1 k2 k3 k5 : Int} (h : MFail a2 a3 a4 a5 xs p #[.int .i64 k1, .int .i64 k2, .int .i64 k3, .slice none 0 0, .int .i64 k5]) : p ≤ k5 ∧ k5 ≤ p + (xs.length : Int) + 3 := by
  rcases h with ⟨t, h⟩ | ⟨t, h⟩ | ⟨t, h⟩ | ⟨t, h⟩ | ⟨t, q, rs, hq, _, _, h⟩ <;> obtain ⟨_, _, _, e⟩ := vd_inj h
  · omega
  · omega
  · omega
  · have : xs.length = 4 + mN xs := by
      unfold mTag at t
      split at t
      · omega
      · split at t
        · omega
        · split at t
          · omega
          · split at t
            · assumption
            · omega
    omega
  · rw [List.length_drop] at hq
    omega
theorem vd_cellsO {W : World} {g : Nat} {T : TypeId} {a b c d e : Value} (o : Own W g T #[a, b, c, d, e]) : W.cell? ⟨g, 0, none⟩ = some a ∧ W.cell? ⟨g, 1, none⟩ = some b ∧ W.cell? ⟨g, 2, none⟩ = some c ∧ W.cell? ⟨g, 3, none⟩ = some d ∧ W.cell? ⟨g, 4, none⟩ = some e := ⟨o.cell rfl, o.cell rfl, o.cell rfl, o.cell rfl, o.cell rfl⟩
theorem six_cellsK {W : World} {g : Nat} {T : TypeId} {a b c d e f : Value} (o : Own W g T #[a, b, c, d, e, f]) : W.cell? ⟨g, 0, none⟩ = some a ∧ W.cell? ⟨g, 1, none⟩ = some b ∧ W.cell? ⟨g, 2, none⟩ = some c ∧ W.cell? ⟨g, 3, none⟩ = some d ∧ W.cell? ⟨g, 4, none⟩ = some e ∧ W.cell? ⟨g, 5, none⟩ = some f := ⟨o.cell rfl, o.cell rfl, o.cell rfl, o.cell rfl, o.cell rfl, o.cell rfl⟩
set_option maxRecDepth 100000 in
set_option maxHeartbeats 12800000 in
theorem mpoff_N (a0 a1 a2 a3 a4 a5 : Bool) (A : Option Addr) (c : Nat) (q : Int) (k : Nat) (bs : List Int) (w : World) (hF : Fams w) (hB : Bytes w w.heap.size A bs.length bs) (hc : bs.length ≤ c) (hq0 : 0 ≤ q) (hq1 : q ≤ 255) (h5 : ¬ 500 < bs.length) (hkl : k ≤ bs.length) (hrem : q % ((bs.length : Int) + 1) = (k : Int)) (hck : ¬ c = k) :
    Calls Tryd.prog 4 #[.agg #[.bool a0, .bool a1, .bool a2, .bool a3, .bool a4, .bool a5], .slice A bs.length c, .int .u8 q] w fun e w' => e = .returned (.bool true) ∧ Below w.heap.size w w' := by
  have b1 := bl_alloc (bl_refl w) (.cells #[.bool a0, .bool a1, .bool a2, .bool a3, .bool a4, .bool a5] 23)
  have o3 := Own.new w 23 #[.bool a0, .bool a1, .bool a2, .bool a3, .bool a4, .bool a5]
  have HAl := Lib.hid (fun W hW => alive12_any W hW)
  have HFm := Lib.hid (fun W (hb : Below w.heap.size w W) => (hF.rest (Rest.of_below hb (fun _ => False)) (fun h => h) : Fams W))
  have hckI : ¬ (c : Int) = (k : Int) := by omega
  have hckJ : ¬ (c : Int) - (k : Int) = 0 := by omega
  have hckN : ¬ c - k = 0 := by omega
  have hlt : ¬ (500 : Int) < (bs.length : Int) := by omega
  have hnz : ¬ ((bs.length : Int) + 1 = 0) := by omega
  have hw1 : IntKind.i64.wrap q = q := by rw [IntKind.wrap_i64]; omega
  have hx1 := (hB.below b1).more b1.size
  go_enter Tryd.func4, Tryd.ntmps4
  go_wp2_with fail
  refine (new_any A _ c bs _ hx1 (by omega)).mono ?_
  rintro e w1 ⟨j, rfl, hj, rj, hb1⟩
  have p3 := o3.step hb1
  have b2 := bl_trans b1 hb1
  have hjw : w.heap.size < j := by have : (w.alloc (.cells #[.bool a0, .bool a1, .bool a2, .bool a3, .bool a4, .bool a5] 23)).heap.size = w.heap.size + 1 := by simp
                                   omega
  clear o3 hb1 hx1 b1 hj
  go_wp2_with fail
  refine (take_yes j bs 0 (k : Int) _ rj (by omega) (by omega) (by omega) (by omega)).mono ?_
  rintro e w2 ⟨i, rfl, hi, oi, r2, hg2⟩
  rw [Int.toNat_natCast] at r2
  have R2 := grown_restM hg2
  have q3 := p3.byR R2 (rdr_typedK rj) mp_types2.2.2.2.1
  have b3 : Below w.heap.size w w2 := b2.trans (R2.to_below b2.size (fun i hi e => by
    have e2 : i = j := e
    omega))
  clear p3 b2 R2 oi rj hi hg2
  obtain ⟨y0, y1, y2, y3, y4, y5⟩ := six_cellsK q3
  have hFw := hF.2.2
  go_wp2_with fail
  refine (mread_any a0 a1 a2 a3 a4 a5 j (bs.drop k) (0 + k) w2 (HFm.out _ b3) r2 (by rw [List.length_drop]; omega) (by omega) (by omega)).mono ?_
  rintro e w3 ⟨R3, hres⟩
  obtain ⟨K, A3, n3, c3, f, A4, n4, c4, k1, k2, k3, k5, rfl, hM⟩ := mres_of hres
  unfold atR
  have b4 : Below w.heap.size w w3 := b3.trans (R3.to_below b3.size (fun i hi e => by
    have e2 : i = j := e
    omega))
  have s3 := R3.own q3 (show w.heap.size ≠ j by omega)
  clear y0 y1 y2 y3 y4 y5 q3 R3 r2 b3 hres
  have bz := bl_alloc (bl_alloc (bl_refl w3) (.cells #[.int .i64 K, .bool false, .int .u32 0, .int .u32 0, .slice none 0 0, .slice none 0 0, .slice A3 n3 c3, .int .i64 f, .slice A4 n4 c4] 30)) (.cells #[.int .i64 k1, .int .i64 k2, .int .i64 k3, .slice none 0 0, .int .i64 k5] 38)
  have o9 := (Own.new w3 30 #[.int .i64 K, .bool false, .int .u32 0, .int .u32 0, .slice none 0 0, .slice none 0 0, .slice A3 n3 c3, .int .i64 f, .slice A4 n4 c4]).alloc (.cells #[.int .i64 k1, .int .i64 k2, .int .i64 k3, .slice none 0 0, .int .i64 k5] 38)
  have o10 := Own.new (w3.alloc (.cells #[.int .i64 K, .bool false, .int .u32 0, .int .u32 0, .slice none 0 0, .slice none 0 0, .slice A3 n3 c3, .int .i64 f, .slice A4 n4 c4] 30)) 38 #[.int .i64 k1, .int .i64 k2, .int .i64 k3, .slice none 0 0, .int .i64 k5]
  rw [show (w3.alloc (.cells #[.int .i64 K, .bool false, .int .u32 0, .int .u32 0, .slice none 0 0, .slice none 0 0, .slice A3 n3 c3, .int .i64 f, .slice A4 n4 c4] 30)).heap.size = w3.heap.size + 1 by simp] at o10
  have u3 := s3.step bz
  have hM2 := hM.below bz
  have b5 := bl_trans b4 bz
  have HM := Lib.hid hM2
  clear hM hM2 s3 b4 bz
  have hkI : (k : Int) ≤ (bs.length : Int) := by omega
  have hcI : (bs.length : Int) ≤ (c : Int) := by omega
  have hk0 : (0 : Int) ≤ (k : Int) := by omega
  go_wp2_with fail
  obtain ⟨w4, hw4⟩ : ∃ z, z = (w3.alloc (.cells #[.int .i64 K, .bool false, .int .u32 0, .int .u32 0, .slice none 0 0, .slice none 0 0, .slice A3 n3 c3, .int .i64 f, .slice A4 n4 c4] 30)).alloc (.cells #[.int .i64 k1, .int .i64 k2, .int .i64 k3, .slice none 0 0, .int .i64 k5] 38) := ⟨_, rfl⟩
  rw [← hw4] at u3 b5 HM o9 o10 ⊢
  clear hw4
  have HU := Lib.hid u3
  have HO := Lib.hid (And.intro o9 o10)
  have HB5 := Lib.hid b5
  have hcut : Bytes w w.heap.size (A.map (·.add k)) (bs.drop k).length (bs.drop k) := by
    have h := hB.cut (k := k) (cap := c) hkl hc
    rw [if_neg hck] at h
    rw [List.length_drop]
    exact h
  have HR := Lib.hid (fun (W : World) (hb : Below w4.heap.size w4 W) => (rmread_any a0 a1 a2 a3 a4 a5 _ (c - k) (bs.drop k) W ((hcut.below (HB5.out.trans (hb.mono HB5.out.size))).more (HB5.out.trans (hb.mono HB5.out.size)).size) (by rw [List.length_drop]; omega) (by rw [List.length_drop]; omega)).mono (fun e W' hh => mres_two hh))
  unfold atR at HR
  rw [List.length_drop] at HR
  have st : RvSt w4 w4.drew (bs.drop k) none none none (fun _ => True) false := RvSt.start (bl_refl w4).drew
  clear o9 o10 u3 b5 hcut
  go_cut [11, 12] (fun h11 h12 wx => ∃ L D3 m3 d3 fl D4 m4 d4 l1 l2 l3 l5, RvR w4 wx #[.int .i64 L, .bool false, .int .u32 0, .int .u32 0, .slice none 0 0, .slice none 0 0, .slice D3 m3 d3, .int .i64 fl, .slice D4 m4 d4] #[.int .i64 l1, .int .i64 l2, .int .i64 l3, .slice none 0 0, .int .i64 l5] (fun W => MRes a2 a3 a4 a5 (bs.drop k) 0 W L D3 m3 d3 fl D4 m4 d4 l1 l2 l3 l5) h11 h12 ∧ ∃ v : Nat, h12 = .pointer (some ⟨v, 0, none⟩) ∧ w4.heap.size ≤ v)
  case first =>
    refine wp_region_noPanic ?_
    refine wp_region_held_drew (S := (fun W => W.cell? ⟨w.heap.size, 0, none⟩ = some (.bool a0) ∧ W.cell? ⟨w.heap.size, 1, none⟩ = some (.bool a1) ∧ W.cell? ⟨w.heap.size, 2, none⟩ = some (.bool a2) ∧ W.cell? ⟨w.heap.size, 3, none⟩ = some (.bool a3) ∧ W.cell? ⟨w.heap.size, 4, none⟩ = some (.bool a4) ∧ W.cell? ⟨w.heap.size, 5, none⟩ = some (.bool a5))) (by kernel_rfl) (six_cellsK (HU.out.step st.1)) (fun hHeld => ?_)
    refine wpAnyH_take (i := 0) (v := ?_) rfl (by kernel_rfl) (by kernel_rfl) (by kernel_rfl) (fun _ _ _ h => h) (Or.inl ⟨by rfl, ?_⟩) (by assumption) ?_
    rotate_left
    · (intro W hSw; obtain ⟨s0, s1, s2, s3, s4, s5⟩ := hSw; go_simp; try with_reducible rfl)
    simp only [Act.put, List.getElem_toArray, List.getElem_cons_zero, List.setIfInBounds_toArray, List.set_cons_zero, List.set_cons_succ]
    refine wpAnyH_take (i := 1) (v := ?_) rfl (by kernel_rfl) (by kernel_rfl) (by kernel_rfl) (fun _ _ _ h => h) (Or.inl ⟨by rfl, ?_⟩) (by assumption) ?_
    rotate_left
    · (intro W hSw; obtain ⟨s0, s1, s2, s3, s4, s5⟩ := hSw; go_simp; try with_reducible rfl)
    simp only [Act.put, List.getElem_toArray, List.getElem_cons_zero, List.getElem_cons_succ, List.setIfInBounds_toArray, List.set_cons_zero, List.set_cons_succ]
    refine wpAnyH_take (i := 2) (v := ?_) rfl (by kernel_rfl) (by kernel_rfl) (by kernel_rfl) (fun _ _ _ h => h) (Or.inl ⟨by rfl, ?_⟩) (by assumption) ?_
    rotate_left
    · (intro W hSw; obtain ⟨s0, s1, s2, s3, s4, s5⟩ := hSw; go_simp; try with_reducible rfl)
    simp only [Act.put, List.getElem_toArray, List.getElem_cons_zero, List.getElem_cons_succ, List.setIfInBounds_toArray, List.set_cons_zero, List.set_cons_succ]
    refine wpAnyH_take (i := 3) (v := ?_) rfl (by kernel_rfl) (by kernel_rfl) (by kernel_rfl) (fun _ _ _ h => h) (Or.inl ⟨by rfl, ?_⟩) (by assumption) ?_
    rotate_left
    · (intro W hSw; obtain ⟨s0, s1, s2, s3, s4, s5⟩ := hSw; go_simp; try with_reducible rfl)
    simp only [Act.put, List.getElem_toArray, List.getElem_cons_zero, List.getElem_cons_succ, List.setIfInBounds_toArray, List.set_cons_zero, List.set_cons_succ]
    refine wpAnyH_take (i := 4) (v := ?_) rfl (by kernel_rfl) (by kernel_rfl) (by kernel_rfl) (fun _ _ _ h => h) (Or.inl ⟨by rfl, ?_⟩) (by assumption) ?_
    rotate_left
    · (intro W hSw; obtain ⟨s0, s1, s2, s3, s4, s5⟩ := hSw; go_simp; try with_reducible rfl)
    simp only [Act.put, List.getElem_toArray, List.getElem_cons_zero, List.getElem_cons_succ, List.setIfInBounds_toArray, List.set_cons_zero, List.set_cons_succ]
    refine wpAnyH_ready (rs := [5, 9, 10]) (by kernel_rfl) (by simp) ?_
    refine AllReadyH.cons rfl (fun K hK => ?_) (AllReadyH.cons rfl (fun K hK => ?_) (AllReadyH.cons rfl (fun K hK => ?_) AllReadyH.nil))
    · go_simp
      go_at_call 19
      refine (HR.out _ st.1).mono ?_
      rintro e w8 ⟨L, D3, m3, d3, fl, D4, m4, d4, l1, l2, l3, l5, rfl, hX8, hb8⟩
      replace st := st.call_ (Y := (fun W => MRes a2 a3 a4 a5 (bs.drop k) 0 W L D3 m3 d3 fl D4 m4 d4 l1 l2 l3 l5)) hb8 hX8
      clear hb8 hX8
      refine hK.out _ _ (six_cellsK (HU.out.step st.1)) (fun hHeld2 => ?_)
      clear hK K hHeld
      have hHeld := hHeld2
      clear hHeld2
      try simp only [Act.put, List.getElem_toArray, List.getElem_cons_zero, List.getElem_cons_succ, List.setIfInBounds_toArray, List.set_cons_zero, List.set_cons_succ]
      refine wpAnyH_take (i := 6) (v := ?_) rfl (by kernel_rfl) (by kernel_rfl) (by kernel_rfl) (fun _ _ _ h => h) (Or.inl ⟨by rfl, ?_⟩) (by assumption) ?_
      rotate_left
      · (intro W hSw; obtain ⟨s0, s1, s2, s3, s4, s5⟩ := hSw; go_simp; try with_reducible rfl)
      simp only [Act.put, List.getElem_toArray, List.getElem_cons_zero, List.getElem_cons_succ, List.setIfInBounds_toArray, List.set_cons_zero, List.set_cons_succ]
      refine wpAnyH_take (i := 7) (v := ?_) rfl (by kernel_rfl) (by kernel_rfl) (by kernel_rfl) (fun _ _ _ h => h) (Or.inl ⟨by rfl, ?_⟩) (by assumption) ?_
      rotate_left
      · (intro W hSw; obtain ⟨s0, s1, s2, s3, s4, s5⟩ := hSw; go_simp; try with_reducible rfl)
      simp only [Act.put, List.getElem_toArray, List.getElem_cons_zero, List.getElem_cons_succ, List.setIfInBounds_toArray, List.set_cons_zero, List.set_cons_succ]
      refine wpAnyH_take (i := 8) (v := ?_) rfl (by kernel_rfl) (by kernel_rfl) (by kernel_rfl) (fun _ _ _ h => h) (Or.inl ⟨by rfl, ?_⟩) (by assumption) ?_
      rotate_left
      · (intro W hSw; obtain ⟨s0, s1, s2, s3, s4, s5⟩ := hSw; go_simp; try with_reducible rfl)
      simp only [Act.put, List.getElem_toArray, List.getElem_cons_zero, List.getElem_cons_succ, List.setIfInBounds_toArray, List.set_cons_zero, List.set_cons_succ]
      refine wpAnyH_ready (rs := [9, 10]) (by kernel_rfl) (by simp) ?_
      refine AllReadyH.cons rfl (fun K hK => ?_) (AllReadyH.cons rfl (fun K hK => ?_) AllReadyH.nil)
      · go_simp
        replace st := st.as_ (KeepX.mres _ _ _ _ _ _ _ _ _ _ _ _ _ _ _ _ _ _) (n := w8.heap.size) (by simp)
        refine hK.out _ _ (six_cellsK (HU.out.step st.1)) (fun hHeld2 => ?_)
        clear hK K hHeld
        have hHeld := hHeld2
        clear hHeld2
        try simp only [Act.put, List.getElem_toArray, List.getElem_cons_zero, List.getElem_cons_succ, List.setIfInBounds_toArray, List.set_cons_zero, List.set_cons_succ]
        refine wpAnyH_ready (rs := [10]) (by kernel_rfl) (by simp) ?_
        refine AllReadyH.cons rfl (fun K hK => ?_) AllReadyH.nil
        go_simp
        replace st := st.vs_ (KeepX.mres _ _ _ _ _ _ _ _ _ _ _ _ _ _ _ _ _ _) (n := w8.heap.size + 1) (by simp)
        refine hK.out _ _ (six_cellsK (HU.out.step st.1)) (fun hHeld2 => ?_)
        clear hK K hHeld
        have hHeld := hHeld2
        clear hHeld2
        try simp only [Act.put, List.getElem_toArray, List.getElem_cons_zero, List.getElem_cons_succ, List.setIfInBounds_toArray, List.set_cons_zero, List.set_cons_succ]
        refine wpAnyH_ready (rs := [11]) (by kernel_rfl) (by simp) ?_
        refine AllReadyH.cons rfl (fun K hK => ?_) AllReadyH.nil
        refine step_store_rowV rfl _ _ _ rfl _ #[.int .i64 L, .bool false, .int .u32 0, .int .u32 0, .slice none 0 0, .slice none 0 0, .slice D3 m3 d3, .int .i64 fl, .slice D4 m4 d4] rfl rfl 30 zA9 st.a_ (at_infoM _ _ _ _ _ _ _ _ _) rfl (at_oneV _ _ _ _ _ _ _ _ _ _ _ _ _ _ _ _ _) ?_
        refine hK.out _ _ (six_cellsK (HU.out.step (st.b1_ _))) (fun hHeld2 => ?_)
        clear hK K hHeld
        have hHeld := hHeld2
        clear hHeld2
        try simp only [Act.put, List.getElem_toArray, List.getElem_cons_zero, List.getElem_cons_succ]
        refine wpAnyH_ready (rs := [12]) (by kernel_rfl) (by simp) ?_
        refine AllReadyH.cons rfl (fun K hK => ?_) AllReadyH.nil
        refine step_store_rowV rfl _ _ _ rfl _ #[.int .i64 l1, .int .i64 l2, .int .i64 l3, .slice none 0 0, .int .i64 l5] rfl rfl 38 zV5 (st.v_ _) (vd_infoM _ _ _ _ _) rfl (vd_oneM _ _ _ _) ?_
        refine hK.out _ _ (six_cellsK (HU.out.step (st.b2_ _ _))) (fun hHeld2 => ?_)
        clear hK K hHeld
        have hHeld := hHeld2
        clear hHeld2
        try simp only [Act.put, List.getElem_toArray, List.getElem_cons_zero, List.getElem_cons_succ]
        refine wpAnyH_done (by kernel_rfl) ?_ _
        refine NoPanic.normal ?_
        go_wp2_with fail
        go_meet
        exact ⟨_, _, _, _, _, _, _, _, _, _, _, _, RvSt.fin_ (KeepX.mres _ _ _ _ _ _ _ _ _ _ _ _ _ _ _ _ _ _) st _ _, _, rfl, (st.2.2.1 _ rfl).1⟩
      · go_simp
        replace st := st.vs_ (KeepX.mres _ _ _ _ _ _ _ _ _ _ _ _ _ _ _ _ _ _) (n := w8.heap.size) (by simp)
        refine hK.out _ _ (six_cellsK (HU.out.step st.1)) (fun hHeld2 => ?_)
        clear hK K hHeld
        have hHeld := hHeld2
        clear hHeld2
        try simp only [Act.put, List.getElem_toArray, List.getElem_cons_zero, List.getElem_cons_succ, List.setIfInBounds_toArray, List.set_cons_zero, List.set_cons_succ]
        refine wpAnyH_ready (rs := [9]) (by kernel_rfl) (by simp) ?_
        refine AllReadyH.cons rfl (fun K hK => ?_) AllReadyH.nil
        go_simp
        replace st := st.as_ (KeepX.mres _ _ _ _ _ _ _ _ _ _ _ _ _ _ _ _ _ _) (n := w8.heap.size + 1) (by simp)
        refine hK.out _ _ (six_cellsK (HU.out.step st.1)) (fun hHeld2 => ?_)
        clear hK K hHeld
        have hHeld := hHeld2
        clear hHeld2
        try simp only [Act.put, List.getElem_toArray, List.getElem_cons_zero, List.getElem_cons_succ, List.setIfInBounds_toArray, List.set_cons_zero, List.set_cons_succ]
        refine wpAnyH_ready (rs := [11]) (by kernel_rfl) (by simp) ?_
        refine AllReadyH.cons rfl (fun K hK => ?_) AllReadyH.nil
        refine step_store_rowV rfl _ _ _ rfl _ #[.int .i64 L, .bool false, .int .u32 0, .int .u32 0, .slice none 0 0, .slice none 0 0, .slice D3 m3 d3, .int .i64 fl, .slice D4 m4 d4] rfl rfl 30 zA9 st.a_ (at_infoM _ _ _ _ _ _ _ _ _) rfl (at_oneV _ _ _ _ _ _ _ _ _ _ _ _ _ _ _ _ _) ?_
        refine hK.out _ _ (six_cellsK (HU.out.step (st.b1_ _))) (fun hHeld2 => ?_)
        clear hK K hHeld
        have hHeld := hHeld2
        clear hHeld2
        try simp only [Act.put, List.getElem_toArray, List.getElem_cons_zero, List.getElem_cons_succ]
        refine wpAnyH_ready (rs := [12]) (by kernel_rfl) (by simp) ?_
        refine AllReadyH.cons rfl (fun K hK => ?_) AllReadyH.nil
        refine step_store_rowV rfl _ _ _ rfl _ #[.int .i64 l1, .int .i64 l2, .int .i64 l3, .slice none 0 0, .int .i64 l5] rfl rfl 38 zV5 (st.v_ _) (vd_infoM _ _ _ _ _) rfl (vd_oneM _ _ _ _) ?_
        refine hK.out _ _ (six_cellsK (HU.out.step (st.b2_ _ _))) (fun hHeld2 => ?_)
        clear hK K hHeld
        have hHeld := hHeld2
        clear hHeld2
        try simp only [Act.put, List.getElem_toArray, List.getElem_cons_zero, List.getElem_cons_succ]
        refine wpAnyH_done (by kernel_rfl) ?_ _
        refine NoPanic.normal ?_
        go_wp2_with fail
        go_meet
        exact ⟨_, _, _, _, _, _, _, _, _, _, _, _, RvSt.fin_ (KeepX.mres _ _ _ _ _ _ _ _ _ _ _ _ _ _ _ _ _ _) st _ _, _, rfl, (st.2.2.1 _ rfl).1⟩
    · go_simp
      replace st := st.as_ KeepX.true_ (n := w4.heap.size) (by simp)
      refine hK.out _ _ (six_cellsK (HU.out.step st.1)) (fun hHeld2 => ?_)
      clear hK K hHeld
      have hHeld := hHeld2
      clear hHeld2
      try simp only [Act.put, List.getElem_toArray, List.getElem_cons_zero, List.getElem_cons_succ, List.setIfInBounds_toArray, List.set_cons_zero, List.set_cons_succ]
      refine wpAnyH_ready (rs := [5, 10]) (by kernel_rfl) (by simp) ?_
      refine AllReadyH.cons rfl (fun K hK => ?_) (AllReadyH.cons rfl (fun K hK => ?_) AllReadyH.nil)
      · go_simp
        go_at_call 19
        refine (HR.out _ st.1).mono ?_
        rintro e w8 ⟨L, D3, m3, d3, fl, D4, m4, d4, l1, l2, l3, l5, rfl, hX8, hb8⟩
        replace st := st.call_ (Y := (fun W => MRes a2 a3 a4 a5 (bs.drop k) 0 W L D3 m3 d3 fl D4 m4 d4 l1 l2 l3 l5)) hb8 hX8
        clear hb8 hX8
        refine hK.out _ _ (six_cellsK (HU.out.step st.1)) (fun hHeld2 => ?_)
        clear hK K hHeld
        have hHeld := hHeld2
        clear hHeld2
        try simp only [Act.put, List.getElem_toArray, List.getElem_cons_zero, List.getElem_cons_succ, List.setIfInBounds_toArray, List.set_cons_zero, List.set_cons_succ]
        refine wpAnyH_take (i := 6) (v := ?_) rfl (by kernel_rfl) (by kernel_rfl) (by kernel_rfl) (fun _ _ _ h => h) (Or.inl ⟨by rfl, ?_⟩) (by assumption) ?_
        rotate_left
        · (intro W hSw; obtain ⟨s0, s1, s2, s3, s4, s5⟩ := hSw; go_simp; try with_reducible rfl)
        simp only [Act.put, List.getElem_toArray, List.getElem_cons_zero, List.getElem_cons_succ, List.setIfInBounds_toArray, List.set_cons_zero, List.set_cons_succ]
        refine wpAnyH_take (i := 7) (v := ?_) rfl (by kernel_rfl) (by kernel_rfl) (by kernel_rfl) (fun _ _ _ h => h) (Or.inl ⟨by rfl, ?_⟩) (by assumption) ?_
        rotate_left
        · (intro W hSw; obtain ⟨s0, s1, s2, s3, s4, s5⟩ := hSw; go_simp; try with_reducible rfl)
        simp only [Act.put, List.getElem_toArray, List.getElem_cons_zero, List.getElem_cons_succ, List.setIfInBounds_toArray, List.set_cons_zero, List.set_cons_succ]
        refine wpAnyH_take (i := 8) (v := ?_) rfl (by kernel_rfl) (by kernel_rfl) (by kernel_rfl) (fun _ _ _ h => h) (Or.inl ⟨by rfl, ?_⟩) (by assumption) ?_
        rotate_left
        · (intro W hSw; obtain ⟨s0, s1, s2, s3, s4, s5⟩ := hSw; go_simp; try with_reducible rfl)
        simp only [Act.put, List.getElem_toArray, List.getElem_cons_zero, List.getElem_cons_succ, List.setIfInBounds_toArray, List.set_cons_zero, List.set_cons_succ]
        refine wpAnyH_ready (rs := [10]) (by kernel_rfl) (by simp) ?_
        refine AllReadyH.cons rfl (fun K hK => ?_) AllReadyH.nil
        go_simp
        replace st := st.vs_ (KeepX.mres _ _ _ _ _ _ _ _ _ _ _ _ _ _ _ _ _ _) (n := w8.heap.size) (by simp)
        refine hK.out _ _ (six_cellsK (HU.out.step st.1)) (fun hHeld2 => ?_)
        clear hK K hHeld
        have hHeld := hHeld2
        clear hHeld2
        try simp only [Act.put, List.getElem_toArray, List.getElem_cons_zero, List.getElem_cons_succ, List.setIfInBounds_toArray, List.set_cons_zero, List.set_cons_succ]
        refine wpAnyH_ready (rs := [11]) (by kernel_rfl) (by simp) ?_
        refine AllReadyH.cons rfl (fun K hK => ?_) AllReadyH.nil
        refine step_store_rowV rfl _ _ _ rfl _ #[.int .i64 L, .bool false, .int .u32 0, .int .u32 0, .slice none 0 0, .slice none 0 0, .slice D3 m3 d3, .int .i64 fl, .slice D4 m4 d4] rfl rfl 30 zA9 st.a_ (at_infoM _ _ _ _ _ _ _ _ _) rfl (at_oneV _ _ _ _ _ _ _ _ _ _ _ _ _ _ _ _ _) ?_
        refine hK.out _ _ (six_cellsK (HU.out.step (st.b1_ _))) (fun hHeld2 => ?_)
        clear hK K hHeld
        have hHeld := hHeld2
        clear hHeld2
        try simp only [Act.put, List.getElem_toArray, List.getElem_cons_zero, List.getElem_cons_succ]
        refine wpAnyH_ready (rs := [12]) (by kernel_rfl) (by simp) ?_
        refine AllReadyH.cons rfl (fun K hK => ?_) AllReadyH.nil
        refine step_store_rowV rfl _ _ _ rfl _ #[.int .i64 l1, .int .i64 l2, .int .i64 l3, .slice none 0 0, .int .i64 l5] rfl rfl 38 zV5 (st.v_ _) (vd_infoM _ _ _ _ _) rfl (vd_oneM _ _ _ _) ?_
        refine hK.out _ _ (six_cellsK (HU.out.step (st.b2_ _ _))) (fun hHeld2 => ?_)
        clear hK K hHeld
        have hHeld := hHeld2
        clear hHeld2
        try simp only [Act.put, List.getElem_toArray, List.getElem_cons_zero, List.getElem_cons_succ]
        refine wpAnyH_done (by kernel_rfl) ?_ _
        refine NoPanic.normal ?_
        go_wp2_with fail
        go_meet
        exact ⟨_, _, _, _, _, _, _, _, _, _, _, _, RvSt.fin_ (KeepX.mres _ _ _ _ _ _ _ _ _ _ _ _ _ _ _ _ _ _) st _ _, _, rfl, (st.2.2.1 _ rfl).1⟩
      · go_simp
        replace st := st.vs_ KeepX.true_ (n := w4.heap.size + 1) (by simp)
        refine hK.out _ _ (six_cellsK (HU.out.step st.1)) (fun hHeld2 => ?_)
        clear hK K hHeld
        have hHeld := hHeld2
        clear hHeld2
        try simp only [Act.put, List.getElem_toArray, List.getElem_cons_zero, List.getElem_cons_succ, List.setIfInBounds_toArray, List.set_cons_zero, List.set_cons_succ]
        refine wpAnyH_ready (rs := [5]) (by kernel_rfl) (by simp) ?_
        refine AllReadyH.cons rfl (fun K hK => ?_) AllReadyH.nil
        go_simp
        go_at_call 19
        refine (HR.out _ st.1).mono ?_
        rintro e w8 ⟨L, D3, m3, d3, fl, D4, m4, d4, l1, l2, l3, l5, rfl, hX8, hb8⟩
        replace st := st.call_ (Y := (fun W => MRes a2 a3 a4 a5 (bs.drop k) 0 W L D3 m3 d3 fl D4 m4 d4 l1 l2 l3 l5)) hb8 hX8
        clear hb8 hX8
        refine hK.out _ _ (six_cellsK (HU.out.step st.1)) (fun hHeld2 => ?_)
        clear hK K hHeld
        have hHeld := hHeld2
        clear hHeld2
        try simp only [Act.put, List.getElem_toArray, List.getElem_cons_zero, List.getElem_cons_succ, List.setIfInBounds_toArray, List.set_cons_zero, List.set_cons_succ]
        refine wpAnyH_take (i := 6) (v := ?_) rfl (by kernel_rfl) (by kernel_rfl) (by kernel_rfl) (fun _ _ _ h => h) (Or.inl ⟨by rfl, ?_⟩) (by assumption) ?_
        rotate_left
        · (intro W hSw; obtain ⟨s0, s1, s2, s3, s4, s5⟩ := hSw; go_simp; try with_reducible rfl)
        simp only [Act.put, List.getElem_toArray, List.getElem_cons_zero, List.getElem_cons_succ, List.setIfInBounds_toArray, List.set_cons_zero, List.set_cons_succ]
        refine wpAnyH_take (i := 7) (v := ?_) rfl (by kernel_rfl) (by kernel_rfl) (by kernel_rfl) (fun _ _ _ h => h) (Or.inl ⟨by rfl, ?_⟩) (by assumption) ?_
        rotate_left
        · (intro W hSw; obtain ⟨s0, s1, s2, s3, s4, s5⟩ := hSw; go_simp; try with_reducible rfl)
        simp only [Act.put, List.getElem_toArray, List.getElem_cons_zero, List.getElem_cons_succ, List.setIfInBounds_toArray, List.set_cons_zero, List.set_cons_succ]
        refine wpAnyH_take (i := 8) (v := ?_) rfl (by kernel_rfl) (by kernel_rfl) (by kernel_rfl) (fun _ _ _ h => h) (Or.inl ⟨by rfl, ?_⟩) (by assumption) ?_
        rotate_left
        · (intro W hSw; obtain ⟨s0, s1, s2, s3, s4, s5⟩ := hSw; go_simp; try with_reducible rfl)
        simp only [Act.put, List.getElem_toArray, List.getElem_cons_zero, List.getElem_cons_succ, List.setIfInBounds_toArray, List.set_cons_zero, List.set_cons_succ]
        refine wpAnyH_ready (rs := [11]) (by kernel_rfl) (by simp) ?_
        refine AllReadyH.cons rfl (fun K hK => ?_) AllReadyH.nil
        refine step_store_rowV rfl _ _ _ rfl _ #[.int .i64 L, .bool false, .int .u32 0, .int .u32 0, .slice none 0 0, .slice none 0 0, .slice D3 m3 d3, .int .i64 fl, .slice D4 m4 d4] rfl rfl 30 zA9 st.a_ (at_infoM _ _ _ _ _ _ _ _ _) rfl (at_oneV _ _ _ _ _ _ _ _ _ _ _ _ _ _ _ _ _) ?_
        refine hK.out _ _ (six_cellsK (HU.out.step (st.b1_ _))) (fun hHeld2 => ?_)
        clear hK K hHeld
        have hHeld := hHeld2
        clear hHeld2
        try simp only [Act.put, List.getElem_toArray, List.getElem_cons_zero, List.getElem_cons_succ]
        refine wpAnyH_ready (rs := [12]) (by kernel_rfl) (by simp) ?_
        refine AllReadyH.cons rfl (fun K hK => ?_) AllReadyH.nil
        refine step_store_rowV rfl _ _ _ rfl _ #[.int .i64 l1, .int .i64 l2, .int .i64 l3, .slice none 0 0, .int .i64 l5] rfl rfl 38 zV5 (st.v_ _) (vd_infoM _ _ _ _ _) rfl (vd_oneM _ _ _ _) ?_
        refine hK.out _ _ (six_cellsK (HU.out.step (st.b2_ _ _))) (fun hHeld2 => ?_)
        clear hK K hHeld
        have hHeld := hHeld2
        clear hHeld2
        try simp only [Act.put, List.getElem_toArray, List.getElem_cons_zero, List.getElem_cons_succ]
        refine wpAnyH_done (by kernel_rfl) ?_ _
        refine NoPanic.normal ?_
        go_wp2_with fail
        go_meet
        exact ⟨_, _, _, _, _, _, _, _, _, _, _, _, RvSt.fin_ (KeepX.mres _ _ _ _ _ _ _ _ _ _ _ _ _ _ _ _ _ _) st _ _, _, rfl, (st.2.2.1 _ rfl).1⟩
    · go_simp
      replace st := st.vs_ KeepX.true_ (n := w4.heap.size) (by simp)
      refine hK.out _ _ (six_cellsK (HU.out.step st.1)) (fun hHeld2 => ?_)
      clear hK K hHeld
      have hHeld := hHeld2
      clear hHeld2
      try simp only [Act.put, List.getElem_toArray, List.getElem_cons_zero, List.getElem_cons_succ, List.setIfInBounds_toArray, List.set_cons_zero, List.set_cons_succ]
      refine wpAnyH_ready (rs := [5, 9]) (by kernel_rfl) (by simp) ?_
      refine AllReadyH.cons rfl (fun K hK => ?_) (AllReadyH.cons rfl (fun K hK => ?_) AllReadyH.nil)
      · go_simp
        go_at_call 19
        refine (HR.out _ st.1).mono ?_
        rintro e w8 ⟨L, D3, m3, d3, fl, D4, m4, d4, l1, l2, l3, l5, rfl, hX8, hb8⟩
        replace st := st.call_ (Y := (fun W => MRes a2 a3 a4 a5 (bs.drop k) 0 W L D3 m3 d3 fl D4 m4 d4 l1 l2 l3 l5)) hb8 hX8
        clear hb8 hX8
        refine hK.out _ _ (six_cellsK (HU.out.step st.1)) (fun hHeld2 => ?_)
        clear hK K hHeld
        have hHeld := hHeld2
        clear hHeld2
        try simp only [Act.put, List.getElem_toArray, List.getElem_cons_zero, List.getElem_cons_succ, List.setIfInBounds_toArray, List.set_cons_zero, List.set_cons_succ]
        refine wpAnyH_take (i := 6) (v := ?_) rfl (by kernel_rfl) (by kernel_rfl) (by kernel_rfl) (fun _ _ _ h => h) (Or.inl ⟨by rfl, ?_⟩) (by assumption) ?_
        rotate_left
        · (intro W hSw; obtain ⟨s0, s1, s2, s3, s4, s5⟩ := hSw; go_simp; try with_reducible rfl)
        simp only [Act.put, List.getElem_toArray, List.getElem_cons_zero, List.getElem_cons_succ, List.setIfInBounds_toArray, List.set_cons_zero, List.set_cons_succ]
        refine wpAnyH_take (i := 7) (v := ?_) rfl (by kernel_rfl) (by kernel_rfl) (by kernel_rfl) (fun _ _ _ h => h) (Or.inl ⟨by rfl, ?_⟩) (by assumption) ?_
        rotate_left
        · (intro W hSw; obtain ⟨s0, s1, s2, s3, s4, s5⟩ := hSw; go_simp; try with_reducible rfl)
        simp only [Act.put, List.getElem_toArray, List.getElem_cons_zero, List.getElem_cons_succ, List.setIfInBounds_toArray, List.set_cons_zero, List.set_cons_succ]
        refine wpAnyH_take (i := 8) (v := ?_) rfl (by kernel_rfl) (by kernel_rfl) (by kernel_rfl) (fun _ _ _ h => h) (Or.inl ⟨by rfl, ?_⟩) (by assumption) ?_
        rotate_left
        · (intro W hSw; obtain ⟨s0, s1, s2, s3, s4, s5⟩ := hSw; go_simp; try with_reducible rfl)
        simp only [Act.put, List.getElem_toArray, List.getElem_cons_zero, List.getElem_cons_succ, List.setIfInBounds_toArray, List.set_cons_zero, List.set_cons_succ]
        refine wpAnyH_ready (rs := [9]) (by kernel_rfl) (by simp) ?_
        refine AllReadyH.cons rfl (fun K hK => ?_) AllReadyH.nil
        go_simp
        replace st := st.as_ (KeepX.mres _ _ _ _ _ _ _ _ _ _ _ _ _ _ _ _ _ _) (n := w8.heap.size) (by simp)
        refine hK.out _ _ (six_cellsK (HU.out.step st.1)) (fun hHeld2 => ?_)
        clear hK K hHeld
        have hHeld := hHeld2
        clear hHeld2
        try simp only [Act.put, List.getElem_toArray, List.getElem_cons_zero, List.getElem_cons_succ, List.setIfInBounds_toArray, List.set_cons_zero, List.set_cons_succ]
        refine wpAnyH_ready (rs := [11]) (by kernel_rfl) (by simp) ?_
        refine AllReadyH.cons rfl (fun K hK => ?_) AllReadyH.nil
        refine step_store_rowV rfl _ _ _ rfl _ #[.int .i64 L, .bool false, .int .u32 0, .int .u32 0, .slice none 0 0, .slice none 0 0, .slice D3 m3 d3, .int .i64 fl, .slice D4 m4 d4] rfl rfl 30 zA9 st.a_ (at_infoM _ _ _ _ _ _ _ _ _) rfl (at_oneV _ _ _ _ _ _ _ _ _ _ _ _ _ _ _ _ _) ?_
        refine hK.out _ _ (six_cellsK (HU.out.step (st.b1_ _))) (fun hHeld2 => ?_)
        clear hK K hHeld
        have hHeld := hHeld2
        clear hHeld2
        try simp only [Act.put, List.getElem_toArray, List.getElem_cons_zero, List.getElem_cons_succ]
        refine wpAnyH_ready (rs := [12]) (by kernel_rfl) (by simp) ?_
        refine AllReadyH.cons rfl (fun K hK => ?_) AllReadyH.nil
        refine step_store_rowV rfl _ _ _ rfl _ #[.int .i64 l1, .int .i64 l2, .int .i64 l3, .slice none 0 0, .int .i64 l5] rfl rfl 38 zV5 (st.v_ _) (vd_infoM _ _ _ _ _) rfl (vd_oneM _ _ _ _) ?_
        refine hK.out _ _ (six_cellsK (HU.out.step (st.b2_ _ _))) (fun hHeld2 => ?_)
        clear hK K hHeld
        have hHeld := hHeld2
        clear hHeld2
        try simp only [Act.put, List.getElem_toArray, List.getElem_cons_zero, List.getElem_cons_succ]
        refine wpAnyH_done (by kernel_rfl) ?_ _
        refine NoPanic.normal ?_
        go_wp2_with fail
        go_meet
        exact ⟨_, _, _, _, _, _, _, _, _, _, _, _, RvSt.fin_ (KeepX.mres _ _ _ _ _ _ _ _ _ _ _ _ _ _ _ _ _ _) st _ _, _, rfl, (st.2.2.1 _ rfl).1⟩
      · go_simp
        replace st := st.as_ KeepX.true_ (n := w4.heap.size + 1) (by simp)
        refine hK.out _ _ (six_cellsK (HU.out.step st.1)) (fun hHeld2 => ?_)
        clear hK K hHeld
        have hHeld := hHeld2
        clear hHeld2
        try simp only [Act.put, List.getElem_toArray, List.getElem_cons_zero, List.getElem_cons_succ, List.setIfInBounds_toArray, List.set_cons_zero, List.set_cons_succ]
        refine wpAnyH_ready (rs := [5]) (by kernel_rfl) (by simp) ?_
        refine AllReadyH.cons rfl (fun K hK => ?_) AllReadyH.nil
        go_simp
        go_at_call 19
        refine (HR.out _ st.1).mono ?_
        rintro e w8 ⟨L, D3, m3, d3, fl, D4, m4, d4, l1, l2, l3, l5, rfl, hX8, hb8⟩
        replace st := st.call_ (Y := (fun W => MRes a2 a3 a4 a5 (bs.drop k) 0 W L D3 m3 d3 fl D4 m4 d4 l1 l2 l3 l5)) hb8 hX8
        clear hb8 hX8
        refine hK.out _ _ (six_cellsK (HU.out.step st.1)) (fun hHeld2 => ?_)
        clear hK K hHeld
        have hHeld := hHeld2
        clear hHeld2
        try simp only [Act.put, List.getElem_toArray, List.getElem_cons_zero, List.getElem_cons_succ, List.setIfInBounds_toArray, List.set_cons_zero, List.set_cons_succ]
        refine wpAnyH_take (i := 6) (v := ?_) rfl (by kernel_rfl) (by kernel_rfl) (by kernel_rfl) (fun _ _ _ h => h) (Or.inl ⟨by rfl, ?_⟩) (by assumption) ?_
        rotate_left
        · (intro W hSw; obtain ⟨s0, s1, s2, s3, s4, s5⟩ := hSw; go_simp; try with_reducible rfl)
        simp only [Act.put, List.getElem_toArray, List.getElem_cons_zero, List.getElem_cons_succ, List.setIfInBounds_toArray, List.set_cons_zero, List.set_cons_succ]
        refine wpAnyH_take (i := 7) (v := ?_) rfl (by kernel_rfl) (by kernel_rfl) (by kernel_rfl) (fun _ _ _ h => h) (Or.inl ⟨by rfl, ?_⟩) (by assumption) ?_
        rotate_left
        · (intro W hSw; obtain ⟨s0, s1, s2, s3, s4, s5⟩ := hSw; go_simp; try with_reducible rfl)
        simp only [Act.put, List.getElem_toArray, List.getElem_cons_zero, List.getElem_cons_succ, List.setIfInBounds_toArray, List.set_cons_zero, List.set_cons_succ]
        refine wpAnyH_take (i := 8) (v := ?_) rfl (by kernel_rfl) (by kernel_rfl) (by kernel_rfl) (fun _ _ _ h => h) (Or.inl ⟨by rfl, ?_⟩) (by assumption) ?_
        rotate_left
        · (intro W hSw; obtain ⟨s0, s1, s2, s3, s4, s5⟩ := hSw; go_simp; try with_reducible rfl)
        simp only [Act.put, List.getElem_toArray, List.getElem_cons_zero, List.getElem_cons_succ, List.setIfInBounds_toArray, List.set_cons_zero, List.set_cons_succ]
        refine wpAnyH_ready (rs := [11]) (by kernel_rfl) (by simp) ?_
        refine AllReadyH.cons rfl (fun K hK => ?_) AllReadyH.nil
        refine step_store_rowV rfl _ _ _ rfl _ #[.int .i64 L, .bool false, .int .u32 0, .int .u32 0, .slice none 0 0, .slice none 0 0, .slice D3 m3 d3, .int .i64 fl, .slice D4 m4 d4] rfl rfl 30 zA9 st.a_ (at_infoM _ _ _ _ _ _ _ _ _) rfl (at_oneV _ _ _ _ _ _ _ _ _ _ _ _ _ _ _ _ _) ?_
        refine hK.out _ _ (six_cellsK (HU.out.step (st.b1_ _))) (fun hHeld2 => ?_)
        clear hK K hHeld
        have hHeld := hHeld2
        clear hHeld2
        try simp only [Act.put, List.getElem_toArray, List.getElem_cons_zero, List.getElem_cons_succ]
        refine wpAnyH_ready (rs := [12]) (by kernel_rfl) (by simp) ?_
        refine AllReadyH.cons rfl (fun K hK => ?_) AllReadyH.nil
        refine step_store_rowV rfl _ _ _ rfl _ #[.int .i64 l1, .int .i64 l2, .int .i64 l3, .slice none 0 0, .int .i64 l5] rfl rfl 38 zV5 (st.v_ _) (vd_infoM _ _ _ _ _) rfl (vd_oneM _ _ _ _) ?_
        refine hK.out _ _ (six_cellsK (HU.out.step (st.b2_ _ _))) (fun hHeld2 => ?_)
        clear hK K hHeld
        have hHeld := hHeld2
        clear hHeld2
        try simp only [Act.put, List.getElem_toArray, List.getElem_cons_zero, List.getElem_cons_succ]
        refine wpAnyH_done (by kernel_rfl) ?_ _
        refine NoPanic.normal ?_
        go_wp2_with fail
        go_meet
        exact ⟨_, _, _, _, _, _, _, _, _, _, _, _, RvSt.fin_ (KeepX.mres _ _ _ _ _ _ _ _ _ _ _ _ _ _ _ _ _ _) st _ _, _, rfl, (st.2.2.1 _ rfl).1⟩
  case rest =>
    obtain ⟨L, D3, m3, d3, fl, D4, m4, d4, l1, l2, l3, l5, ⟨g11, g12, rfl, rfl, p11, p12, hbx, hN⟩, gv, hgv, hg12⟩ := hcut
    have hge : g12 = gv := by
      cases hgv
      rfl
    subst hge
    have hM5 := HM.out.below hbx
    have q9 := HO.out.1.step hbx
    have q10 := HO.out.2.step hbx
    have b6 := HB5.out.trans (hbx.mono HB5.out.size)
    have hFx := HFm.out _ b6
    have hl10 := HO.out.2.lt
    have HJ := Lib.hid (hM5.join hN)
    have hbd : l1 ≠ 0 → 0 ≤ l5 ∧ l5 ≤ 1000 := fun h => by
      rcases hN with ⟨_, _, hf⟩ | ⟨h1, _⟩
      · have := hf.bound
        rw [List.length_drop] at this
        omega
      · exact absurd h1 h
    clear HU HO HM HR st hM5 hN hgv
    rcases HJ.out with ⟨z1, z2, hk1, rfl, rfl, rfl, h5e⟩ | ⟨rfl, rfl, rfl, rfl, rfl, rfl, rfl, rfl, rfl, rfl, rfl, rfl, xs, rs, hb1, hb2, hr1, hr2, hrl⟩
    · clear HJ
      obtain ⟨rfl, rfl, rfl, rfl, rfl, rfl, rfl, rfl⟩ := atR_inj (z1.trans (show zA9 = atR 0 none 0 0 0 none 0 0 from rfl))
      obtain ⟨rfl, rfl, rfl, rfl, rfl, rfl, rfl, rfl⟩ := atR_inj (z2.trans (show zA9 = atR 0 none 0 0 0 none 0 0 from rfl))
      obtain ⟨hl0, hl1⟩ := hbd hk1
      have HKE := Lib.hid (show k5 = l5 + (k : Int) by omega)
      have hwk : IntKind.i64.wrap (l5 + (k : Int)) = l5 + (k : Int) := by rw [IntKind.wrap_i64]; omega
      have qk : (k1 != 0) = true := by simpa using hk1
      have hne : ¬ w3.heap.size + 1 = g12 := by omega
      clear h5e z1 z2 hk1 hbd hl0 hl1
      have v0 := p12.cell (i := 0) (v := .int .i64 k1) rfl
      have v4 := p12.cell (i := 4) (v := .int .i64 l5) rfl
      have f4 := p12.frozen 4
      have R9 := Rest.setCell wc ⟨g12, 4, none⟩ (.int .i64 (l5 + (k : Int)))
      have n9 := R9.own q9 (fun e => by
        have e2 : w3.heap.size = g12 := e
        omega)
      have n10 := R9.own q10 hne
      have n11 := R9.own p11 (fun e => by
        have e2 : g11 = g12 := e
        exact (e2 ▸ p11).typed.ne p12.typed rv_types.1 rfl)
      have n12 : Own (wc.setCell ⟨g12, 4, none⟩ (.int .i64 (l5 + (k : Int)))) g12 38 #[.int .i64 k1, .int .i64 k2, .int .i64 k3, .slice none 0 0, .int .i64 (l5 + (k : Int))] := by simpa using p12.set_ 4 (.int .i64 (l5 + (k : Int)))
      have b7 : Below w.heap.size w (wc.setCell ⟨g12, 4, none⟩ (.int .i64 (l5 + (k : Int)))) := b6.trans (R9.to_below b6.size (fun i hi e => by
        have e2 : i = g12 := e
        have := HB5.out.size
        omega))
      have hF7 := HFm.out _ b7
      clear q9 q10 p11 p12 b6 R9 hFx
      go_wp2_with fail
      refine (HAl.out _ hF7).mono ?_
      rintro e w6 ⟨rfl, hb6⟩
      replace n9 := n9.step hb6
      replace n10 := n10.step hb6
      replace n11 := n11.step hb6
      replace n12 := n12.step hb6
      replace b7 := bl_trans b7 hb6
      rw [HKE.out] at n10
      clear v0 v4 f4 hb6 hF7
      obtain ⟨s0, s1, s2, s3, s4⟩ := vd_cellsO n10
      obtain ⟨t0, t1, t2, t3, t4⟩ := vd_cellsO n12
      clear n10 n12
      go_wp2_with fail
      refine (vsame_same k1 k2 k3 (l5 + (k : Int)) none none 0 0 0 0 [] _ (Bytes.nil _ _ _) (Bytes.nil _ _ _)).mono ?_
      rintro e w7 ⟨rfl, hb7⟩
      replace n9 := n9.step hb7
      replace n11 := n11.step hb7
      replace b7 := bl_trans b7 hb7
      clear s0 s1 s2 s3 s4 t0 t1 t2 t3 t4 hb7
      obtain ⟨s0, s1, s2, s3, s4, s5, s6, s7, s8⟩ := at_cells n9
      obtain ⟨t0, t1, t2, t3, t4, t5, t6, t7, t8⟩ := at_cells n11
      clear n9 n11
      go_wp2_with fail
      refine (rsame12_eq 0 0 false false 0 0 0 0 none 0 0 none 0 0 none 0 0 none 0 0 none 0 0 none 0 0 none 0 none 0 [] [] _ (Bytes.nil _ _ _) (Bytes.nil _ _ _) (routes_nil _ _) (routes_nil _ _) (by omega) (by simp [bareM]) (by simp [bareM])).mono ?_
      rintro e w8 ⟨rfl, hb8⟩
      have B6 := Lib.hid (bl_trans b7 hb8)
      clear hb8 b7 s0 s1 s2 s3 s4 s5 s6 s7 s8 t0 t1 t2 t3 t4 t5 t6 t7 t8
      go_wp2
      go_ret
      exact ⟨rfl, B6.out⟩
    · clear HJ hbd
      have v0 := p12.cell (i := 0) (v := .int .i64 0) rfl
      go_wp2_with fail
      refine (HAl.out _ hFx).mono ?_
      rintro e w6 ⟨rfl, hb6⟩
      replace q9 := q9.step hb6
      replace q10 := q10.step hb6
      replace p11 := p11.step hb6
      replace p12 := p12.step hb6
      replace b6 := bl_trans b6 hb6
      replace hb1 := (hb1.below hb6).more hb6.size
      replace hb2 := (hb2.below hb6).more hb6.size
      replace hr1 := (hr1.below hb6).more hb6.size
      replace hr2 := (hr2.below hb6).more hb6.size
      clear v0 hb6 hFx
      obtain ⟨s0, s1, s2, s3, s4⟩ := vd_cellsO q10
      obtain ⟨t0, t1, t2, t3, t4⟩ := vd_cellsO p12
      clear q10 p12
      go_wp2_with fail
      refine (vsame_same 0 0 0 0 none none 0 0 0 0 [] _ (Bytes.nil _ _ _) (Bytes.nil _ _ _)).mono ?_
      rintro e w7 ⟨rfl, hb7⟩
      replace q9 := q9.step hb7
      replace p11 := p11.step hb7
      replace b6 := bl_trans b6 hb7
      replace hb1 := (hb1.below hb7).more hb7.size
      replace hb2 := (hb2.below hb7).more hb7.size
      replace hr1 := (hr1.below hb7).more hb7.size
      replace hr2 := (hr2.below hb7).more hb7.size
      clear s0 s1 s2 s3 s4 t0 t1 t2 t3 t4 hb7
      obtain ⟨s0, s1, s2, s3, s4, s5, s6, s7, s8⟩ := at_cells q9
      obtain ⟨t0, t1, t2, t3, t4, t5, t6, t7, t8⟩ := at_cells p11
      clear q9 p11
      go_wp2_with fail
      refine (rsame12_eq _ _ false false 0 0 0 0 none 0 0 none 0 0 _ _ _ _ _ _ none 0 0 none 0 0 _ _ _ _ xs rs _ hb1 hb2 hr1 hr2 (by have := hr1.1; rw [List.length_drop] at hrl; omega) (by simp [bareM]) (by simp [bareM])).mono ?_
      rintro e w8 ⟨rfl, hb8⟩
      have B6 := Lib.hid (bl_trans b6 hb8)
      clear hb8 b6 s0 s1 s2 s3 s4 s5 s6 s7 s8 t0 t1 t2 t3 t4 t5 t6 t7 t8
      go_wp2
      go_ret
      exact ⟨rfl, B6.out⟩
end Go.Proofs.YtmlmgjdjbpipcaaDoor

/- MpOffsets: the walk where all of the slice is skipped; both ways -/
namespace Go.Proofs.YtmlmgjdjbpipcaaDoor
open Go.RowKit

set_option maxRecDepth 100000 in
set_option maxHeartbeats 12800000 in
theorem mpoff_E (a0 a1 a2 a3 a4 a5 : Bool) (A : Option Addr) (q : Int) (k : Nat) (bs : List Int) (w : World) (hF : Fams w) (hB : Bytes w w.heap.size A bs.length bs) (hc : bs.length ≤ k) (hq0 : 0 ≤ q) (hq1 : q ≤ 255) (h5 : ¬ 500 < bs.length) (hkl : k ≤ bs.length) (hrem : q % ((bs.length : Int) + 1) = (k : Int)) :
    Calls Tryd.prog 4 #[.agg #[.bool a0, .bool a1, .bool a2, .bool a3, .bool a4, .bool a5], .slice A bs.length k, .int .u8 q] w fun e w' => e = .returned (.bool true) ∧ Below w.heap.size w w' := by
  have b1 := bl_alloc (bl_refl w) (.cells #[.bool a0, .bool a1, .bool a2, .bool a3, .bool a4, .bool a5] 23)
  have o3 := Own.new w 23 #[.bool a0, .bool a1, .bool a2, .bool a3, .bool a4, .bool a5]
  have HAl := Lib.hid (fun W hW => alive12_any W hW)
  have HFm := Lib.hid (fun W (hb : Below w.heap.size w W) => (hF.rest (Rest.of_below hb (fun _ => False)) (fun h => h) : Fams W))
  have hlt : ¬ (500 : Int) < (bs.length : Int) := by omega
  have hnz : ¬ ((bs.length : Int) + 1 = 0) := by omega
  have hw1 : IntKind.i64.wrap q = q := by rw [IntKind.wrap_i64]; omega
  have hx1 := (hB.below b1).more b1.size
  go_enter Tryd.func4, Tryd.ntmps4
  go_wp2_with fail
  refine (new_any A _ k bs _ hx1 (by omega)).mono ?_
  rintro e w1 ⟨j, rfl, hj, rj, hb1⟩
  have p3 := o3.step hb1
  have b2 := bl_trans b1 hb1
  have hjw : w.heap.size < j := by have : (w.alloc (.cells #[.bool a0, .bool a1, .bool a2, .bool a3, .bool a4, .bool a5] 23)).heap.size = w.heap.size + 1 := by simp
                                   omega
  clear o3 hb1 hx1 b1 hj
  go_wp2_with fail
  refine (take_yes j bs 0 (k : Int) _ rj (by omega) (by omega) (by omega) (by omega)).mono ?_
  rintro e w2 ⟨i, rfl, hi, oi, r2, hg2⟩
  rw [Int.toNat_natCast] at r2
  have R2 := grown_restM hg2
  have q3 := p3.byR R2 (rdr_typedK rj) mp_types2.2.2.2.1
  have b3 : Below w.heap.size w w2 := b2.trans (R2.to_below b2.size (fun i hi e => by
    have e2 : i = j := e
    omega))
  clear p3 b2 R2 oi rj hi hg2
  obtain ⟨y0, y1, y2, y3, y4, y5⟩ := six_cellsK q3
  have hFw := hF.2.2
  go_wp2_with fail
  refine (mread_any a0 a1 a2 a3 a4 a5 j (bs.drop k) (0 + k) w2 (HFm.out _ b3) r2 (by rw [List.length_drop]; omega) (by omega) (by omega)).mono ?_
  rintro e w3 ⟨R3, hres⟩
  obtain ⟨K, A3, n3, c3, f, A4, n4, c4, k1, k2, k3, k5, rfl, hM⟩ := mres_of hres
  unfold atR
  have b4 : Below w.heap.size w w3 := b3.trans (R3.to_below b3.size (fun i hi e => by
    have e2 : i = j := e
    omega))
  have s3 := R3.own q3 (show w.heap.size ≠ j by omega)
  clear y0 y1 y2 y3 y4 y5 q3 R3 r2 b3 hres
  have bz := bl_alloc (bl_alloc (bl_refl w3) (.cells #[.int .i64 K, .bool false, .int .u32 0, .int .u32 0, .slice none 0 0, .slice none 0 0, .slice A3 n3 c3, .int .i64 f, .slice A4 n4 c4] 30)) (.cells #[.int .i64 k1, .int .i64 k2, .int .i64 k3, .slice none 0 0, .int .i64 k5] 38)
  have o9 := (Own.new w3 30 #[.int .i64 K, .bool false, .int .u32 0, .int .u32 0, .slice none 0 0, .slice none 0 0, .slice A3 n3 c3, .int .i64 f, .slice A4 n4 c4]).alloc (.cells #[.int .i64 k1, .int .i64 k2, .int .i64 k3, .slice none 0 0, .int .i64 k5] 38)
  have o10 := Own.new (w3.alloc (.cells #[.int .i64 K, .bool false, .int .u32 0, .int .u32 0, .slice none 0 0, .slice none 0 0, .slice A3 n3 c3, .int .i64 f, .slice A4 n4 c4] 30)) 38 #[.int .i64 k1, .int .i64 k2, .int .i64 k3, .slice none 0 0, .int .i64 k5]
  rw [show (w3.alloc (.cells #[.int .i64 K, .bool false, .int .u32 0, .int .u32 0, .slice none 0 0, .slice none 0 0, .slice A3 n3 c3, .int .i64 f, .slice A4 n4 c4] 30)).heap.size = w3.heap.size + 1 by simp] at o10
  have u3 := s3.step bz
  have hM2 := hM.below bz
  have b5 := bl_trans b4 bz
  have HM := Lib.hid hM2
  clear hM hM2 s3 b4 bz
  have hkI : (k : Int) ≤ (bs.length : Int) := by omega
  have hcI : (bs.length : Int) ≤ (k : Int) := by omega
  have hk0 : (0 : Int) ≤ (k : Int) := by omega
  go_wp2_with fail
  obtain ⟨w4, hw4⟩ : ∃ z, z = (w3.alloc (.cells #[.int .i64 K, .bool false, .int .u32 0, .int .u32 0, .slice none 0 0, .slice none 0 0, .slice A3 n3 c3, .int .i64 f, .slice A4 n4 c4] 30)).alloc (.cells #[.int .i64 k1, .int .i64 k2, .int .i64 k3, .slice none 0 0, .int .i64 k5] 38) := ⟨_, rfl⟩
  rw [← hw4] at u3 b5 HM o9 o10 ⊢
  clear hw4
  have HU := Lib.hid u3
  have HO := Lib.hid (And.intro o9 o10)
  have HB5 := Lib.hid b5
  have hcut : Bytes w w.heap.size A (bs.drop k).length (bs.drop k) := by
    have h := hB.cut (k := k) (cap := k) hkl hc
    rw [if_pos rfl] at h
    rw [List.length_drop]
    exact h
  have HR := Lib.hid (fun (W : World) (hb : Below w4.heap.size w4 W) => (rmread_any a0 a1 a2 a3 a4 a5 _ 0 (bs.drop k) W ((hcut.below (HB5.out.trans (hb.mono HB5.out.size))).more (HB5.out.trans (hb.mono HB5.out.size)).size) (by rw [List.length_drop]; omega) (by rw [List.length_drop]; omega)).mono (fun e W' hh => mres_two hh))
  unfold atR at HR
  rw [List.length_drop, show bs.length - k = 0 by omega] at HR
  have st : RvSt w4 w4.drew (bs.drop k) none none none (fun _ => True) false := RvSt.start (bl_refl w4).drew
  clear o9 o10 u3 b5 hcut
  go_cut [11, 12] (fun h11 h12 wx => ∃ L D3 m3 d3 fl D4 m4 d4 l1 l2 l3 l5, RvR w4 wx #[.int .i64 L, .bool false, .int .u32 0, .int .u32 0, .slice none 0 0, .slice none 0 0, .slice D3 m3 d3, .int .i64 fl, .slice D4 m4 d4] #[.int .i64 l1, .int .i64 l2, .int .i64 l3, .slice none 0 0, .int .i64 l5] (fun W => MRes a2 a3 a4 a5 (bs.drop k) 0 W L D3 m3 d3 fl D4 m4 d4 l1 l2 l3 l5) h11 h12 ∧ ∃ v : Nat, h12 = .pointer (some ⟨v, 0, none⟩) ∧ w4.heap.size ≤ v)
  case first =>
    refine wp_region_noPanic ?_
    refine wp_region_held_drew (S := (fun W => W.cell? ⟨w.heap.size, 0, none⟩ = some (.bool a0) ∧ W.cell? ⟨w.heap.size, 1, none⟩ = some (.bool a1) ∧ W.cell? ⟨w.heap.size, 2, none⟩ = some (.bool a2) ∧ W.cell? ⟨w.heap.size, 3, none⟩ = some (.bool a3) ∧ W.cell? ⟨w.heap.size, 4, none⟩ = some (.bool a4) ∧ W.cell? ⟨w.heap.size, 5, none⟩ = some (.bool a5))) (by kernel_rfl) (six_cellsK (HU.out.step st.1)) (fun hHeld => ?_)
    refine wpAnyH_take (i := 0) (v := ?_) rfl (by kernel_rfl) (by kernel_rfl) (by kernel_rfl) (fun _ _ _ h => h) (Or.inl ⟨by rfl, ?_⟩) (by assumption) ?_
    rotate_left
    · (intro W hSw; obtain ⟨s0, s1, s2, s3, s4, s5⟩ := hSw; go_simp; try with_reducible rfl)
    simp only [Act.put, List.getElem_toArray, List.getElem_cons_zero, List.setIfInBounds_toArray, List.set_cons_zero, List.set_cons_succ]
    refine wpAnyH_take (i := 1) (v := ?_) rfl (by kernel_rfl) (by kernel_rfl) (by kernel_rfl) (fun _ _ _ h => h) (Or.inl ⟨by rfl, ?_⟩) (by assumption) ?_
    rotate_left
    · (intro W hSw; obtain ⟨s0, s1, s2, s3, s4, s5⟩ := hSw; go_simp; try with_reducible rfl)
    simp only [Act.put, List.getElem_toArray, List.getElem_cons_zero, List.getElem_cons_succ, List.setIfInBounds_toArray, List.set_cons_zero, List.set_cons_succ]
    refine wpAnyH_take (i := 2) (v := ?_) rfl (by kernel_rfl) (by kernel_rfl) (by kernel_rfl) (fun _ _ _ h => h) (Or.inl ⟨by rfl, ?_⟩) (by assumption) ?_
    rotate_left
    · (intro W hSw; obtain ⟨s0, s1, s2, s3, s4, s5⟩ := hSw; go_simp; try with_reducible rfl)
    simp only [Act.put, List.getElem_toArray, List.getElem_cons_zero, List.getElem_cons_succ, List.setIfInBounds_toArray, List.set_cons_zero, List.set_cons_succ]
    refine wpAnyH_take (i := 3) (v := ?_) rfl (by kernel_rfl) (by kernel_rfl) (by kernel_rfl) (fun _ _ _ h => h) (Or.inl ⟨by rfl, ?_⟩) (by assumption) ?_
    rotate_left
    · (intro W hSw; obtain ⟨s0, s1, s2, s3, s4, s5⟩ := hSw; go_simp; try with_reducible rfl)
    simp only [Act.put, List.getElem_toArray, List.getElem_cons_zero, List.getElem_cons_succ, List.setIfInBounds_toArray, List.set_cons_zero, List.set_cons_succ]
    refine wpAnyH_take (i := 4) (v := ?_) rfl (by kernel_rfl) (by kernel_rfl) (by kernel_rfl) (fun _ _ _ h => h) (Or.inl ⟨by rfl, ?_⟩) (by assumption) ?_
    rotate_left
    · (intro W hSw; obtain ⟨s0, s1, s2, s3, s4, s5⟩ := hSw; go_simp; try with_reducible rfl)
    simp only [Act.put, List.getElem_toArray, List.getElem_cons_zero, List.getElem_cons_succ, List.setIfInBounds_toArray, List.set_cons_zero, List.set_cons_succ]
    refine wpAnyH_ready (rs := [5, 9, 10]) (by kernel_rfl) (by simp) ?_
    refine AllReadyH.cons rfl (fun K hK => ?_) (AllReadyH.cons rfl (fun K hK => ?_) (AllReadyH.cons rfl (fun K hK => ?_) AllReadyH.nil))
    · go_simp
      go_at_call 19
      refine (HR.out _ st.1).mono ?_
      rintro e w8 ⟨L, D3, m3, d3, fl, D4, m4, d4, l1, l2, l3, l5, rfl, hX8, hb8⟩
      replace st := st.call_ (Y := (fun W => MRes a2 a3 a4 a5 (bs.drop k) 0 W L D3 m3 d3 fl D4 m4 d4 l1 l2 l3 l5)) hb8 hX8
      clear hb8 hX8
      refine hK.out _ _ (six_cellsK (HU.out.step st.1)) (fun hHeld2 => ?_)
      clear hK K hHeld
      have hHeld := hHeld2
      clear hHeld2
      try simp only [Act.put, List.getElem_toArray, List.getElem_cons_zero, List.getElem_cons_succ, List.setIfInBounds_toArray, List.set_cons_zero, List.set_cons_succ]
      refine wpAnyH_take (i := 6) (v := ?_) rfl (by kernel_rfl) (by kernel_rfl) (by kernel_rfl) (fun _ _ _ h => h) (Or.inl ⟨by rfl, ?_⟩) (by assumption) ?_
      rotate_left
      · (intro W hSw; obtain ⟨s0, s1, s2, s3, s4, s5⟩ := hSw; go_simp; try with_reducible rfl)
      simp only [Act.put, List.getElem_toArray, List.getElem_cons_zero, List.getElem_cons_succ, List.setIfInBounds_toArray, List.set_cons_zero, List.set_cons_succ]
      refine wpAnyH_take (i := 7) (v := ?_) rfl (by kernel_rfl) (by kernel_rfl) (by kernel_rfl) (fun _ _ _ h => h) (Or.inl ⟨by rfl, ?_⟩) (by assumption) ?_
      rotate_left
      · (intro W hSw; obtain ⟨s0, s1, s2, s3, s4, s5⟩ := hSw; go_simp; try with_reducible rfl)
      simp only [Act.put, List.getElem_toArray, List.getElem_cons_zero, List.getElem_cons_succ, List.setIfInBounds_toArray, List.set_cons_zero, List.set_cons_succ]
      refine wpAnyH_take (i := 8) (v := ?_) rfl (by kernel_rfl) (by kernel_rfl) (by kernel_rfl) (fun _ _ _ h => h) (Or.inl ⟨by rfl, ?_⟩) (by assumption) ?_
      rotate_left
      · (intro W hSw; obtain ⟨s0, s1, s2, s3, s4, s5⟩ := hSw; go_simp; try with_reducible rfl)
      simp only [Act.put, List.getElem_toArray, List.getElem_cons_zero, List.getElem_cons_succ, List.setIfInBounds_toArray, List.set_cons_zero, List.set_cons_succ]
      refine wpAnyH_ready (rs := [9, 10]) (by kernel_rfl) (by simp) ?_
      refine AllReadyH.cons rfl (fun K hK => ?_) (AllReadyH.cons rfl (fun K hK => ?_) AllReadyH.nil)
      · go_simp
        replace st := st.as_ (KeepX.mres _ _ _ _ _ _ _ _ _ _ _ _ _ _ _ _ _ _) (n := w8.heap.size) (by simp)
        refine hK.out _ _ (six_cellsK (HU.out.step st.1)) (fun hHeld2 => ?_)
        clear hK K hHeld
        have hHeld := hHeld2
        clear hHeld2
        try simp only [Act.put, List.getElem_toArray, List.getElem_cons_zero, List.getElem_cons_succ, List.setIfInBounds_toArray, List.set_cons_zero, List.set_cons_succ]
        refine wpAnyH_ready (rs := [10]) (by kernel_rfl) (by simp) ?_
        refine AllReadyH.cons rfl (fun K hK => ?_) AllReadyH.nil
        go_simp
        replace st := st.vs_ (KeepX.mres _ _ _ _ _ _ _ _ _ _ _ _ _ _ _ _ _ _) (n := w8.heap.size + 1) (by simp)
        refine hK.out _ _ (six_cellsK (HU.out.step st.1)) (fun hHeld2 => ?_)
        clear hK K hHeld
        have hHeld := hHeld2
        clear hHeld2
        try simp only [Act.put, List.getElem_toArray, List.getElem_cons_zero, List.getElem_cons_succ, List.setIfInBounds_toArray, List.set_cons_zero, List.set_cons_succ]
        refine wpAnyH_ready (rs := [11]) (by kernel_rfl) (by simp) ?_
        refine AllReadyH.cons rfl (fun K hK => ?_) AllReadyH.nil
        refine step_store_rowV rfl _ _ _ rfl _ #[.int .i64 L, .bool false, .int .u32 0, .int .u32 0, .slice none 0 0, .slice none 0 0, .slice D3 m3 d3, .int .i64 fl, .slice D4 m4 d4] rfl rfl 30 zA9 st.a_ (at_infoM _ _ _ _ _ _ _ _ _) rfl (at_oneV _ _ _ _ _ _ _ _ _ _ _ _ _ _ _ _ _) ?_
        refine hK.out _ _ (six_cellsK (HU.out.step (st.b1_ _))) (fun hHeld2 => ?_)
        clear hK K hHeld
        have hHeld := hHeld2
        clear hHeld2
        try simp only [Act.put, List.getElem_toArray, List.getElem_cons_zero, List.getElem_cons_succ]
        refine wpAnyH_ready (rs := [12]) (by kernel_rfl) (by simp) ?_
        refine AllReadyH.cons rfl (fun K hK => ?_) AllReadyH.nil
        refine step_store_rowV rfl _ _ _ rfl _ #[.int .i64 l1, .int .i64 l2, .int .i64 l3, .slice none 0 0, .int .i64 l5] rfl rfl 38 zV5 (st.v_ _) (vd_infoM _ _ _ _ _) rfl (vd_oneM _ _ _ _) ?_
        refine hK.out _ _ (six_cellsK (HU.out.step (st.b2_ _ _))) (fun hHeld2 => ?_)
        clear hK K hHeld
        have hHeld := hHeld2
        clear hHeld2
        try simp only [Act.put, List.getElem_toArray, List.getElem_cons_zero, List.getElem_cons_succ]
        refine wpAnyH_done (by kernel_rfl) ?_ _
        refine NoPanic.normal ?_
        go_wp2_with fail
        go_meet
        exact ⟨_, _, _, _, _, _, _, _, _, _, _, _, RvSt.fin_ (KeepX.mres _ _ _ _ _ _ _ _ _ _ _ _ _ _ _ _ _ _) st _ _, _, rfl, (st.2.2.1 _ rfl).1⟩
      · go_simp
        replace st := st.vs_ (KeepX.mres _ _ _ _ _ _ _ _ _ _ _ _ _ _ _ _ _ _) (n := w8.heap.size) (by simp)
        refine hK.out _ _ (six_cellsK (HU.out.step st.1)) (fun hHeld2 => ?_)
        clear hK K hHeld
        have hHeld := hHeld2
        clear hHeld2
        try simp only [Act.put, List.getElem_toArray, List.getElem_cons_zero, List.getElem_cons_succ, List.setIfInBounds_toArray, List.set_cons_zero, List.set_cons_succ]
        refine wpAnyH_ready (rs := [9]) (by kernel_rfl) (by simp) ?_
        refine AllReadyH.cons rfl (fun K hK => ?_) AllReadyH.nil
        go_simp
        replace st := st.as_ (KeepX.mres _ _ _ _ _ _ _ _ _ _ _ _ _ _ _ _ _ _) (n := w8.heap.size + 1) (by simp)
        refine hK.out _ _ (six_cellsK (HU.out.step st.1)) (fun hHeld2 => ?_)
        clear hK K hHeld
        have hHeld := hHeld2
        clear hHeld2
        try simp only [Act.put, List.getElem_toArray, List.getElem_cons_zero, List.getElem_cons_succ, List.setIfInBounds_toArray, List.set_cons_zero, List.set_cons_succ]
        refine wpAnyH_ready (rs := [11]) (by kernel_rfl) (by simp) ?_
        refine AllReadyH.cons rfl (fun K hK => ?_) AllReadyH.nil
        refine step_store_rowV rfl _ _ _ rfl _ #[.int .i64 L, .bool false, .int .u32 0, .int .u32 0, .slice none 0 0, .slice none 0 0, .slice D3 m3 d3, .int .i64 fl, .slice D4 m4 d4] rfl rfl 30 zA9 st.a_ (at_infoM _ _ _ _ _ _ _ _ _) rfl (at_oneV _ _ _ _ _ _ _ _ _ _ _ _ _ _ _ _ _) ?_
        refine hK.out _ _ (six_cellsK (HU.out.step (st.b1_ _))) (fun hHeld2 => ?_)
        clear hK K hHeld
        have hHeld := hHeld2
        clear hHeld2
        try simp only [Act.put, List.getElem_toArray, List.getElem_cons_zero, List.getElem_cons_succ]
        refine wpAnyH_ready (rs := [12]) (by kernel_rfl) (by simp) ?_
        refine AllReadyH.cons rfl (fun K hK => ?_) AllReadyH.nil
        refine step_store_rowV rfl _ _ _ rfl _ #[.int .i64 l1, .int .i64 l2, .int .i64 l3, .slice none 0 0, .int .i64 l5] rfl rfl 38 zV5 (st.v_ _) (vd_infoM _ _ _ _ _) rfl (vd_oneM _ _ _ _) ?_
        refine hK.out _ _ (six_cellsK (HU.out.step (st.b2_ _ _))) (fun hHeld2 => ?_)
        clear hK K hHeld
        have hHeld := hHeld2
        clear hHeld2
        try simp only [Act.put, List.getElem_toArray, List.getElem_cons_zero, List.getElem_cons_succ]
        refine wpAnyH_done (by kernel_rfl) ?_ _
        refine NoPanic.normal ?_
        go_wp2_with fail
        go_meet
        exact ⟨_, _, _, _, _, _, _, _, _, _, _, _, RvSt.fin_ (KeepX.mres _ _ _ _ _ _ _ _ _ _ _ _ _ _ _ _ _ _) st _ _, _, rfl, (st.2.2.1 _ rfl).1⟩
    · go_simp
      replace st := st.as_ KeepX.true_ (n := w4.heap.size) (by simp)
      refine hK.out _ _ (six_cellsK (HU.out.step st.1)) (fun hHeld2 => ?_)
      clear hK K hHeld
      have hHeld := hHeld2
      clear hHeld2
      try simp only [Act.put, List.getElem_toArray, List.getElem_cons_zero, List.getElem_cons_succ, List.setIfInBounds_toArray, List.set_cons_zero, List.set_cons_succ]
      refine wpAnyH_ready (rs := [5, 10]) (by kernel_rfl) (by simp) ?_
      refine AllReadyH.cons rfl (fun K hK => ?_) (AllReadyH.cons rfl (fun K hK => ?_) AllReadyH.nil)
      · go_simp
        go_at_call 19
        refine (HR.out _ st.1).mono ?_
        rintro e w8 ⟨L, D3, m3, d3, fl, D4, m4, d4, l1, l2, l3, l5, rfl, hX8, hb8⟩
        replace st := st.call_ (Y := (fun W => MRes a2 a3 a4 a5 (bs.drop k) 0 W L D3 m3 d3 fl D4 m4 d4 l1 l2 l3 l5)) hb8 hX8
        clear hb8 hX8
        refine hK.out _ _ (six_cellsK (HU.out.step st.1)) (fun hHeld2 => ?_)
        clear hK K hHeld
        have hHeld := hHeld2
        clear hHeld2
        try simp only [Act.put, List.getElem_toArray, List.getElem_cons_zero, List.getElem_cons_succ, List.setIfInBounds_toArray, List.set_cons_zero, List.set_cons_succ]
        refine wpAnyH_take (i := 6) (v := ?_) rfl (by kernel_rfl) (by kernel_rfl) (by kernel_rfl) (fun _ _ _ h => h) (Or.inl ⟨by rfl, ?_⟩) (by assumption) ?_
        rotate_left
        · (intro W hSw; obtain ⟨s0, s1, s2, s3, s4, s5⟩ := hSw; go_simp; try with_reducible rfl)
        simp only [Act.put, List.getElem_toArray, List.getElem_cons_zero, List.getElem_cons_succ, List.setIfInBounds_toArray, List.set_cons_zero, List.set_cons_succ]
        refine wpAnyH_take (i := 7) (v := ?_) rfl (by kernel_rfl) (by kernel_rfl) (by kernel_rfl) (fun _ _ _ h => h) (Or.inl ⟨by rfl, ?_⟩) (by assumption) ?_
        rotate_left
        · (intro W hSw; obtain ⟨s0, s1, s2, s3, s4, s5⟩ := hSw; go_simp; try with_reducible rfl)
        simp only [Act.put, List.getElem_toArray, List.getElem_cons_zero, List.getElem_cons_succ, List.setIfInBounds_toArray, List.set_cons_zero, List.set_cons_succ]
        refine wpAnyH_take (i := 8) (v := ?_) rfl (by kernel_rfl) (by kernel_rfl) (by kernel_rfl) (fun _ _ _ h => h) (Or.inl ⟨by rfl, ?_⟩) (by assumption) ?_
        rotate_left
        · (intro W hSw; obtain ⟨s0, s1, s2, s3, s4, s5⟩ := hSw; go_simp; try with_reducible rfl)
        simp only [Act.put, List.getElem_toArray, List.getElem_cons_zero, List.getElem_cons_succ, List.setIfInBounds_toArray, List.set_cons_zero, List.set_cons_succ]
        refine wpAnyH_ready (rs := [10]) (by kernel_rfl) (by simp) ?_
        refine AllReadyH.cons rfl (fun K hK => ?_) AllReadyH.nil
        go_simp
        replace st := st.vs_ (KeepX.mres _ _ _ _ _ _ _ _ _ _ _ _ _ _ _ _ _ _) (n := w8.heap.size) (by simp)
        refine hK.out _ _ (six_cellsK (HU.out.step st.1)) (fun hHeld2 => ?_)
        clear hK K hHeld
        have hHeld := hHeld2
        clear hHeld2
        try simp only [Act.put, List.getElem_toArray, List.getElem_cons_zero, List.getElem_cons_succ, List.setIfInBounds_toArray, List.set_cons_zero, List.set_cons_succ]
        refine wpAnyH_ready (rs := [11]) (by kernel_rfl) (by simp) ?_
        refine AllReadyH.cons rfl (fun K hK => ?_) AllReadyH.nil
        refine step_store_rowV rfl _ _ _ rfl _ #[.int .i64 L, .bool false, .int .u32 0, .int .u32 0, .slice none 0 0, .slice none 0 0, .slice D3 m3 d3, .int .i64 fl, .slice D4 m4 d4] rfl rfl 30 zA9 st.a_ (at_infoM _ _ _ _ _ _ _ _ _) rfl (at_oneV _ _ _ _ _ _ _ _ _ _ _ _ _ _ _ _ _) ?_
        refine hK.out _ _ (six_cellsK (HU.out.step (st.b1_ _))) (fun hHeld2 => ?_)
        clear hK K hHeld
        have hHeld := hHeld2
        clear hHeld2
        try simp only [Act.put, List.getElem_toArray, List.getElem_cons_zero, List.getElem_cons_succ]
        refine wpAnyH_ready (rs := [12]) (by kernel_rfl) (by simp) ?_
        refine AllReadyH.cons rfl (fun K hK => ?_) AllReadyH.nil
        refine step_store_rowV rfl _ _ _ rfl _ #[.int .i64 l1, .int .i64 l2, .int .i64 l3, .slice none 0 0, .int .i64 l5] rfl rfl 38 zV5 (st.v_ _) (vd_infoM _ _ _ _ _) rfl (vd_oneM _ _ _ _) ?_
        refine hK.out _ _ (six_cellsK (HU.out.step (st.b2_ _ _))) (fun hHeld2 => ?_)
        clear hK K hHeld
        have hHeld := hHeld2
        clear hHeld2
        try simp only [Act.put, List.getElem_toArray, List.getElem_cons_zero, List.getElem_cons_succ]
        refine wpAnyH_done (by kernel_rfl) ?_ _
        refine NoPanic.normal ?_
        go_wp2_with fail
        go_meet
        exact ⟨_, _, _, _, _, _, _, _, _, _, _, _, RvSt.fin_ (KeepX.mres _ _ _ _ _ _ _ _ _ _ _ _ _ _ _ _ _ _) st _ _, _, rfl, (st.2.2.1 _ rfl).1⟩
      · go_simp
        replace st := st.vs_ KeepX.true_ (n := w4.heap.size + 1) (by simp)
        refine hK.out _ _ (six_cellsK (HU.out.step st.1)) (fun hHeld2 => ?_)
        clear hK K hHeld
        have hHeld := hHeld2
        clear hHeld2
        try simp only [Act.put, List.getElem_toArray, List.getElem_cons_zero, List.getElem_cons_succ, List.setIfInBounds_toArray, List.set_cons_zero, List.set_cons_succ]
        refine wpAnyH_ready (rs := [5]) (by kernel_rfl) (by simp) ?_
        refine AllReadyH.cons rfl (fun K hK => ?_) AllReadyH.nil
        go_simp
        go_at_call 19
        refine (HR.out _ st.1).mono ?_
        rintro e w8 ⟨L, D3, m3, d3, fl, D4, m4, d4, l1, l2, l3, l5, rfl, hX8, hb8⟩
        replace st := st.call_ (Y := (fun W => MRes a2 a3 a4 a5 (bs.drop k) 0 W L D3 m3 d3 fl D4 m4 d4 l1 l2 l3 l5)) hb8 hX8
        clear hb8 hX8
        refine hK.out _ _ (six_cellsK (HU.out.step st.1)) (fun hHeld2 => ?_)
        clear hK K hHeld
        have hHeld := hHeld2
        clear hHeld2
        try simp only [Act.put, List.getElem_toArray, List.getElem_cons_zero, List.getElem_cons_succ, List.setIfInBounds_toArray, List.set_cons_zero, List.set_cons_succ]
        refine wpAnyH_take (i := 6) (v := ?_) rfl (by kernel_rfl) (by kernel_rfl) (by kernel_rfl) (fun _ _ _ h => h) (Or.inl ⟨by rfl, ?_⟩) (by assumption) ?_
        rotate_left
        · (intro W hSw; obtain ⟨s0, s1, s2, s3, s4, s5⟩ := hSw; go_simp; try with_reducible rfl)
        simp only [Act.put, List.getElem_toArray, List.getElem_cons_zero, List.getElem_cons_succ, List.setIfInBounds_toArray, List.set_cons_zero, List.set_cons_succ]
        refine wpAnyH_take (i := 7) (v := ?_) rfl (by kernel_rfl) (by kernel_rfl) (by kernel_rfl) (fun _ _ _ h => h) (Or.inl ⟨by rfl, ?_⟩) (by assumption) ?_
        rotate_left
        · (intro W hSw; obtain ⟨s0, s1, s2, s3, s4, s5⟩ := hSw; go_simp; try with_reducible rfl)
        simp only [Act.put, List.getElem_toArray, List.getElem_cons_zero, List.getElem_cons_succ, List.setIfInBounds_toArray, List.set_cons_zero, List.set_cons_succ]
        refine wpAnyH_take (i := 8) (v := ?_) rfl (by kernel_rfl) (by kernel_rfl) (by kernel_rfl) (fun _ _ _ h => h) (Or.inl ⟨by rfl, ?_⟩) (by assumption) ?_
        rotate_left
        · (intro W hSw; obtain ⟨s0, s1, s2, s3, s4, s5⟩ := hSw; go_simp; try with_reducible rfl)
        simp only [Act.put, List.getElem_toArray, List.getElem_cons_zero, List.getElem_cons_succ, List.setIfInBounds_toArray, List.set_cons_zero, List.set_cons_succ]
        refine wpAnyH_ready (rs := [11]) (by kernel_rfl) (by simp) ?_
        refine AllReadyH.cons rfl (fun K hK => ?_) AllReadyH.nil
        refine step_store_rowV rfl _ _ _ rfl _ #[.int .i64 L, .bool false, .int .u32 0, .int .u32 0, .slice none 0 0, .slice none 0 0, .slice D3 m3 d3, .int .i64 fl, .slice D4 m4 d4] rfl rfl 30 zA9 st.a_ (at_infoM _ _ _ _ _ _ _ _ _) rfl (at_oneV _ _ _ _ _ _ _ _ _ _ _ _ _ _ _ _ _) ?_
        refine hK.out _ _ (six_cellsK (HU.out.step (st.b1_ _))) (fun hHeld2 => ?_)
        clear hK K hHeld
        have hHeld := hHeld2
        clear hHeld2
        try simp only [Act.put, List.getElem_toArray, List.getElem_cons_zero, List.getElem_cons_succ]
        refine wpAnyH_ready (rs := [12]) (by kernel_rfl) (by simp) ?_
        refine AllReadyH.cons rfl (fun K hK => ?_) AllReadyH.nil
        refine step_store_rowV rfl _ _ _ rfl _ #[.int .i64 l1, .int .i64 l2, .int .i64 l3, .slice none 0 0, .int .i64 l5] rfl rfl 38 zV5 (st.v_ _) (vd_infoM _ _ _ _ _) rfl (vd_oneM _ _ _ _) ?_
        refine hK.out _ _ (six_cellsK (HU.out.step (st.b2_ _ _))) (fun hHeld2 => ?_)
        clear hK K hHeld
        have hHeld := hHeld2
        clear hHeld2
        try simp only [Act.put, List.getElem_toArray, List.getElem_cons_zero, List.getElem_cons_succ]
        refine wpAnyH_done (by kernel_rfl) ?_ _
        refine NoPanic.normal ?_
        go_wp2_with fail
        go_meet
        exact ⟨_, _, _, _, _, _, _, _, _, _, _, _, RvSt.fin_ (KeepX.mres _ _ _ _ _ _ _ _ _ _ _ _ _ _ _ _ _ _) st _ _, _, rfl, (st.2.2.1 _ rfl).1⟩
    · go_simp
      replace st := st.vs_ KeepX.true_ (n := w4.heap.size) (by simp)
      refine hK.out _ _ (six_cellsK (HU.out.step st.1)) (fun hHeld2 => ?_)
      clear hK K hHeld
      have hHeld := hHeld2
      clear hHeld2
      try simp only [Act.put, List.getElem_toArray, List.getElem_cons_zero, List.getElem_cons_succ, List.setIfInBounds_toArray, List.set_cons_zero, List.set_cons_succ]
      refine wpAnyH_ready (rs := [5, 9]) (by kernel_rfl) (by simp) ?_
      refine AllReadyH.cons rfl (fun K hK => ?_) (AllReadyH.cons rfl (fun K hK => ?_) AllReadyH.nil)
      · go_simp
        go_at_call 19
        refine (HR.out _ st.1).mono ?_
        rintro e w8 ⟨L, D3, m3, d3, fl, D4, m4, d4, l1, l2, l3, l5, rfl, hX8, hb8⟩
        replace st := st.call_ (Y := (fun W => MRes a2 a3 a4 a5 (bs.drop k) 0 W L D3 m3 d3 fl D4 m4 d4 l1 l2 l3 l5)) hb8 hX8
        clear hb8 hX8
        refine hK.out _ _ (six_cellsK (HU.out.step st.1)) (fun hHeld2 => ?_)
        clear hK K hHeld
        have hHeld := hHeld2
        clear hHeld2
        try simp only [Act.put, List.getElem_toArray, List.getElem_cons_zero, List.getElem_cons_succ, List.setIfInBounds_toArray, List.set_cons_zero, List.set_cons_succ]
        refine wpAnyH_take (i := 6) (v := ?_) rfl (by kernel_rfl) (by kernel_rfl) (by kernel_rfl) (fun _ _ _ h => h) (Or.inl ⟨by rfl, ?_⟩) (by assumption) ?_
        rotate_left
        · (intro W hSw; obtain ⟨s0, s1, s2, s3, s4, s5⟩ := hSw; go_simp; try with_reducible rfl)
        simp only [Act.put, List.getElem_toArray, List.getElem_cons_zero, List.getElem_cons_succ, List.setIfInBounds_toArray, List.set_cons_zero, List.set_cons_succ]
        refine wpAnyH_take (i := 7) (v := ?_) rfl (by kernel_rfl) (by kernel_rfl) (by kernel_rfl) (fun _ _ _ h => h) (Or.inl ⟨by rfl, ?_⟩) (by assumption) ?_
        rotate_left
        · (intro W hSw; obtain ⟨s0, s1, s2, s3, s4, s5⟩ := hSw; go_simp; try with_reducible rfl)
        simp only [Act.put, List.getElem_toArray, List.getElem_cons_zero, List.getElem_cons_succ, List.setIfInBounds_toArray, List.set_cons_zero, List.set_cons_succ]
        refine wpAnyH_take (i := 8) (v := ?_) rfl (by kernel_rfl) (by kernel_rfl) (by kernel_rfl) (fun _ _ _ h => h) (Or.inl ⟨by rfl, ?_⟩) (by assumption) ?_
        rotate_left
        · (intro W hSw; obtain ⟨s0, s1, s2, s3, s4, s5⟩ := hSw; go_simp; try with_reducible rfl)
        simp only [Act.put, List.getElem_toArray, List.getElem_cons_zero, List.getElem_cons_succ, List.setIfInBounds_toArray, List.set_cons_zero, List.set_cons_succ]
        refine wpAnyH_ready (rs := [9]) (by kernel_rfl) (by simp) ?_
        refine AllReadyH.cons rfl (fun K hK => ?_) AllReadyH.nil
        go_simp
        replace st := st.as_ (KeepX.mres _ _ _ _ _ _ _ _ _ _ _ _ _ _ _ _ _ _) (n := w8.heap.size) (by simp)
        refine hK.out _ _ (six_cellsK (HU.out.step st.1)) (fun hHeld2 => ?_)
        clear hK K hHeld
        have hHeld := hHeld2
        clear hHeld2
        try simp only [Act.put, List.getElem_toArray, List.getElem_cons_zero, List.getElem_cons_succ, List.setIfInBounds_toArray, List.set_cons_zero, List.set_cons_succ]
        refine wpAnyH_ready (rs := [11]) (by kernel_rfl) (by simp) ?_
        refine AllReadyH.cons rfl (fun K hK => ?_) AllReadyH.nil
        refine step_store_rowV rfl _ _ _ rfl _ #[.int .i64 L, .bool false, .int .u32 0, .int .u32 0, .slice none 0 0, .slice none 0 0, .slice D3 m3 d3, .int .i64 fl, .slice D4 m4 d4] rfl rfl 30 zA9 st.a_ (at_infoM _ _ _ _ _ _ _ _ _) rfl (at_oneV _ _ _ _ _ _ _ _ _ _ _ _ _ _ _ _ _) ?_
        refine hK.out _ _ (six_cellsK (HU.out.step (st.b1_ _))) (fun hHeld2 => ?_)
        clear hK K hHeld
        have hHeld := hHeld2
        clear hHeld2
        try simp only [Act.put, List.getElem_toArray, List.getElem_cons_zero, List.getElem_cons_succ]
        refine wpAnyH_ready (rs := [12]) (by kernel_rfl) (by simp) ?_
        refine AllReadyH.cons rfl (fun K hK => ?_) AllReadyH.nil
        refine step_store_rowV rfl _ _ _ rfl _ #[.int .i64 l1, .int .i64 l2, .int .i64 l3, .slice none 0 0, .int .i64 l5] rfl rfl 38 zV5 (st.v_ _) (vd_infoM _ _ _ _ _) rfl (vd_oneM _ _ _ _) ?_
        refine hK.out _ _ (six_cellsK (HU.out.step (st.b2_ _ _))) (fun hHeld2 => ?_)
        clear hK K hHeld
        have hHeld := hHeld2
        clear hHeld2
        try simp only [Act.put, List.getElem_toArray, List.getElem_cons_zero, List.getElem_cons_succ]
        refine wpAnyH_done (by kernel_rfl) ?_ _
        refine NoPanic.normal ?_
        go_wp2_with fail
        go_meet
        exact ⟨_, _, _, _, _, _, _, _, _, _, _, _, RvSt.fin_ (KeepX.mres _ _ _ _ _ _ _ _ _ _ _ _ _ _ _ _ _ _) st _ _, _, rfl, (st.2.2.1 _ rfl).1⟩
      · go_simp
        replace st := st.as_ KeepX.true_ (n := w4.heap.size + 1) (by simp)
        refine hK.out _ _ (six_cellsK (HU.out.step st.1)) (fun hHeld2 => ?_)
        clear hK K hHeld
        have hHeld := hHeld2
        clear hHeld2
        try simp only [Act.put, List.getElem_toArray, List.getElem_cons_zero, List.getElem_cons_succ, List.setIfInBounds_toArray, List.set_cons_zero, List.set_cons_succ]
        refine wpAnyH_ready (rs := [5]) (by kernel_rfl) (by simp) ?_
        refine AllReadyH.cons rfl (fun K hK => ?_) AllReadyH.nil
        go_simp
        go_at_call 19
        refine (HR.out _ st.1).mono ?_
        rintro e w8 ⟨L, D3, m3, d3, fl, D4, m4, d4, l1, l2, l3, l5, rfl, hX8, hb8⟩
        replace st := st.call_ (Y := (fun W => MRes a2 a3 a4 a5 (bs.drop k) 0 W L D3 m3 d3 fl D4 m4 d4 l1 l2 l3 l5)) hb8 hX8
        clear hb8 hX8
        refine hK.out _ _ (six_cellsK (HU.out.step st.1)) (fun hHeld2 => ?_)
        clear hK K hHeld
        have hHeld := hHeld2
        clear hHeld2
        try simp only [Act.put, List.getElem_toArray, List.getElem_cons_zero, List.getElem_cons_succ, List.setIfInBounds_toArray, List.set_cons_zero, List.set_cons_succ]
        refine wpAnyH_take (i := 6) (v := ?_) rfl (by kernel_rfl) (by kernel_rfl) (by kernel_rfl) (fun _ _ _ h => h) (Or.inl ⟨by rfl, ?_⟩) (by assumption) ?_
        rotate_left
        · (intro W hSw; obtain ⟨s0, s1, s2, s3, s4, s5⟩ := hSw; go_simp; try with_reducible rfl)
        simp only [Act.put, List.getElem_toArray, List.getElem_cons_zero, List.getElem_cons_succ, List.setIfInBounds_toArray, List.set_cons_zero, List.set_cons_succ]
        refine wpAnyH_take (i := 7) (v := ?_) rfl (by kernel_rfl) (by kernel_rfl) (by kernel_rfl) (fun _ _ _ h => h) (Or.inl ⟨by rfl, ?_⟩) (by assumption) ?_
        rotate_left
        · (intro W hSw; obtain ⟨s0, s1, s2, s3, s4, s5⟩ := hSw; go_simp; try with_reducible rfl)
        simp only [Act.put, List.getElem_toArray, List.getElem_cons_zero, List.getElem_cons_succ, List.setIfInBounds_toArray, List.set_cons_zero, List.set_cons_succ]
        refine wpAnyH_take (i := 8) (v := ?_) rfl (by kernel_rfl) (by kernel_rfl) (by kernel_rfl) (fun _ _ _ h => h) (Or.inl ⟨by rfl, ?_⟩) (by assumption) ?_
        rotate_left
        · (intro W hSw; obtain ⟨s0, s1, s2, s3, s4, s5⟩ := hSw; go_simp; try with_reducible rfl)
        simp only [Act.put, List.getElem_toArray, List.getElem_cons_zero, List.getElem_cons_succ, List.setIfInBounds_toArray, List.set_cons_zero, List.set_cons_succ]
        refine wpAnyH_ready (rs := [11]) (by kernel_rfl) (by simp) ?_
        refine AllReadyH.cons rfl (fun K hK => ?_) AllReadyH.nil
        refine step_store_rowV rfl _ _ _ rfl _ #[.int .i64 L, .bool false, .int .u32 0, .int .u32 0, .slice none 0 0, .slice none 0 0, .slice D3 m3 d3, .int .i64 fl, .slice D4 m4 d4] rfl rfl 30 zA9 st.a_ (at_infoM _ _ _ _ _ _ _ _ _) rfl (at_oneV _ _ _ _ _ _ _ _ _ _ _ _ _ _ _ _ _) ?_
        refine hK.out _ _ (six_cellsK (HU.out.step (st.b1_ _))) (fun hHeld2 => ?_)
        clear hK K hHeld
        have hHeld := hHeld2
        clear hHeld2
        try simp only [Act.put, List.getElem_toArray, List.getElem_cons_zero, List.getElem_cons_succ]
        refine wpAnyH_ready (rs := [12]) (by kernel_rfl) (by simp) ?_
        refine AllReadyH.cons rfl (fun K hK => ?_) AllReadyH.nil
        refine step_store_rowV rfl _ _ _ rfl _ #[.int .i64 l1, .int .i64 l2, .int .i64 l3, .slice none 0 0, .int .i64 l5] rfl rfl 38 zV5 (st.v_ _) (vd_infoM _ _ _ _ _) rfl (vd_oneM _ _ _ _) ?_
        refine hK.out _ _ (six_cellsK (HU.out.step (st.b2_ _ _))) (fun hHeld2 => ?_)
        clear hK K hHeld
        have hHeld := hHeld2
        clear hHeld2
        try simp only [Act.put, List.getElem_toArray, List.getElem_cons_zero, List.getElem_cons_succ]
        refine wpAnyH_done (by kernel_rfl) ?_ _
        refine NoPanic.normal ?_
        go_wp2_with fail
        go_meet
        exact ⟨_, _, _, _, _, _, _, _, _, _, _, _, RvSt.fin_ (KeepX.mres _ _ _ _ _ _ _ _ _ _ _ _ _ _ _ _ _ _) st _ _, _, rfl, (st.2.2.1 _ rfl).1⟩
  case rest =>
    obtain ⟨L, D3, m3, d3, fl, D4, m4, d4, l1, l2, l3, l5, ⟨g11, g12, rfl, rfl, p11, p12, hbx, hN⟩, gv, hgv, hg12⟩ := hcut
    have hge : g12 = gv := by
      cases hgv
      rfl
    subst hge
    have hM5 := HM.out.below hbx
    have q9 := HO.out.1.step hbx
    have q10 := HO.out.2.step hbx
    have b6 := HB5.out.trans (hbx.mono HB5.out.size)
    have hFx := HFm.out _ b6
    have hl10 := HO.out.2.lt
    have HJ := Lib.hid (hM5.join hN)
    have hbd : l1 ≠ 0 → 0 ≤ l5 ∧ l5 ≤ 1000 := fun h => by
      rcases hN with ⟨_, _, hf⟩ | ⟨h1, _⟩
      · have := hf.bound
        rw [List.length_drop] at this
        omega
      · exact absurd h1 h
    clear HU HO HM HR st hM5 hN hgv
    rcases HJ.out with ⟨z1, z2, hk1, rfl, rfl, rfl, h5e⟩ | ⟨rfl, rfl, rfl, rfl, rfl, rfl, rfl, rfl, rfl, rfl, rfl, rfl, xs, rs, hb1, hb2, hr1, hr2, hrl⟩
    · clear HJ
      obtain ⟨rfl, rfl, rfl, rfl, rfl, rfl, rfl, rfl⟩ := atR_inj (z1.trans (show zA9 = atR 0 none 0 0 0 none 0 0 from rfl))
      obtain ⟨rfl, rfl, rfl, rfl, rfl, rfl, rfl, rfl⟩ := atR_inj (z2.trans (show zA9 = atR 0 none 0 0 0 none 0 0 from rfl))
      obtain ⟨hl0, hl1⟩ := hbd hk1
      have HKE := Lib.hid (show k5 = l5 + (k : Int) by omega)
      have hwk : IntKind.i64.wrap (l5 + (k : Int)) = l5 + (k : Int) := by rw [IntKind.wrap_i64]; omega
      have qk : (k1 != 0) = true := by simpa using hk1
      have hne : ¬ w3.heap.size + 1 = g12 := by omega
      clear h5e z1 z2 hk1 hbd hl0 hl1
      have v0 := p12.cell (i := 0) (v := .int .i64 k1) rfl
      have v4 := p12.cell (i := 4) (v := .int .i64 l5) rfl
      have f4 := p12.frozen 4
      have R9 := Rest.setCell wc ⟨g12, 4, none⟩ (.int .i64 (l5 + (k : Int)))
      have n9 := R9.own q9 (fun e => by
        have e2 : w3.heap.size = g12 := e
        omega)
      have n10 := R9.own q10 hne
      have n11 := R9.own p11 (fun e => by
        have e2 : g11 = g12 := e
        exact (e2 ▸ p11).typed.ne p12.typed rv_types.1 rfl)
      have n12 : Own (wc.setCell ⟨g12, 4, none⟩ (.int .i64 (l5 + (k : Int)))) g12 38 #[.int .i64 k1, .int .i64 k2, .int .i64 k3, .slice none 0 0, .int .i64 (l5 + (k : Int))] := by simpa using p12.set_ 4 (.int .i64 (l5 + (k : Int)))
      have b7 : Below w.heap.size w (wc.setCell ⟨g12, 4, none⟩ (.int .i64 (l5 + (k : Int)))) := b6.trans (R9.to_below b6.size (fun i hi e => by
        have e2 : i = g12 := e
        have := HB5.out.size
        omega))
      have hF7 := HFm.out _ b7
      clear q9 q10 p11 p12 b6 R9 hFx
      go_wp2_with fail
      refine (HAl.out _ hF7).mono ?_
      rintro e w6 ⟨rfl, hb6⟩
      replace n9 := n9.step hb6
      replace n10 := n10.step hb6
      replace n11 := n11.step hb6
      replace n12 := n12.step hb6
      replace b7 := bl_trans b7 hb6
      rw [HKE.out] at n10
      clear v0 v4 f4 hb6 hF7
      obtain ⟨s0, s1, s2, s3, s4⟩ := vd_cellsO n10
      obtain ⟨t0, t1, t2, t3, t4⟩ := vd_cellsO n12
      clear n10 n12
      go_wp2_with fail
      refine (vsame_same k1 k2 k3 (l5 + (k : Int)) none none 0 0 0 0 [] _ (Bytes.nil _ _ _) (Bytes.nil _ _ _)).mono ?_
      rintro e w7 ⟨rfl, hb7⟩
      replace n9 := n9.step hb7
      replace n11 := n11.step hb7
      replace b7 := bl_trans b7 hb7
      clear s0 s1 s2 s3 s4 t0 t1 t2 t3 t4 hb7
      obtain ⟨s0, s1, s2, s3, s4, s5, s6, s7, s8⟩ := at_cells n9
      obtain ⟨t0, t1, t2, t3, t4, t5, t6, t7, t8⟩ := at_cells n11
      clear n9 n11
      go_wp2_with fail
      refine (rsame12_eq 0 0 false false 0 0 0 0 none 0 0 none 0 0 none 0 0 none 0 0 none 0 0 none 0 0 none 0 none 0 [] [] _ (Bytes.nil _ _ _) (Bytes.nil _ _ _) (routes_nil _ _) (routes_nil _ _) (by omega) (by simp [bareM]) (by simp [bareM])).mono ?_
      rintro e w8 ⟨rfl, hb8⟩
      have B6 := Lib.hid (bl_trans b7 hb8)
      clear hb8 b7 s0 s1 s2 s3 s4 s5 s6 s7 s8 t0 t1 t2 t3 t4 t5 t6 t7 t8
      go_wp2
      go_ret
      exact ⟨rfl, B6.out⟩
    · clear HJ hbd
      have v0 := p12.cell (i := 0) (v := .int .i64 0) rfl
      go_wp2_with fail
      refine (HAl.out _ hFx).mono ?_
      rintro e w6 ⟨rfl, hb6⟩
      replace q9 := q9.step hb6
      replace q10 := q10.step hb6
      replace p11 := p11.step hb6
      replace p12 := p12.step hb6
      replace b6 := bl_trans b6 hb6
      replace hb1 := (hb1.below hb6).more hb6.size
      replace hb2 := (hb2.below hb6).more hb6.size
      replace hr1 := (hr1.below hb6).more hb6.size
      replace hr2 := (hr2.below hb6).more hb6.size
      clear v0 hb6 hFx
      obtain ⟨s0, s1, s2, s3, s4⟩ := vd_cellsO q10
      obtain ⟨t0, t1, t2, t3, t4⟩ := vd_cellsO p12
      clear q10 p12
      go_wp2_with fail
      refine (vsame_same 0 0 0 0 none none 0 0 0 0 [] _ (Bytes.nil _ _ _) (Bytes.nil _ _ _)).mono ?_
      rintro e w7 ⟨rfl, hb7⟩
      replace q9 := q9.step hb7
      replace p11 := p11.step hb7
      replace b6 := bl_trans b6 hb7
      replace hb1 := (hb1.below hb7).more hb7.size
      replace hb2 := (hb2.below hb7).more hb7.size
      replace hr1 := (hr1.below hb7).more hb7.size
      replace hr2 := (hr2.below hb7).more hb7.size
      clear s0 s1 s2 s3 s4 t0 t1 t2 t3 t4 hb7
      obtain ⟨s0, s1, s2, s3, s4, s5, s6, s7, s8⟩ := at_cells q9
      obtain ⟨t0, t1, t2, t3, t4, t5, t6, t7, t8⟩ := at_cells p11
      clear q9 p11
      go_wp2_with fail
      refine (rsame12_eq _ _ false false 0 0 0 0 none 0 0 none 0 0 _ _ _ _ _ _ none 0 0 none 0 0 _ _ _ _ xs rs _ hb1 hb2 hr1 hr2 (by have := hr1.1; rw [List.length_drop] at hrl; omega) (by simp [bareM]) (by simp [bareM])).mono ?_
      rintro e w8 ⟨rfl, hb8⟩
      have B6 := Lib.hid (bl_trans b6 hb8)
      clear hb8 b6 s0 s1 s2 s3 s4 s5 s6 s7 s8 t0 t1 t2 t3 t4 t5 t6 t7 t8
      go_wp2
      go_ret
      exact ⟨rfl, B6.out⟩
set_option maxRecDepth 100000 in
theorem mpoff_all (a0 a1 a2 a3 a4 a5 : Bool) (A : Option Addr) (c : Nat) (q : Int) (bs : List Int) (w : World) (hF : Fams w) (hB : Bytes w w.heap.size A bs.length bs) (hc : bs.length ≤ c) (hq0 : 0 ≤ q) (hq1 : q ≤ 255) :
    Calls Tryd.prog 4 #[.agg #[.bool a0, .bool a1, .bool a2, .bool a3, .bool a4, .bool a5], .slice A bs.length c, .int .u8 q] w fun e w' => e = .returned (.bool true) ∧ Below w.heap.size w w' := by
  by_cases h5 : 500 < bs.length
  · have b1 := bl_alloc (bl_refl w) (.cells #[.bool a0, .bool a1, .bool a2, .bool a3, .bool a4, .bool a5] 23)
    have HAl := Lib.hid (fun W hW => alive12_any W hW)
    have HFm := Lib.hid (fun W (hb : Below w.heap.size w W) => (hF.rest (Rest.of_below hb (fun _ => False)) (fun h => h) : Fams W))
    have hlt : (500 : Int) < (bs.length : Int) := by omega
    go_enter Tryd.func4, Tryd.ntmps4
    go_wp2_with fail
    refine (HAl.out _ (HFm.out _ b1)).mono ?_
    rintro e w2 ⟨rfl, hb2⟩
    have B3 := Lib.hid (bl_trans b1 hb2)
    go_wp2
    go_ret
    exact ⟨rfl, B3.out⟩
  · obtain ⟨k, hk⟩ : ∃ k : Nat, k = q.toNat % (bs.length + 1) := ⟨_, rfl⟩
    have hkl : k ≤ bs.length := by have := Nat.mod_lt q.toNat (show 0 < bs.length + 1 by omega); omega
    have hrem : q % ((bs.length : Int) + 1) = (k : Int) := by
      rw [hk, Int.natCast_emod, Int.toNat_of_nonneg hq0]
      simp
    by_cases hck : c = k
    · subst hck
      exact mpoff_E a0 a1 a2 a3 a4 a5 A q c bs w hF hB hc hq0 hq1 h5 hkl hrem
    · exact mpoff_N a0 a1 a2 a3 a4 a5 A c q k bs w hF hB hc hq0 hq1 h5 hkl hrem hck
end Go.Proofs.YtmlmgjdjbpipcaaDoor

/- XMtM4: XTab, XTiedT, XTied, XTiedTF, XTiedMt in one text -/
import Derived.Test.YtecbbjdcnlocdaaDoorWords
import Derived.ProofKit
import Derived.OpenShut
import Derived.ChangeArms
import Derived.MakeChecks
import Derived.Deep.Slices
import Derived.Test.YtecbbjdcnlocdaaDoorTen
import Derived.Test.YtecbbjdcnlocdaaDoorRows
import Derived.Deep.RegionHeld
import Derived.Lib.LaidTab
import Derived.Test.YtecbbjdcnlocdaaDoorMtM2
import Derived.Test.YtecbbjdcnlocdaaDoorMtM1
import Derived.Test.YtecbbjdcnlocdaaDoorMtM3
/- What the cells of a package-level variable hold whose datum is known -/
namespace Go.Proofs.YtecbbjdcnlocdaaDoor
open Go.ChangeShapes Go.WideShapes Go.RowKit

/-- The leaf of a value of type t at cell i: its type and its datum. -/
def leafD {H : Type} (P : Program) : Nat → TypeId → Nat → DataW H → Option (TypeId × DataW H)
  | 0, _, _, _ => none
  | n + 1, t, i, d => match P.underlying t, d with
    | some (.struct fs), .agg ds => ((fs.toList.zip ds).find? fun f => decide (f.1.offset ≤ i ∧ i < f.1.offset + P.cellsOf f.1.type)).bind fun f => leafD P n f.1.type (i - f.1.offset) f.2
    | some (.array k e), .agg ds => if i / P.cellsOf e < k ∧ i % P.cellsOf e < P.cellsOf e then (ds[i / P.cellsOf e]?).bind (leafD P n e (i % P.cellsOf e)) else none
    | some (.int _), d => if i = 0 then some (t, d) else none
    | some .string, d => if i = 0 then some (t, d) else none
    | _, _ => none
def leafV {H : Type} (P : Program) (n : Nat) (t : TypeId) (i : Nat) (d : DataW H) : Option Value :=
  match leafD P n t i d with
  | some (l, .lit (.int k z)) => match P.underlying l with
    | some (.int k') => if k = k' then some (.int k z) else none
    | _ => none
  | some (l, .lit (.string s)) => match P.underlying l with
    | some .string => some (.string ⟨s.toArray⟩)
    | _ => none
  | _ => none

theorem part_of {cs : List Value} {o s i : Nat} (h1 : o ≤ i) (h2 : i < o + s) : ((((cs.drop o).take s).drop (i - o)).take 1) = (cs.drop i).take 1 := by
  rw [List.drop_take, List.drop_drop, List.take_take, show min 1 (s - (i - o)) = 1 by omega, show o + (i - o) = i by omega]
section
variable {H : Type} {enc : TypeId × Value → H} {P : Program} {w : World} {base : Nat} {spare : Nat → Bool} {held : Bool}
theorem trod_leafD : ∀ (n : Nat) {t : TypeId} {i : Nat} {l : TypeId} {dl : DataW H} {fuel : Nat} {cs : List Value} {x : DataW H × List MemPlace}, leafD P n t i x.1 = some (l, dl) → DataW.trod enc P w base spare held fuel t cs = some x →
    ∃ fuel' y, DataW.trod enc P w base spare held fuel' l ((cs.drop i).take 1) = some y ∧ y.1 = dl := by
  intro n
  induction n with
  | zero => intro t i l dl fuel cs x h; simp [leafD] at h
  | succ n ih =>
    intro t i l dl fuel cs x h hx
    unfold leafD at h
    split at h
    · rename_i fs ds ht hd
      obtain ⟨⟨f, d'⟩, hf, hlf⟩ := Option.bind_eq_some_iff.1 h
      have hmem := List.mem_of_find?_eq_some hf
      have hp := List.find?_some hf
      simp only [decide_eq_true_eq] at hp
      obtain ⟨xs, m, _, hxe, hcl, hxl, hg⟩ := DataW.trod_struct ht hx
      obtain ⟨j, hj⟩ := List.getElem?_of_mem hmem
      rw [List.getElem?_zip_eq_some] at hj
      have hj' : fs[j]? = some f := by rw [← Array.getElem?_toList]; exact hj.1
      have hjl : j < xs.length := by rw [hxl]; exact (Array.getElem?_eq_some_iff.1 hj').1
      have h1 := hg j f hj'
      rw [List.getElem?_eq_getElem hjl] at h1
      have hdd : (xs[j]'hjl).1 = d' := by
        have h2 := hj.2
        rw [hxe] at hd
        injection hd with hd
        rw [← hd, List.getElem?_map, List.getElem?_eq_getElem hjl] at h2
        exact Option.some.inj h2
      obtain ⟨fuel', y, hy, hyd⟩ := ih (x := xs[j]'hjl) (by rw [hdd]; exact hlf) h1
      rw [part_of hp.1 hp.2] at hy
      exact ⟨fuel', y, hy, hyd⟩
    · rename_i k e ds ht hd
      split at h
      · rename_i hc
        obtain ⟨xs, m, _, hxe, hcl, hxl, hg⟩ := DataW.trod_array ht hx
        obtain ⟨d', hd', hlf⟩ := Option.bind_eq_some_iff.1 h
        have hjl : i / P.cellsOf e < xs.length := by rw [hxl]; exact hc.1
        have h1 := hg (i / P.cellsOf e) hc.1
        rw [List.getElem?_eq_getElem hjl] at h1
        have hdd : (xs[i / P.cellsOf e]'hjl).1 = d' := by
          rw [hxe] at hd
          injection hd with hd
          rw [← hd, List.getElem?_map, List.getElem?_eq_getElem hjl] at hd'
          exact Option.some.inj hd'
        obtain ⟨fuel', y, hy, hyd⟩ := ih (x := xs[i / P.cellsOf e]'hjl) (by rw [hdd]; exact hlf) h1
        have e1 : i % P.cellsOf e = i - i / P.cellsOf e * P.cellsOf e := by rw [Nat.mul_comm]; have := Nat.div_add_mod i (P.cellsOf e); omega
        have e2 : i / P.cellsOf e * P.cellsOf e ≤ i := Nat.div_mul_le_self _ _
        rw [e1, part_of e2 (by have := hc.2; omega)] at hy
        exact ⟨fuel', y, hy, hyd⟩
      · cases h
    · rename_i k ht
      split at h
      · rename_i h0
        obtain ⟨rfl, rfl⟩ := Prod.mk.inj (Option.some.inj h)
        obtain ⟨z, hz, _⟩ := DataW.trod_int ht hx
        subst h0 hz
        exact ⟨fuel, x, hx, rfl⟩
      · cases h
    · rename_i ht
      split at h
      · rename_i h0
        obtain ⟨rfl, rfl⟩ := Prod.mk.inj (Option.some.inj h)
        obtain ⟨z, hz, _⟩ := DataW.trod_string ht hx
        subst h0 hz
        exact ⟨fuel, x, hx, rfl⟩
      · cases h
    · cases h
theorem leaf_read {n : Nat} {t : TypeId} {i : Nat} {v : Value} {fuel : Nat} {cs : List Value} {x : DataW H × List MemPlace} (h : leafV P n t i x.1 = some v) (hx : DataW.trod enc P w base spare held fuel t cs = some x) : cs[i]? = some v := by
  unfold leafV at h
  split at h
  · rename_i l k z hl
    split at h
    · rename_i k' hu
      split at h
      · rename_i hk
        subst hk
        obtain rfl := Option.some.inj h
        obtain ⟨f', y, hy, hyd⟩ := trod_leafD n hl hx
        obtain ⟨q, hq, hq2, _⟩ := DataW.trod_int hu hy
        rw [hq2] at hyd
        have e : q = z := by injection hyd with hyd; injection hyd
        subst e
        have h3 := congrArg (fun l => l[0]?) hq
        simpa [List.getElem?_take, List.getElem?_drop] using h3
      · cases h
    · cases h
  · rename_i l s hl
    split at h
    · rename_i hu
      obtain rfl := Option.some.inj h
      obtain ⟨f', y, hy, hyd⟩ := trod_leafD n hl hx
      obtain ⟨q, hq, hq2, _⟩ := DataW.trod_string hu hy
      rw [hq2] at hyd
      have e : q.data.toList = s := by injection hyd with hyd; injection hyd
      have e2 : q = ⟨s.toArray⟩ := by rw [← e]
      subst e2
      have h3 := congrArg (fun l => l[0]?) hq
      simpa [List.getElem?_take, List.getElem?_drop] using h3
    · cases h
  · cases h
end
theorem laid_read {P : Program} {W : World} {d : DataW Unit} {nm : String} : ∀ {l : List (String × DataW Unit)} {ps : List MemPlace}, DataW.LaidVars P W l ps → (nm, d) ∈ l →
    ∃ g t cs fuel p, P.globalNamed nm = some g ∧ (P.globals[g]?).map (·.type) = some t ∧ W.var? P nm = some cs ∧ DataW.trod (fun _ => ()) P W 0 (fun _ => true) false fuel t cs.toList = some (d, p)
  | (n, d') :: r, ps, h, hm => by
    obtain ⟨g, t, cs, fuel, p, q, h1, h2, h3, h4, h5, _⟩ := h
    rcases List.mem_cons.1 hm with he | hm
    · obtain ⟨rfl, rfl⟩ := Prod.mk.inj he
      exact ⟨g, t, cs, fuel, p, h1, h2, h3, h4⟩
    · exact laid_read h5 hm
/-- The cells of a laid variable. -/
theorem laid_cells {P : Program} {W : World} {l : List (String × DataW Unit)} (hm : laidMet P l W) {nm : String} {d : DataW Unit} (hd : (nm, d) ∈ l) {g : Nat} {t : TypeId} (hg : P.globalNamed nm = some g) (ht : (P.globals[g]?).map (·.type) = some t)
    (n : Nat) {vals : List Value} (hv : (List.range vals.length).map (fun i => leafV P n t i d) = vals.map some) : ∀ i v, vals[i]? = some v → W.cell? ⟨g, i, none⟩ = some v := by
  intro i v hi
  obtain ⟨ps, hl, _⟩ := hm
  obtain ⟨g', t', cs, fuel, p, h1, h2, h3, h4⟩ := laid_read hl hd
  obtain rfl := Option.some.inj (hg.symm.trans h1)
  obtain rfl := Option.some.inj (ht.symm.trans h2)
  rw [World.var?_cell h1 h3, ← Array.getElem?_toList]
  refine leaf_read (n := n) ?_ h4
  have hil : i < vals.length := (List.getElem?_eq_some_iff.1 hi).1
  have e := congrArg (fun l => l[i]?) hv
  simp only [List.getElem?_map, List.getElem?_range hil, hi, Option.map_some] at e
  exact Option.some.inj e
end Go.Proofs.YtecbbjdcnlocdaaDoor

/- What a tied row's condition gives the walks that write numbers -/
namespace Go.Proofs.YtecbbjdcnlocdaaDoor
open Go.ChangeShapes Go.WideShapes Go.RowKit

set_option maxRecDepth 100000 in
theorem tens_of {l : List (String × DataW Unit)} {W : World} (h : laidMetH Tryd.prog l W) (hp : (l.all fun x => x.2.handleName?.isNone) = true) (hm : ("internal/strconv.uint64pow10", Rows.laid_internal_strconv_uint64pow10) ∈ l) : Tens W := by
  rw [MakeChecks.laidMetH_plain _ _ _ hp] at h
  obtain ⟨ps, hl, _⟩ := h
  obtain ⟨g, t, cs, fuel, p, h1, h2, h3, h4⟩ := laid_read hl hm
  obtain rfl := Option.some.inj (tens_named.symm.trans h1)
  have ht : (Tryd.prog.globals[2]?).map (·.type) = some 162 := by kernel_rfl
  obtain rfl := Option.some.inj (ht.symm.trans h2)
  have hd : (Rows.laid_internal_strconv_uint64pow10 : DataW Unit) = Lib.tabData .u64 Lib.pow10Tab := rfl
  rw [hd] at h4
  have hc := Lib.cells_of_tab Tryd.underlying162 Tryd.underlying69 (by kernel_rfl) (by kernel_rfl) h4
  show W.var? _ _ = _
  rw [h3, ← hc]
end Go.Proofs.YtecbbjdcnlocdaaDoor

/- What a tied row's condition gives the walks -/
namespace Go.Proofs.YtecbbjdcnlocdaaDoor
open Go.ChangeShapes Go.WideShapes Go.RowKit

set_option maxRecDepth 100000 in
theorem fams_of {l : List (String × DataW Unit)} {W : World} (h : laidMetH Tryd.prog l W) (hp : (l.all fun x => x.2.handleName?.isNone) = true) (hm : ("peerage/mp.families", Rows.laid_peerage_mp_families) ∈ l) : Fams W := by
  rw [MakeChecks.laidMetH_plain _ _ _ hp] at h
  have hc := laid_cells h hm (g := 1) (t := 115) (by kernel_rfl) (by kernel_rfl) 5 (vals := [.string ⟨#[]⟩, .int .u32 0, .string ⟨#[105, 112, 118, 52]⟩, .int .u32 1, .string ⟨#[105, 112, 118, 54]⟩, .int .u32 2]) (by kernel_rfl)
  have h3 := hc 3 _ rfl
  exact ⟨h3, hc 5 _ rfl, World.block_lt_of_cell? W _ h3⟩
end Go.Proofs.YtecbbjdcnlocdaaDoor

/- What a tied row's condition gives the walks that write numbers and look into the table of families -/
namespace Go.Proofs.YtecbbjdcnlocdaaDoor
open Go.RowKit

set_option maxRecDepth 100000 in
theorem tf_of {l : List (String × DataW Unit)} {W : World} (h : laidMetH Tryd.prog l W) (hp : (l.all fun x => x.2.handleName?.isNone) = true) (hm : ("internal/strconv.uint64pow10", Rows.laid_internal_strconv_uint64pow10) ∈ l) (hn : ("peerage/mp.families", Rows.laid_peerage_mp_families) ∈ l) : Tens W ∧ Fams W :=
  ⟨tens_of h hp hm, fams_of h hp hn⟩
end Go.Proofs.YtecbbjdcnlocdaaDoor

/- What a tied row's condition gives the walks of mp's texts -/
namespace Go.Proofs.YtecbbjdcnlocdaaDoor
open Go.ChangeShapes Go.WideShapes Go.RowKit
set_option maxRecDepth 100000 in
theorem mt_of {l : List (String × DataW Unit)} {W : World} (h : laidMetH Tryd.prog l W) (hp : (l.all fun x => x.2.handleName?.isNone) = true) (h1 : ("internal/strconv.uint64pow10", Rows.laid_internal_strconv_uint64pow10) ∈ l) (hm : ("math/bits.deBruijn64tab", Rows.laid_math_bits_deBruijn64tab) ∈ l)
    (h2 : ("peerage/mp.families", Rows.laid_peerage_mp_families) ∈ l) : Tens W ∧ Brn W ∧ FamNm W ∧ Fams W := by
  have a := tens_of h hp h1
  have d := fams_of h hp h2
  rw [MakeChecks.laidMetH_plain _ _ _ hp] at h
  have hc := laid_cells h hm (g := 7) (t := 184) (by kernel_rfl) (by kernel_rfl) 5 (vals := [.int .u8 0, .int .u8 1, .int .u8 56, .int .u8 2, .int .u8 57, .int .u8 49, .int .u8 28, .int .u8 3, .int .u8 61, .int .u8 58, .int .u8 42, .int .u8 50, .int .u8 38, .int .u8 29, .int .u8 17, .int .u8 4]) (by kernel_rfl)
  have h15 := hc 15 _ rfl
  have hf := laid_cells h h2 (g := 1) (t := 115) (by kernel_rfl) (by kernel_rfl) 5 (vals := [.string ⟨#[]⟩, .int .u32 0, .string ⟨#[105, 112, 118, 52]⟩, .int .u32 1, .string ⟨#[105, 112, 118, 54]⟩, .int .u32 2]) (by kernel_rfl)
  have hf2 := hf 2 _ rfl
  exact ⟨a, ⟨h15, World.block_lt_of_cell? W _ h15⟩, ⟨hf2, hf 4 _ rfl, World.block_lt_of_cell? W _ hf2⟩, d⟩
end Go.Proofs.YtecbbjdcnlocdaaDoor

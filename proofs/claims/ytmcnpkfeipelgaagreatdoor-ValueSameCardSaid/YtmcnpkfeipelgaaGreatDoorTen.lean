/- strconv.Itoa and strings.Join as the walks use them; the table that Itoa reads; regions whose calls only make memory -/
import Derived.Test.YtmcnpkfeipelgaaGreatDoorPut
import Derived.Test.YtmcnpkfeipelgaaGreatDoorShelf
import Derived.Lib.SmallJoins
import Derived.Lib.QuietBelow
import Derived.Lib.AppendIntMem
import Derived.BigQuiet
import Derived.Test.YtmcnpkfeipelgaaGreatDoorPfxE
namespace Go.Proofs.YtmcnpkfeipelgaaGreatDoor
open Go.RowKit Go.Sort

/-- The table of powers of ten holds what the program lays in it. -/
def Tens (w : World) : Prop := /- 1 -/ Lib.TabIs Tryz.prog w "internal/strconv.uint64pow10" .u64 Lib.pow10Tab
set_option maxRecDepth 100000 in
theorem tens_named : Tryz.prog.globalNamed "internal/strconv.uint64pow10" = some 1 := by kernel_rfl
theorem Tens.below {w w' : World} (h : Tens w) (hb : Below w.heap.size w w') : Tens w' := Joins.tab_stays tens_named h hb (Nat.le_refl _)
theorem Tens.alloc {w : World} (h : Tens w) (o : Obj) : Tens (w.alloc o) := h.below (bl_alloc (bl_refl w) o)
theorem Tens.drewN {w : World} (h : Tens w) (n : Nat) : Tens (w.drewN n) := h.below (bl_drewN (bl_refl w) n)
theorem Tens.drew {w : World} (h : Tens w) : Tens w.drew := h.drewN 1

/-- The decimal form of a number. -/
def decB (n : Int) : ByteArray := ⟨(Lib.decDigits n.toNat).toArray⟩
set_option maxRecDepth 100000 in
theorem itoa_any (n : Int) (h0 : 0 ≤ n) (h1 : n ≤ 9223372036854775807) (w : World) (ht : Tens w) :
    Calls Tryz.prog 161 #[.int .i64 n] w fun e w' => e = .returned (.string (decB n)) ∧ Below w.heap.size w w' := by
  refine (Tryz.strconv_Itoa n (by omega) h1 w ht).mono ?_
  rintro e w' ⟨rfl, k, os, rfl⟩
  refine ⟨?_, Lib.below_grow _ _ (Nat.le_refl _) _ _⟩
  unfold decB Lib.itoa
  rw [if_neg (by omega)]

theorem nd_le : ∀ (k u : Nat), u < 10 ^ (k + 1) → Lib.nDigits u ≤ k + 1
  | 0, u, h => by rw [Lib.nDigits_small (by simpa using h)]; exact Nat.le_refl _
  | k + 1, u, h => by
    by_cases h1 : u < 10
    · rw [Lib.nDigits_small h1]; omega
    · rw [Lib.nDigits_big h1]
      have := nd_le k (u / 10) (by rw [Nat.pow_succ] at h; omega)
      omega
theorem dec_len {n : Int} (h : n ≤ 9223372036854775807) : (Lib.decDigits n.toNat).length ≤ 19 := by
  rw [Lib.decDigits_length]
  exact nd_le 18 _ (by have : n.toNat ≤ 9223372036854775807 := by omega
                       omega)
/-- Strings joined. -/
def joinB (xs : List ByteArray) (sep : List UInt8) : ByteArray := ⟨(Lib.join (xs.map (·.data.toList)) sep).toArray⟩
theorem lens_le (k : Nat) : ∀ (xs : List (List UInt8)), (∀ x ∈ xs, x.length ≤ k) → Lib.lens xs ≤ k * xs.length
  | [], _ => by simp [Lib.lens]
  | x :: r, h => by
    have h1 := lens_le k r (fun y hy => h y (List.mem_cons_of_mem _ hy))
    have h2 := h x List.mem_cons_self
    simp only [Lib.lens, List.map_cons, List.sum_cons, List.length_cons, Nat.mul_add, Nat.mul_one] at h1 ⊢
    omega
theorem join_len (k s : Nat) (xs : List (List UInt8)) (sep : List UInt8) (h : ∀ x ∈ xs, x.length ≤ k) (hs : sep.length ≤ s) : (Lib.join xs sep).length ≤ (k + s) * xs.length := by
  cases xs with
  | nil => simp [Lib.join_nil]
  | cons x r =>
    rw [Lib.join_length]
    have h1 := lens_le k (x :: r) h
    have h2 := Nat.mul_le_mul hs (Nat.le_refl r.length)
    rw [List.length_cons, Nat.add_mul] at *
    have : s * (r.length + 1) = s * r.length + s := Nat.mul_succ _ _
    omega
theorem decB_size {n : Int} (h : n ≤ 9223372036854775807) : (decB n).size ≤ 19 := by
  show (decB n).data.size ≤ 19
  have := dec_len h
  simpa [decB] using this
theorem joinB_size {k s : Nat} {xs : List ByteArray} {sep : List UInt8} (h : ∀ x ∈ xs, x.size ≤ k) (hs : sep.length ≤ s) : (joinB xs sep).size ≤ (k + s) * xs.length := by
  show (joinB xs sep).data.size ≤ _
  have h1 := join_len k s (xs.map (·.data.toList)) sep (by intro x hx; obtain ⟨y, hy, rfl⟩ := List.mem_map.1 hx; simpa using h y hy) hs
  rw [List.length_map] at h1
  simpa [joinB] using h1
set_option maxRecDepth 100000 in
/-- Join of a row that the call has made. -/
theorem join_row {w : World} {base : Nat} {v : Value} {xs : List ByteArray} (k : Nat) (sep : ByteArray) (hown : w.ownsRow base 9 1 v xs.length (xs.map Value.string)) (hn : xs.length ≤ 1000000) (hk : ∀ x ∈ xs, x.data.toList.length ≤ k) (hk1 : k ≤ 1000000) (hs : sep.data.toList.length ≤ 100) :
    Calls Tryz.prog 162 #[v, .string sep] w fun e w' => e = .returned (.string (joinB xs sep.data.toList)) ∧ Below w.heap.size w w' := by
  rcases hown.2 with ⟨rfl, h0⟩ | ⟨g, cap, cur, rfl, hg, hgs, hc1, hc2, hcs, htake⟩
  · have e : xs.length = 0 := h0
    obtain rfl := List.length_eq_zero_iff.1 e
    refine (Tryz.strings_Join_none none 0 sep w).mono ?_
    rintro e w' ⟨rfl, rfl⟩
    exact ⟨rfl, bl_refl _⟩
  · have hj := join_len k 100 (xs.map (·.data.toList)) sep.data.toList (by intro x hx; obtain ⟨y, hy, rfl⟩ := List.mem_map.1 hx; exact hk y hy) hs
    rw [List.length_map] at hj
    have hm := Nat.mul_le_mul (show k + 100 ≤ 1000100 by omega) hn
    have hgl := (hown.lt g rfl).2
    refine (Tryz.strings_Join g 0 cap xs sep w (fun j x hx => ?_) hgl (by omega) (by omega) (by omega)).mono ?_
    · rw [Nat.zero_add]
      have := hown.cells (g := g) rfl j (.string x) (by rw [List.getElem?_map, hx]; rfl)
      simpa [Addr.add_lit] using this
    · rintro e w' ⟨rfl, hb⟩
      exact ⟨rfl, hb⟩

section
variable {P : Program} {ops : Array Oper} {C : World → Prop} {Q : Act → Prop} {a : Act} {o : Oper} {rest : List Oper}
/-- A whole struct or array read in a region that draws its order. -/
theorem wpQuiet_load_row (hw : Region.wanted o (yielded ops a.tmps) = true) (ty : TypeId) (x : Operand) (ho : o.op = .load ty x) (g : Nat) (hx : a.eval x = .pointer (some ⟨g, 0, none⟩)) (T : TypeId) (cs : Array Value) (d : TypeDesc)
    (hg : ∀ w, C w → Own w g T cs) (hu : P.underlying ty = some d) (hd : (match d with | .struct _ | .array _ _ => true | _ => false) = true) (hi : (P.info? ty).map (·.size) = some cs.size)
    (h : wpQuiet P ops C Q rest (a.put o.dst (.agg cs))) : wpQuiet P ops C Q (o :: rest) a := by
  refine BigFrame.wpQuiet_want hw fun K hK => ⟨.agg cs, fun w hcw => ?_, hK _ h⟩
  unfold Oper.quietAt execOp
  simp only [ho, hx, Instr.loadAt, Instr.sureAddr, Sem.run_bind, Sem.run_pure, Result.andThen_ok, run_loadVar_row w g T ty cs (0, 0) d (hg w hcw) hu hd hi]
  exact ⟨rfl, rfl⟩
/-- .. and in one that does not, behind a guard. -/
theorem wpList_load_row_on {w : World} {Q : Exit → Act → World → Prop} (hw : Region.wanted o (yielded ops a.tmps) = true) (ty : TypeId) (x : Operand) (ho : o.op = .load ty x) (g : Nat) (hx : a.eval x = .pointer (some ⟨g, 0, none⟩)) (T : TypeId) (cs : Array Value) (d : TypeDesc)
    (hg : Own w g T cs) (hu : P.underlying ty = some d) (hd : (match d with | .struct _ | .array _ _ => true | _ => false) = true) (hi : (P.info? ty).map (·.size) = some cs.size)
    (h : wpList P ops Q rest (a.put o.dst (.agg cs)) w) : wpList P ops Q (o :: rest) a w :=
  wpList_step fun K hK => by
    simp only [hw, if_true]
    exact wp_load_row ty x ho g hx T cs (0, 0) d hg hu hd hi (hK _ _ h)
end
theorem Own.rg {w : World} {g : Nat} {t : TypeId} {cs : Array Value} (h : Own w g t cs) : ∀ w', (∃ p : Regrown, w' = grow (redrawn w p.d) p.os) → Own w' g t cs := by
  rintro w' ⟨p, rfl⟩
  exact h.step (below_regrown _ _ _)
set_option maxRecDepth 100000 in
/-- A call that makes memory alone, met in a region that draws its order. -/
theorem rg_of {w : World} {v : Value} {f : FuncId} {args : Array Value} (h : ∀ W, Below w.heap.size w W → Calls Tryz.prog f args W fun e w' => e = .returned v ∧ Below W.heap.size W w') (d : Nat) (os : Array Obj) :
    Calls Tryz.prog f args (grow (redrawn w d) os) fun e w'' => e = .returned v ∧ ∃ p : Regrown, w'' = grow (redrawn w p.d) p.os := Calls.regrown_of (h _ (below_regrown w d os))
end Go.Proofs.YtmcnpkfeipelgaaGreatDoor

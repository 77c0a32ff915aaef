/- XOrN: XTen, XFmt, XDec, XAdr in one text -/
import Derived.Test.YtniheakafkakhaaDoorPut
import Derived.Test.YtniheakafkakhaaDoorShelf
import Derived.Lib.SmallJoins
import Derived.Lib.QuietBelow
import Derived.Lib.AppendIntMem
import Derived.BigQuiet
import Derived.Test.YtniheakafkakhaaDoorPfxE
import Derived.IntWalk
/- strconv.Itoa and strings.Join as the walks use them; the table that Itoa reads; regions whose calls only make memory -/
namespace Go.Proofs.YtniheakafkakhaaDoor
open Go.RowKit Go.Sort

/-- The table of powers of ten holds what the program lays in it. -/
def Tens (w : World) : Prop := /- 1 -/ Lib.TabIs Tryd.prog w "internal/strconv.uint64pow10" .u64 Lib.pow10Tab
set_option maxRecDepth 100000 in
theorem tens_named : Tryd.prog.globalNamed "internal/strconv.uint64pow10" = some 1 := by kernel_rfl
theorem Tens.below {w w' : World} (h : Tens w) (hb : Below w.heap.size w w') : Tens w' := Joins.tab_stays tens_named h hb (Nat.le_refl _)
theorem Tens.alloc {w : World} (h : Tens w) (o : Obj) : Tens (w.alloc o) := h.below (bl_alloc (bl_refl w) o)
theorem Tens.drewN {w : World} (h : Tens w) (n : Nat) : Tens (w.drewN n) := h.below (bl_drewN (bl_refl w) n)
theorem Tens.drew {w : World} (h : Tens w) : Tens w.drew := h.drewN 1

/-- The decimal form of a number. -/
def decB (n : Int) : ByteArray := ⟨(Lib.decDigits n.toNat).toArray⟩
set_option maxRecDepth 100000 in
theorem itoa_any (n : Int) (h0 : 0 ≤ n) (h1 : n ≤ 9223372036854775807) (w : World) (ht : Tens w) :
    Calls Tryd.prog 76 #[.int .i64 n] w fun e w' => e = .returned (.string (decB n)) ∧ Below w.heap.size w w' := by
  refine (Tryd.strconv_Itoa n (by omega) h1 w ht).mono ?_
  rintro e w' ⟨rfl, k, os, rfl⟩
  refine ⟨?_, Lib.below_grow _ _ (Nat.le_refl _) _ _⟩
  unfold decB Lib.itoa
  rw [if_neg (by omega)]

theorem nd_le : ∀ (k u : Nat), u < 10 ^ (k + 1) → Lib.nDigits u ≤ k + 1
  | 0, u, h => by rw [Lib.nDigits_small (by simpa using h)]; exact Nat.le_refl _
  | k + 1, u, h => by
    by_cases h1 : u < 10
    · rw [Lib.nDigits_small h1]; omega
    · rw [Lib.nDigits_big h1]
      have := nd_le k (u / 10) (by rw [Nat.pow_succ] at h; omega)
      omega
theorem dec_len {n : Int} (h : n ≤ 9223372036854775807) : (Lib.decDigits n.toNat).length ≤ 19 := by
  rw [Lib.decDigits_length]
  exact nd_le 18 _ (by have : n.toNat ≤ 9223372036854775807 := by omega
                       omega)
/-- Strings joined. -/
def joinB (xs : List ByteArray) (sep : List UInt8) : ByteArray := ⟨(Lib.join (xs.map (·.data.toList)) sep).toArray⟩
theorem lens_le (k : Nat) : ∀ (xs : List (List UInt8)), (∀ x ∈ xs, x.length ≤ k) → Lib.lens xs ≤ k * xs.length
  | [], _ => by simp [Lib.lens]
  | x :: r, h => by
    have h1 := lens_le k r (fun y hy => h y (List.mem_cons_of_mem _ hy))
    have h2 := h x List.mem_cons_self
    simp only [Lib.lens, List.map_cons, List.sum_cons, List.length_cons, Nat.mul_add, Nat.mul_one] at h1 ⊢
    omega
theorem join_len (k s : Nat) (xs : List (List UInt8)) (sep : List UInt8) (h : ∀ x ∈ xs, x.length ≤ k) (hs : sep.length ≤ s) : (Lib.join xs sep).length ≤ (k + s) * xs.length := by
  cases xs with
  | nil => simp [Lib.join_nil]
  | cons x r =>
    rw [Lib.join_length]
    have h1 := lens_le k (x :: r) h
    have h2 := Nat.mul_le_mul hs (Nat.le_refl r.length)
    rw [List.length_cons, Nat.add_mul] at *
    have : s * (r.length + 1) = s * r.length + s := Nat.mul_succ _ _
    omega
theorem decB_size {n : Int} (h : n ≤ 9223372036854775807) : (decB n).size ≤ 19 := by
  show (decB n).data.size ≤ 19
  have := dec_len h
  simpa [decB] using this
theorem joinB_size {k s : Nat} {xs : List ByteArray} {sep : List UInt8} (h : ∀ x ∈ xs, x.size ≤ k) (hs : sep.length ≤ s) : (joinB xs sep).size ≤ (k + s) * xs.length := by
  show (joinB xs sep).data.size ≤ _
  have h1 := join_len k s (xs.map (·.data.toList)) sep (by intro x hx; obtain ⟨y, hy, rfl⟩ := List.mem_map.1 hx; simpa using h y hy) hs
  rw [List.length_map] at h1
  simpa [joinB] using h1
set_option maxRecDepth 100000 in
/-- Join of a row that the call has made. -/
theorem join_row {w : World} {base : Nat} {v : Value} {xs : List ByteArray} (k : Nat) (sep : ByteArray) (hown : w.ownsRow base 9 1 v xs.length (xs.map Value.string)) (hn : xs.length ≤ 1000000) (hk : ∀ x ∈ xs, x.data.toList.length ≤ k) (hk1 : k ≤ 1000000) (hs : sep.data.toList.length ≤ 100) :
    Calls Tryd.prog 78 #[v, .string sep] w fun e w' => e = .returned (.string (joinB xs sep.data.toList)) ∧ Below w.heap.size w w' := by
  rcases hown.2 with ⟨rfl, h0⟩ | ⟨g, cap, cur, rfl, hg, hgs, hc1, hc2, hcs, htake⟩
  · have e : xs.length = 0 := h0
    obtain rfl := List.length_eq_zero_iff.1 e
    refine (Tryd.strings_Join_none none 0 sep w).mono ?_
    rintro e w' ⟨rfl, rfl⟩
    exact ⟨rfl, bl_refl _⟩
  · have hj := join_len k 100 (xs.map (·.data.toList)) sep.data.toList (by intro x hx; obtain ⟨y, hy, rfl⟩ := List.mem_map.1 hx; exact hk y hy) hs
    rw [List.length_map] at hj
    have hm := Nat.mul_le_mul (show k + 100 ≤ 1000100 by omega) hn
    have hgl := (hown.lt g rfl).2
    refine (Tryd.strings_Join g 0 cap xs sep w (fun j x hx => ?_) hgl (by omega) (by omega) (by omega)).mono ?_
    · rw [Nat.zero_add]
      have := hown.cells (g := g) rfl j (.string x) (by rw [List.getElem?_map, hx]; rfl)
      simpa [Addr.add_lit] using this
    · rintro e w' ⟨rfl, hb⟩
      exact ⟨rfl, hb⟩

section
variable {P : Program} {ops : Array Oper} {C : World → Prop} {Q : Act → Prop} {a : Act} {o : Oper} {rest : List Oper}
/-- A whole struct or array read in a region that draws its order. -/
theorem wpQuiet_load_row (hw : Region.wanted o (yielded ops a.tmps) = true) (ty : TypeId) (x : Operand) (ho : o.op = .load ty x) (g : Nat) (hx : a.eval x = .pointer (some ⟨g, 0, none⟩)) (T : TypeId) (cs : Array Value) (d : TypeDesc)
    (hg : ∀ w, C w → Own w g T cs) (hu : P.underlying ty = some d) (hd : (match d with | .struct _ | .array _ _ => true | _ => false) = true) (hi : (P.info? ty).map (·.size) = some cs.size)
    (h : wpQuiet P ops C Q rest (a.put o.dst (.agg cs))) : wpQuiet P ops C Q (o :: rest) a := by
  refine BigFrame.wpQuiet_want hw fun K hK => ⟨.agg cs, fun w hcw => ?_, hK _ h⟩
  unfold Oper.quietAt execOp
  simp only [ho, hx, Instr.loadAt, Instr.sureAddr, Sem.run_bind, Sem.run_pure, Result.andThen_ok, run_loadVar_row w g T ty cs (0, 0) d (hg w hcw) hu hd hi]
  exact ⟨rfl, rfl⟩
/-- .. and in one that does not, behind a guard. -/
theorem wpList_load_row_on {w : World} {Q : Exit → Act → World → Prop} (hw : Region.wanted o (yielded ops a.tmps) = true) (ty : TypeId) (x : Operand) (ho : o.op = .load ty x) (g : Nat) (hx : a.eval x = .pointer (some ⟨g, 0, none⟩)) (T : TypeId) (cs : Array Value) (d : TypeDesc)
    (hg : Own w g T cs) (hu : P.underlying ty = some d) (hd : (match d with | .struct _ | .array _ _ => true | _ => false) = true) (hi : (P.info? ty).map (·.size) = some cs.size)
    (h : wpList P ops Q rest (a.put o.dst (.agg cs)) w) : wpList P ops Q (o :: rest) a w :=
  wpList_step fun K hK => by
    simp only [hw, if_true]
    exact wp_load_row ty x ho g hx T cs (0, 0) d hg hu hd hi (hK _ _ h)
end
theorem Own.rg {w : World} {g : Nat} {t : TypeId} {cs : Array Value} (h : Own w g t cs) : ∀ w', (∃ p : Regrown, w' = grow (redrawn w p.d) p.os) → Own w' g t cs := by
  rintro w' ⟨p, rfl⟩
  exact h.step (below_regrown _ _ _)
set_option maxRecDepth 100000 in
/-- A call that makes memory alone, met in a region that draws its order. -/
theorem rg_of {w : World} {v : Value} {f : FuncId} {args : Array Value} (h : ∀ W, Below w.heap.size w W → Calls Tryd.prog f args W fun e w' => e = .returned v ∧ Below W.heap.size W w') (d : Nat) (os : Array Obj) :
    Calls Tryd.prog f args (grow (redrawn w d) os) fun e w'' => e = .returned v ∧ ∃ p : Regrown, w'' = grow (redrawn w p.d) p.os := Calls.regrown_of (h _ (below_regrown w d os))
end Go.Proofs.YtniheakafkakhaaDoor

/- strconv.FormatUint at base 10 -/
namespace Go.Proofs.YtniheakafkakhaaDoor
open Go.RowKit Go.Sort

theorem fin_zero (w : World) (o : Obj) (dk : Array UInt8) (k : Nat) : ∃ os, (putRow (fun (b : UInt8) => Value.int .u8 (b.toNat : Int)) (w.alloc o) w.heap.size 0 dk).drewN k = grow (w.drewN k) os := by
  rw [alloc_eq_grow]
  obtain ⟨os', _, e⟩ := putRow_grow_new (fun (b : UInt8) => Value.int .u8 (b.toNat : Int)) w #[o] w.heap.size 0 dk (Nat.le_refl _)
  exact ⟨os', by rw [e]; rfl⟩
set_option maxRecDepth 100000 in
set_option maxHeartbeats 1600000 in
theorem ifmtu_any (u : Nat) (hu64 : u < 18446744073709551616) (w : World) (ht : Tens w) :
    Calls Tryd.prog 108 #[.int .u64 u, .int .i64 10] w fun e w' => e = .returned (.string (decB u)) ∧ Below w.heap.size w w' := by
  have hdec : Hid (decB u = ⟨(Lib.decDigits u).toArray⟩) := Lib.hid rfl
  by_cases hs : u < 100
  · have d : decide ((u : Int) < 100) = true := by simp; omega
    go_enter Tryd.func108, Tryd.ntmps108
    go_wp2_with (go_at_call 131; refine (Tryd.internal_strconv_small u hs _).mono ?_; rintro e w' ⟨rfl, rfl⟩)
    go_ret
    exact ⟨by rw [hdec.out]; rfl, bl_refl _⟩
  · have d : decide ((u : Int) < 100) = false := by simp; omega
    have hu1 : 1 ≤ u := by omega
    have hnd20 : Lib.nDigits u ≤ 20 := nd_le 19 u (by omega)
    have hal : Tryd.prog.arrayLen 175 = 24 := by simp [Program.arrayLen, Tryd.underlying175]
    have hsl : ∀ W, (Instr.sliceAt 175 (.pointer (some ⟨w.heap.size, 0, none⟩)) none (some (.int .i64 (Lib.nDigits u : Int))) none).run Tryd.prog W = .ok (.slice (some ⟨w.heap.size, 0, none⟩) (Lib.nDigits u) 24) W := fun W => by
      rw [run_sliceAt_array_h W 175 ⟨w.heap.size, 0, none⟩ (by simp [Program.arrayLen, Program.elem, Tryd.underlying175]) .i64 (Lib.nDigits u : Int) (by omega) (by rw [hal]; omega)]
      go_simp
    have hH0 := Lib.holds_zero0 w 175 (Lib.nDigits u) (by omega)
    have hfmt := Tryd.internal_strconv_formatBase10 w.heap.size 0 24 u (Array.replicate (Lib.nDigits u) 0) (w.alloc (.cells Lib.zeros24 175)) hH0 (by rw [Array.size_replicate]; exact Lib.lt_pow_nDigits u) hu64 (by rw [Array.size_replicate]; omega)
    rw [Array.size_replicate] at hfmt
    have HH0 := Lib.hid hH0
    have HF := Lib.hid hfmt
    clear hH0 hal hfmt
    go_enter Tryd.func108, Tryd.ntmps108
    go_wp2_with (go_at_call 132; refine (Tryd.internal_strconv_numDigits u hu1 hu64 _ (Lib.tabIs_alloc ht _)).mono ?_; rintro e w' ⟨rfl, rfl⟩)
    go_at_call 133
    refine HF.out.mono ?_
    rintro e w' ⟨rfl, k, v', dk, rfl, hF⟩
    have hcv : (convert 43 9 (.slice (some ⟨w.heap.size, 0, none⟩) (Lib.nDigits u) 24)).run Tryd.prog ((putRow (fun (b : UInt8) => Value.int .u8 (b.toNat : Int)) (w.alloc (.cells Lib.zeros24 175)) w.heap.size 0 dk).drewN k) = .ok (.string ⟨(Lib.decDigits u).toArray⟩) ((putRow (fun (b : UInt8) => Value.int .u8 (b.toNat : Int)) (w.alloc (.cells Lib.zeros24 175)) w.heap.size 0 dk).drewN k) := by
      have h := run_convert_bytes_back (P := Tryd.prog) ((putRow (fun (b : UInt8) => Value.int .u8 (b.toNat : Int)) (w.alloc (.cells Lib.zeros24 175)) w.heap.size 0 dk).drewN k) 43 9 5 ⟨w.heap.size, 0, none⟩ 24 (Lib.decDigits u) Tryd.underlying43 Tryd.underlying5 Tryd.underlying9 (fun j hj => by
        rw [Lib.row_is_numeral hF j hj, Lib.add_plain, World.cell?_drewN]
        exact cell?_putRow (fun (b : UInt8) => Value.int .u8 (b.toNat : Int)) _ w.heap.size 0 _ dk HH0.out (by rw [hF.size, Array.size_replicate]) j (by rw [hF.size]; rw [Lib.decDigits_length] at hj; exact hj))
      rw [Lib.decDigits_length] at h
      exact h
    obtain ⟨os, eo⟩ := fin_zero w (.cells Lib.zeros24 175) dk k
    have EO := Lib.hid eo
    clear eo
    go_wp2
    go_ret
    refine ⟨by rw [hdec.out]; rfl, ?_⟩
    have hb := Lib.below_grow w.heap.size w (Nat.le_refl _) k os
    rw [← EO.out] at hb
    exact hb
set_option maxRecDepth 100000 in
theorem fmtu_any (u : Nat) (hu64 : u < 18446744073709551616) (w : World) (ht : Tens w) :
    Calls Tryd.prog 75 #[.int .u64 u, .int .i64 10] w fun e w' => e = .returned (.string (decB u)) ∧ Below w.heap.size w w' := by
  go_enter Tryd.func75, Tryd.ntmps75
  go_wp2_with fail
  refine (ifmtu_any u hu64 w ht).mono ?_
  rintro e w1 ⟨rfl, hb⟩
  go_wp2
  go_ret
  exact ⟨rfl, hb⟩
end Go.Proofs.YtniheakafkakhaaDoor

/- peerageref02.digits at base 10 -/
namespace Go.Proofs.YtniheakafkakhaaDoor
open Go.RowKit Go.Sort

/-- A digit. -/
def hexD (k : Nat) : UInt8 := if k < 10 then UInt8.ofNat (48 + k) else UInt8.ofNat (87 + k)
theorem ext_digitN : ∀ k, k < 16 → ByteArray.extract ⟨#[48, 49, 50, 51, 52, 53, 54, 55, 56, 57, 97, 98, 99, 100, 101, 102]⟩ k (k + 1) = ⟨#[hexD k]⟩ := by decide +kernel
theorem ext_digit (d : Int) (h0 : 0 ≤ d) (h1 : d < 16) : ByteArray.extract ⟨#[48, 49, 50, 51, 52, 53, 54, 55, 56, 57, 97, 98, 99, 100, 101, 102]⟩ d.toNat (d + 1).toNat = ⟨#[hexD d.toNat]⟩ := by
  have e : (d + 1).toNat = d.toNat + 1 := by omega
  rw [e]
  exact ext_digitN _ (by omega)
theorem ba_append (s t : List UInt8) : (⟨s.toArray⟩ ++ ⟨t.toArray⟩ : ByteArray) = ⟨(s ++ t).toArray⟩ := by
  apply ByteArray.ext
  simp
theorem ba_cons (x : UInt8) (t : List UInt8) : (⟨#[x]⟩ ++ ⟨t.toArray⟩ : ByteArray) = ⟨(x :: t).toArray⟩ := ba_append [x] t
theorem dg_range (b n : Int) (_h0 : 0 ≤ n) (hb : 0 < b) : 0 ≤ n % b ∧ n % b < b := ⟨Int.emod_nonneg _ (by omega), Int.emod_lt_of_pos _ hb⟩
def decDigits (n : Nat) : List UInt8 := Lib.decDigits n
def decPre (k : Nat) : List UInt8 := if k < 10 then [] else Lib.decDigits (k / 10)
theorem decPre_small {k : Nat} (h : k < 10) : decPre k = [] := if_pos h
theorem decPre_step (k : Nat) : decDigits k = decPre k ++ [hexD (k % 10)] := by
  unfold decDigits decPre hexD
  rw [if_pos (Nat.mod_lt _ (by omega))]
  by_cases h : k < 10
  · rw [if_pos h, Lib.decDigits_one h, Nat.mod_eq_of_lt h]; rfl
  · rw [if_neg h]
    conv => lhs; unfold Lib.decDigits
    rw [dif_neg h]
theorem decPre_len {n : Int} {k : Nat} {t : List UInt8} (h : decDigits n.toNat = decPre k ++ t) (h1 : n ≤ 9223372036854775807) : t.length ≤ 19 := by
  have := dec_len h1
  unfold decDigits at h
  rw [h, List.length_append] at this
  omega
set_option maxRecDepth 100000 in
set_option maxHeartbeats 800000 in
theorem rdigits10_any (n : Int) (h0 : 0 ≤ n) (h1 : n ≤ 9223372036854775807) (w : World) :
    Calls Tryd.prog 113 #[.int .i64 n, .int .i64 10] w fun e w' => e = .returned (.string (decB n)) ∧ Below w.heap.size w w' := by
  have r0 := dg_range 10 n h0 (by omega)
  have r1 := r0.1
  have r2 := r0.2
  have HD := Lib.hid (ext_digit (n % 10) (by omega) (by omega))
  have w1' : IntKind.i64.wrap (n % 10 + 1) = n % 10 + 1 := IntWalk.i64_in _ (by omega)
  clear r0
  go_enter Tryd.func113, Tryd.ntmps113
  go_wp2_with fail
  refine wp_region_quiet_below (by kernel_rfl) (by kernel_rfl) ?_
  repeat (go_big_quiet_step (fail))
  rw [HD.out]
  refine wpQuiet_nil ?_
  rintro _ ⟨⟨dq, osq⟩, rfl⟩
  have hb1 := below_regrown w dq osq
  generalize grow (redrawn w dq) osq = w1 at *
  clear r1 r2 HD w1'
  go_wp2
  go_loopw [0, 5] (fun m s wr => ∃ k : Nat, ∃ t : List UInt8, (k : Int) ≤ n ∧ m = .int .i64 k ∧ s = .string ⟨t.toArray⟩ ∧ Hid (decDigits n.toNat = decPre k ++ t) ∧ Below w.heap.size w wr) (fun m _ _ => (intOf m).toNat)
  case atStart => exact ⟨n.toNat, [hexD (n % 10).toNat], by omega, by rw [Int.toNat_of_nonneg h0], rfl, Lib.hid (by rw [decPre_step, Int.toNat_emod h0 (by omega)]; rfl), hb1⟩
  case round =>
    obtain ⟨k, t, hk, rfl, rfl, HT, hbr⟩ := hrel
    have htl := decPre_len HT.out (by omega)
    clear hb1
    by_cases hlt : (k : Int) < 10
    · have ht : Hid (decDigits n.toNat = t) := Lib.hid (by rw [HT.out, decPre_small (by omega)]; rfl)
      go_wp2
      go_ret
      refine ⟨?_, hbr⟩
      unfold decB
      rw [show Lib.decDigits n.toNat = t from ht.out]
      rfl
    · have r0 := dg_range 10 ((k : Int) / 10) (by omega) (by omega)
      have r1 := r0.1
      have r2 := r0.2
      have HD := Lib.hid (ext_digitN (k / 10 % 10) (by omega))
      have w1' : IntKind.i64.wrap ((k : Int) / 10 % 10 + 1) = (k : Int) / 10 % 10 + 1 := IntWalk.i64_in _ (by omega)
      have n1 : ¬ 9223372036854775807 < 1 + t.length := by omega
      clear r0
      go_wp2_with fail
      refine wp_region_quiet_below (by kernel_rfl) (by kernel_rfl) ?_
      repeat (go_big_quiet_step (fail))
      rw [HD.out]
      refine wpQuiet_nil ?_
      rintro _ ⟨⟨dq2, osq2⟩, rfl⟩
      have hb2 := bl_trans hbr (below_regrown wr dq2 osq2)
      generalize grow (redrawn wr dq2) osq2 = w2 at *
      go_roundw
      case rel =>
        (repeat apply Exists.intro)
        refine ⟨⟨k / 10, hexD (k / 10 % 10) :: t, by omega, by go_num, ?_, Lib.hid ?_, hb2⟩, rfl⟩
        · exact congrArg Value.string (ba_cons _ _)
        · rw [HT.out]
          have e : decPre k = decPre (k / 10) ++ [hexD (k / 10 % 10)] := by rw [← decPre_step]; exact if_neg (by omega)
          rw [e]
          simp
      case measure => simp [intOf]; omega
set_option maxRecDepth 100000 in
theorem rdecimal_any (n : Int) (h0 : 0 ≤ n) (h1 : n ≤ 9223372036854775807) (w : World) :
    Calls Tryd.prog 79 #[.int .i64 n] w fun e w' => e = .returned (.string (decB n)) ∧ Below w.heap.size w w' := by
  go_enter Tryd.func79, Tryd.ntmps79
  go_wp2_with fail
  refine (rdigits10_any n h0 h1 w).mono ?_
  rintro e w1 ⟨rfl, hb1⟩
  go_wp2
  go_ret
  exact ⟨rfl, hb1⟩
end Go.Proofs.YtniheakafkakhaaDoor

/- basic.Address and its reference -/
namespace Go.Proofs.YtniheakafkakhaaDoor
open Go.RowKit Go.Sort

set_option maxRecDepth 100000 in
theorem sl_strA : SliceOf Tryd.prog 113 9 1 16 := SliceOf.mk Tryd.underlying113 (z := .string ⟨#[]⟩) (by kernel_rfl) rfl (by decide)
/-- The first words of an address. -/
def wAdr (a : List Int) (k : Nat) : List ByteArray := (a.take k).map decB
theorem wAdr_len {a : List Int} {k : Nat} (h : k ≤ a.length) : (wAdr a k).length = k := by simp [wAdr]; omega
theorem wAdr_step {a : List Int} {k : Nat} (hk : k < a.length) : wAdr a (k + 1) = wAdr a k ++ [decB (nth a k)] := by
  unfold wAdr
  rw [take_nth hk, List.map_append]
  rfl
/-- The text of an address. -/
def adrB (n : Int) : ByteArray := joinB (wAdr (digitsOf 4 n) 4) [46]
theorem adr_range (n : Int) {k : Nat} (hk : k < 4) : 0 ≤ nth (digitsOf 4 n) k ∧ nth (digitsOf 4 n) k ≤ 255 := digitsOf_range 4 n _ (nth_mem (by rw [digitsOf_len]; exact hk))
set_option maxRecDepth 100000 in
set_option maxHeartbeats 1600000 in
theorem badr_any (n : Int) (h0 : 0 ≤ n) (h1 : n < 4294967296) (w : World) (ht : Tens w) :
    Calls Tryd.prog 77 #[.int .u32 n] w fun e w' => e = .returned (.string (adrB n)) ∧ Below w.heap.size w w' := by
  have hO : Hid (adrB n = joinB (wAdr (digitsOf 4 n) 4) [46]) := Lib.hid rfl
  have hl4 := Lib.hid (digitsOf_len 4 n)
  have hrg := Lib.hid (fun (k : Nat) (hk : k < 4) => adr_range n hk)
  have hst := Lib.hid (fun (k : Nat) (hk : k < 4) => wAdr_step (a := digitsOf 4 n) (k := k) (by rw [digitsOf_len]; exact hk))
  have hwl := Lib.hid (wAdr_len (a := digitsOf 4 n) (k := 4) (by rw [digitsOf_len]; omega))
  have hws := Lib.hid (show ∀ x ∈ wAdr (digitsOf 4 n) 4, x.data.toList.length ≤ 19 by
    intro x hx
    obtain ⟨y, hy, rfl⟩ := List.mem_map.1 hx
    have := digitsOf_range 4 n y (List.mem_of_mem_take hy)
    have := decB_size (n := y) (by omega)
    rw [Array.length_toList]
    exact this)
  go_enter Tryd.func77, Tryd.ntmps77
  go_wp2_with fail
  refine (put_yes 4 n w (by omega) (by omega) h0 h1).mono ?_
  rw [show (4 : Int).toNat = 4 from rfl]
  rintro e w1 ⟨rfl, ho, hb1⟩
  generalize digitsOf 4 n = D at *
  have hown0 : w1.ownsRow (w.heap.size + 1) 9 1 (.slice none 0 0) 0 ((wAdr D 0).map Value.string) := by
    unfold wAdr
    exact World.ownsRow_nil _ _ _ _
  have hl1 := ho.lt
  go_wp2_with fail
  go_loopw [5, 15] (fun v i wr => ∃ k : Nat, k ≤ 4 ∧ i = .int .i64 k ∧ wr.ownsRow (w.heap.size + 1) 9 1 v k ((wAdr D k).map Value.string) ∧ Own wr w.heap.size 5 (D.map (Value.int .u8)).toArray ∧ Below w.heap.size w wr) (fun _ i _ => 4 - (intOf i).toNat)
  case atStart => exact ⟨0, by omega, rfl, hown0, ho, hb1⟩
  case round =>
    obtain ⟨k, hkz, rfl, hown, hor, hbr⟩ := hrel
    clear ho hb1 hown0 hl1
    by_cases hlt : k < 4
    · have hcell := hor.cell (i := k) (v := .int .u8 (nth D k)) (by simp [nth_some (show k < D.length by rw [hl4.out]; exact hlt)])
      have hr := hrg.out k hlt
      have hv : IntKind.i64.wrap (nth D k) = nth D k := by rw [IntKind.wrap_i64]; omega
      have hs := Lib.hid (hst.out k hlt)
      have htr := ht.below hbr
      have hl := hor.lt
      go_wp2_with fail
      refine (itoa_any (nth D k) hr.1 (by omega) _ htr).mono ?_
      rintro e w2 ⟨rfl, hb2⟩
      have hown1 := hown.kept (only_of_below hb2 none) (Classical.em _)
      have hor1 := hor.step hb2
      have hbr1 := bl_trans hbr hb2
      have hbs := hb2.size
      clear hown hor hbr hb2 hcell
      go_wp2_with (at_builtin; refine wpList_append_grow _ rfl _ _ rfl sl_strA (w.heap.size + 1) _ _ _ rfl (hown1.alloc _) (w2.heap.size + 1) (some ⟨w2.heap.size, 0, none⟩) 1 1 [_] rfl rfl (Shows.of_owned (Own.new _ _ _) (by omega)) (one1 rfl) (by unfold maxLen; omega) (by omega) (by simp; omega) ?_; intro v1 w3 hown2 hgrow2)
      have hb3 : Below w.heap.size w w3 := (hbr1.alloc hbr1.size _).grown hgrow2 (by simp; omega) (fun j hj => Nat.le_trans (by omega) (own_base hown1 j hj))
      have hor2 : Own w3 w.heap.size 5 (D.map (Value.int .u8)).toArray := (hor1.alloc _).grown hgrow2 (by intro e; have := own_base hown1 _ e.symm; omega)
      go_roundw
      case rel =>
        refine ⟨k + 1, by omega, by go_num, ?_, hor2, hb3⟩
        rw [hs.out, List.map_append]
        exact hown2
      case measure => simp [intOf]; omega
    · obtain rfl : k = 4 := by omega
      have HJ := Lib.hid (show wr.ownsRow (w.heap.size + 1) 9 1 _ (wAdr D 4).length ((wAdr D 4).map Value.string) by rw [hwl.out]; exact hown)
      clear hown
      go_wp2_with fail
      refine (join_row 19 ⟨#[46]⟩ HJ.out (by rw [hwl.out]; omega) hws.out (by omega) (by decide)).mono ?_
      rintro e w2 ⟨rfl, hb2⟩
      go_wp2
      go_ret
      exact ⟨by rw [hO.out]; rfl, bl_trans hbr hb2⟩
/-- The first words of an address, with dots. -/
def jAdr (D : List Int) (k : Nat) : ByteArray := joinB (wAdr D k) [46]
theorem jAdr_zero (D : List Int) : jAdr D 0 = ⟨#[]⟩ := rfl
theorem lib_join_snoc (sep : List UInt8) : ∀ (xs : List (List UInt8)) (y : List UInt8), xs ≠ [] → Lib.join (xs ++ [y]) sep = Lib.join xs sep ++ sep ++ y
  | [], _, h => absurd rfl h
  | [x], y, _ => by simp [Lib.join]
  | x :: z :: r, y, _ => by
    have := lib_join_snoc sep (z :: r) y (by simp)
    simp [Lib.join] at this ⊢
    rw [this]
theorem jAdr_one {D : List Int} (h : 0 < D.length) : jAdr D 1 = ⟨#[]⟩ ++ decB (nth D 0) := by
  unfold jAdr joinB
  rw [wAdr_step h]
  apply ByteArray.ext
  simp [wAdr, Lib.join_one]
theorem jAdr_step {D : List Int} {k : Nat} (h : k < D.length) (h1 : 1 ≤ k) : jAdr D (k + 1) = jAdr D k ++ ⟨#[46]⟩ ++ decB (nth D k) := by
  unfold jAdr joinB
  rw [wAdr_step h, List.map_append]
  have hne : (wAdr D k).map (fun x : ByteArray => x.data.toList) ≠ [] := by
    intro e
    have := congrArg List.length e
    rw [List.length_map, wAdr_len (by omega)] at this
    simp at this
    omega
  rw [show [decB (nth D k)].map (fun x : ByteArray => x.data.toList) = [(decB (nth D k)).data.toList] from rfl, lib_join_snoc _ _ _ hne]
  apply ByteArray.ext
  simp
theorem jAdr_size {D : List Int} (hr : ∀ x ∈ D, 0 ≤ x ∧ x ≤ 255) {k : Nat} (hk : k ≤ 4) : (jAdr D k).size ≤ 80 := by
  have h := joinB_size (k := 19) (s := 1) (xs := wAdr D k) (sep := [46]) (by
    intro x hx
    obtain ⟨y, hy, rfl⟩ := List.mem_map.1 hx
    have := hr y (List.mem_of_mem_take hy)
    exact decB_size (by omega)) (by simp)
  have hl : (wAdr D k).length ≤ 4 := by unfold wAdr; rw [List.length_map, List.length_take]; omega
  unfold jAdr
  have := Nat.mul_le_mul (Nat.le_refl 20) hl
  omega
set_option maxRecDepth 100000 in
set_option maxHeartbeats 1600000 in
theorem rbadr_any (n : Int) (h0 : 0 ≤ n) (h1 : n < 4294967296) (w : World) :
    Calls Tryd.prog 80 #[.int .u32 n] w fun e w' => e = .returned (.string (adrB n)) ∧ Below w.heap.size w w' := by
  have hO : Hid (adrB n = jAdr (digitsOf 4 n) 4) := Lib.hid rfl
  have hl4 := Lib.hid (digitsOf_len 4 n)
  have hrg := Lib.hid (digitsOf_range 4 n)
  go_enter Tryd.func80, Tryd.ntmps80
  go_wp2_with fail
  refine (of_any 4 n w (by omega) (by omega) h0 h1).mono ?_
  rw [show (4 : Int).toNat = 4 from rfl]
  rintro e w1 ⟨v, rfl, ho, hb1⟩
  obtain ⟨A, c, rfl, hc, hs⟩ := own_val ho
  generalize digitsOf 4 n = D at *
  have hB : Bytes w1 w1.heap.size A 4 D := ⟨hl4.out.symm, hrg.out, hs⟩
  have HB := Lib.hid hB
  clear ho hs hB
  go_wp2_with fail
  go_loopw [4, 5] (fun s i wr => ∃ k : Nat, k ≤ 4 ∧ i = .int .i64 k ∧ s = .string (jAdr D k) ∧ Below w1.heap.size w1 wr) (fun _ i _ => 4 - (intOf i).toNat)
  case atStart => exact ⟨0, by omega, rfl, by rw [jAdr_zero], bl_refl w1⟩
  case round =>
    obtain ⟨k, hkz, rfl, rfl, hbr⟩ := hrel
    by_cases hlt : k < 4
    · obtain ⟨b, o, rfl, hb, hc2, r0, r1⟩ := (HB.out.below hbr).at_ (k := k) hlt
      have hsz := jAdr_size hrg.out (k := k) (by omega)
      have hv : IntKind.i64.wrap (nth D k) = nth D k := by rw [IntKind.wrap_i64]; omega
      have hdz := decB_size (n := nth D k) (by omega)
      rcases Nat.eq_zero_or_pos k with hk | hk
      · have hS := Lib.hid (show jAdr D (k + 1) = jAdr D k ++ decB (nth D k) by subst hk; exact jAdr_one (by rw [hl4.out]; omega))
        have d : decide ((0 : Int) < (k : Int)) = false := by simp; omega
        have d2 : ¬ 0 < k := by omega
        generalize jAdr D k = J at *
        have n1 : ¬ 9223372036854775807 < J.size + (decB (nth D k)).size := by omega
        have hkk := Lib.hid hk
        clear hk
        go_wp2_with fail
        refine (rdecimal_any (nth D k) r0 (by omega) _).mono ?_
        rintro e w2 ⟨rfl, hb2⟩
        go_wp2
        go_roundw
        case rel => exact ⟨k + 1, by omega, by go_num, by rw [hS.out], bl_trans hbr hb2⟩
        case measure => simp [intOf]; omega
      · have hS := Lib.hid (jAdr_step (D := D) (k := k) (by rw [hl4.out]; omega) hk)
        have d : decide ((0 : Int) < (k : Int)) = true := by simp; omega
        generalize jAdr D k = J at *
        have n1 : ¬ 9223372036854775807 < J.size + 1 := by omega
        have n2 : ¬ 9223372036854775807 < J.size + 1 + (decB (nth D k)).size := by omega
        go_wp2_with fail
        refine (rdecimal_any (nth D k) r0 (by omega) _).mono ?_
        rintro e w2 ⟨rfl, hb2⟩
        go_wp2
        go_roundw
        case rel => exact ⟨k + 1, by omega, by go_num, by rw [hS.out], bl_trans hbr hb2⟩
        case measure => simp [intOf]; omega
    · obtain rfl : k = 4 := by omega
      go_wp2
      go_ret
      exact ⟨by rw [hO.out]; rfl, bl_trans hb1 hbr⟩
end Go.Proofs.YtniheakafkakhaaDoor

/- XPqM1: XPhA, XPhB, XPtx, XPtA, XPtB, XSpN, XPiA, XPnA, XPnB, XPpA in one text -/
import Derived.Test.YtecbbjdcnlocdaaDoorDec
import Derived.Test.YtecbbjdcnlocdaaDoorFmt
import Derived.Test.YtecbbjdcnlocdaaDoorTen
import Derived.Test.YtecbbjdcnlocdaaDoorPfxC
import Derived.Test.YtecbbjdcnlocdaaDoorAdr
import Derived.Test.YtecbbjdcnlocdaaDoorSqMa
import Derived.Test.YtecbbjdcnlocdaaDoorSgN
import Derived.Test.YtecbbjdcnlocdaaDoorSgT
import Derived.Test.YtecbbjdcnlocdaaDoorShelf
import Derived.Lib.SmallJoins
import Derived.Lib.SplitLaws
import Derived.Test.YtecbbjdcnlocdaaDoorShelg
import Derived.Lib.ConvBytes
import Derived.Test.YtecbbjdcnlocdaaDoorPut
import Derived.Test.YtecbbjdcnlocdaaDoorPfxM
import Derived.Lib.IndexLaws
/- numbers at base 16: strconv.FormatUint, peerageref02.digits -/
namespace Go.Proofs.YtecbbjdcnlocdaaDoor
open Go.RowKit Go.Sort
/-- A number's text at base 16. -/
def hexS (n : Nat) : List UInt8 := if n < 16 then [hexD n] else hexS (n / 16) ++ [hexD (n % 16)]
termination_by n
decreasing_by omega
def hexPre (k : Nat) : List UInt8 := if k < 16 then [] else hexS (k / 16)
theorem hexPre_small {k : Nat} (h : k < 16) : hexPre k = [] := if_pos h
theorem hexPre_step (k : Nat) : hexS k = hexPre k ++ [hexD (k % 16)] := by
  rw [hexS]
  unfold hexPre
  by_cases h : k < 16
  · rw [if_pos h, if_pos h, Nat.mod_eq_of_lt h]; rfl
  · rw [if_neg h, if_neg h]
theorem hexS_len : ∀ (m k : Nat), k < 16 ^ (m + 1) → (hexS k).length ≤ m + 1
  | 0, k, h => by
    rw [hexS, if_pos (by simpa using h)]; simp
  | m + 1, k, h => by
    rw [hexS]
    by_cases hk : k < 16
    · rw [if_pos hk]; simp
    · rw [if_neg hk, List.length_append]
      have := hexS_len m (k / 16) (by rw [Nat.pow_succ] at h; omega)
      simp; omega
theorem hexS_len4 {k : Nat} (h : k ≤ 65535) : (hexS k).length ≤ 4 := hexS_len 3 k (by omega)
def hexB (n : Int) : ByteArray := ⟨(hexS n.toNat).toArray⟩
theorem hexB_size {n : Int} (h : n ≤ 65535) : (hexB n).size ≤ 4 := by
  have := hexS_len4 (k := n.toNat) (by omega)
  unfold hexB
  show (hexS n.toNat).toArray.size ≤ 4
  simpa using this
theorem hexPre_len {n : Int} {k : Nat} {t : List UInt8} (h : hexS n.toNat = hexPre k ++ t) (h1 : n ≤ 65535) : t.length ≤ 4 := by
  have := hexS_len4 (k := n.toNat) (by omega)
  rw [h, List.length_append] at this
  omega
set_option maxRecDepth 100000 in
set_option maxHeartbeats 800000 in
theorem rdigits16_any (n : Int) (h0 : 0 ≤ n) (h1 : n ≤ 65535) (w : World) :
    Calls Tryd.prog 61 #[.int .i64 n, .int .i64 16] w fun e w' => e = .returned (.string (hexB n)) ∧ Below w.heap.size w w' := by
  have r0 := dg_range 16 n h0 (by omega)
  have r1 := r0.1
  have r2 := r0.2
  have HD := Lib.hid (ext_digit (n % 16) (by omega) (by omega))
  have w1' : IntKind.i64.wrap (n % 16 + 1) = n % 16 + 1 := IntWalk.i64_in _ (by omega)
  clear r0
  go_enter Tryd.func61, Tryd.ntmps61
  go_wp2_with fail
  refine wp_region_quiet_below (by kernel_rfl) (by kernel_rfl) ?_
  repeat (go_big_quiet_step (fail))
  rw [HD.out]
  refine wpQuiet_nil ?_
  rintro _ ⟨⟨dq, osq⟩, rfl⟩
  have hb1 := below_regrown w dq osq
  generalize grow (redrawn w dq) osq = w1 at *
  clear r1 r2 HD w1'
  go_wp2
  go_loopw [0, 5] (fun m s wr => ∃ k : Nat, ∃ t : List UInt8, (k : Int) ≤ n ∧ m = .int .i64 k ∧ s = .string ⟨t.toArray⟩ ∧ Hid (hexS n.toNat = hexPre k ++ t) ∧ Below w.heap.size w wr) (fun m _ _ => (intOf m).toNat)
  case atStart => exact ⟨n.toNat, [hexD (n % 16).toNat], by omega, by rw [Int.toNat_of_nonneg h0], rfl, Lib.hid (by rw [hexPre_step, Int.toNat_emod h0 (by omega)]; rfl), hb1⟩
  case round =>
    obtain ⟨k, t, hk, rfl, rfl, HT, hbr⟩ := hrel
    have htl := hexPre_len HT.out (by omega)
    clear hb1
    by_cases hlt : (k : Int) < 16
    · have ht : Hid (hexS n.toNat = t) := Lib.hid (by rw [HT.out, hexPre_small (by omega)]; rfl)
      go_wp2
      go_ret
      refine ⟨?_, hbr⟩
      unfold hexB
      rw [show hexS n.toNat = t from ht.out]
      rfl
    · have r0 := dg_range 16 ((k : Int) / 16) (by omega) (by omega)
      have r1 := r0.1
      have r2 := r0.2
      have HD := Lib.hid (ext_digitN (k / 16 % 16) (by omega))
      have w1' : IntKind.i64.wrap ((k : Int) / 16 % 16 + 1) = (k : Int) / 16 % 16 + 1 := IntWalk.i64_in _ (by omega)
      have n1 : ¬ 9223372036854775807 < 1 + t.length := by omega
      clear r0
      go_wp2_with fail
      refine wp_region_quiet_below (by kernel_rfl) (by kernel_rfl) ?_
      repeat (go_big_quiet_step (fail))
      rw [HD.out]
      refine wpQuiet_nil ?_
      rintro _ ⟨⟨dq2, osq2⟩, rfl⟩
      have hb2 := bl_trans hbr (below_regrown wr dq2 osq2)
      generalize grow (redrawn wr dq2) osq2 = w2 at *
      go_roundw
      case rel =>
        (repeat apply Exists.intro)
        refine ⟨⟨k / 16, hexD (k / 16 % 16) :: t, by omega, by go_num, ?_, Lib.hid ?_, hb2⟩, rfl⟩
        · exact congrArg Value.string (ba_cons _ _)
        · rw [HT.out]
          have e : hexPre k = hexPre (k / 16) ++ [hexD (k / 16 % 16)] := by rw [← hexPre_step]; exact if_neg (by omega)
          rw [e]
          simp
      case measure => simp [intOf]; omega
/-- What the walks ask of math/bits.deBruijn64tab. -/
def Brn (w : World) : Prop := w.cell? ⟨7, 15, none⟩ = some (.int .u8 4) ∧ 7 < w.heap.size
theorem Brn.below {w w' : World} (h : Brn w) (hb : Below w.heap.size w w') : Brn w' :=
  ⟨(hb.cell (p := ⟨7, 15, none⟩) h.2).trans h.1, Nat.lt_of_lt_of_le h.2 hb.size⟩
set_option maxRecDepth 100000 in
theorem tz64_16 (w : World) (h : Brn w) : Calls Tryd.prog 144 #[.int .u64 16] w fun e w' => e = .returned (.int .i64 4) ∧ w = w' := by
  obtain ⟨h1, h2⟩ := h
  have hx1 : IntKind.u64.wrap (-16) = 18446744073709551600 := by kernel_rfl
  have hx2 : bits BinOp.and IntKind.u64 16 18446744073709551600 = 16 := by kernel_rfl
  have hx3 : IntKind.u64.wrap 4573923408821661840 = 4573923408821661840 := by kernel_rfl
  go_enter Tryd.func144, Tryd.ntmps144
  go_wp2
  go_ret
  exact ⟨rfl, rfl⟩
set_option maxRecDepth 100000 in
theorem tz_16 (w : World) (h : Brn w) : Calls Tryd.prog 132 #[.int .u64 16] w fun e w' => e = .returned (.int .i64 4) ∧ w = w' := by
  have hc := Lib.hid (tz64_16 w h)
  clear h
  go_enter Tryd.func132, Tryd.ntmps132
  go_wp2_with fail
  refine hc.out.mono ?_
  rintro e w' ⟨rfl, rfl⟩
  go_wp2
  go_ret
  exact ⟨rfl, rfl⟩
set_option maxRecDepth 100000 in
theorem pow2_16 (w : World) : Calls Tryd.prog 131 #[.int .i64 16] w fun e w' => e = .returned (.bool true) ∧ w = w' := by
  have hx1 : bits BinOp.and IntKind.i64 16 15 = 0 := by kernel_rfl
  go_enter Tryd.func131, Tryd.ntmps131
  go_wp2
  go_ret
  exact ⟨rfl, rfl⟩
end Go.Proofs.YtecbbjdcnlocdaaDoor

/- strconv.FormatUint at base 16 -/
namespace Go.Proofs.YtecbbjdcnlocdaaDoor
open Go.RowKit Go.Sort
theorem lit36 : ∀ d, d < 16 → (#[48, 49, 50, 51, 52, 53, 54, 55, 56, 57, 97, 98, 99, 100, 101, 102, 103, 104, 105, 106, 107, 108, 109, 110, 111, 112, 113, 114, 115, 116, 117, 118, 119, 120, 121, 122] : Array UInt8)[d]? = some (hexD d) := by decide +kernel
set_option maxRecDepth 100000 in
theorem idx36 (d : Nat) (h : d < 16) (K : IntKind) (W : World) : (Instr.index 9 (.string ⟨#[48, 49, 50, 51, 52, 53, 54, 55, 56, 57, 97, 98, 99, 100, 101, 102, 103, 104, 105, 106, 107, 108, 109, 110, 111, 112, 113, 114, 115, 116, 117, 118, 119, 120, 121, 122]⟩) (.int K (d : Int))).run Tryd.prog W = .ok (.int .u8 ((hexD d).toNat : Int)) W := by
  obtain ⟨h1, h2⟩ := Array.getElem?_eq_some_iff.1 (lit36 d h)
  rw [run_index_string (P := Tryd.prog) W 9 _ K _ (by kernel_rfl), dif_pos ⟨by omega, by show (d : Int) < ((36 : Nat) : Int); omega⟩, ← h2]
  rfl
theorem and15 (n : Nat) (h : n ≤ 65535) : bits BinOp.and IntKind.u64 (n : Int) 15 = ((n % 16 : Nat) : Int) := by
  show IntKind.u64.wrap ((BitVec.ofInt 64 (n : Int) &&& BitVec.ofInt 64 15).toNat : Int) = _
  have e1 : (BitVec.ofInt 64 (n : Int)).toNat = n := by
    rw [BitVec.ofInt_natCast, BitVec.toNat_ofNat]; exact Nat.mod_eq_of_lt (by omega)
  have e2 : n &&& 15 = n % 16 := Nat.and_two_pow_sub_one_eq_mod n 4
  rw [BitVec.toNat_and, e1, show (BitVec.ofInt 64 15).toNat = 15 from rfl, e2, IntKind.wrap_u64]
  omega
theorem set_dropQ (cs : Array Value) (i : Nat) (h : i < cs.size) (v : Value) : (cs.setIfInBounds i v).toList.drop i = v :: cs.toList.drop (i + 1) := by
  rw [Array.toList_setIfInBounds, List.drop_eq_getElem_cons (by rw [List.length_set, Array.length_toList]; exact h), List.getElem_set_self, List.drop_set_of_lt (by omega)]
/-- What lies in the array of digits. -/
def DgI (u : Nat) (k p : Nat) (t : List UInt8) (cs : Array Value) : Prop := cs.size = 65 ∧ cs.toList.drop p = t.map (fun b => Value.int .u8 (b.toNat : Int)) ∧ hexS u = hexS k ++ t ∧ p + t.length = 65
theorem DgI.room {u k p : Nat} {t : List UInt8} {cs : Array Value} (h : DgI u k p t cs) (hu : u ≤ 65535) : 1 ≤ p ∧ p ≤ 65 := by
  have h1 := hexS_len4 hu
  rw [h.2.2.1, List.length_append] at h1
  have := h.2.2.2
  omega
theorem DgI.step {u k p : Nat} {t : List UInt8} {cs : Array Value} (h : DgI u k (p + 1) t cs) (hk : 16 ≤ k) : DgI u (k / 16) p (hexD (k % 16) :: t) (cs.setIfInBounds p (.int .u8 ((hexD (k % 16)).toNat : Int))) := by
  obtain ⟨h1, h2, h3, h4⟩ := h
  refine ⟨by rw [Array.size_setIfInBounds]; exact h1, ?_, ?_, by rw [List.length_cons]; omega⟩
  · rw [set_dropQ _ _ (by omega), h2]; rfl
  · rw [h3, hexS, if_neg (by omega)]
    simp
theorem DgI.last {u k p : Nat} {t : List UInt8} {cs : Array Value} (h : DgI u k (p + 1) t cs) (hk : k < 16) : hexS u = hexD k :: t ∧ (cs.setIfInBounds p (.int .u8 ((hexD k).toNat : Int))).toList.drop p = (hexD k :: t).map (fun b => Value.int .u8 (b.toNat : Int)) ∧ p + (hexD k :: t).length = 65 := by
  obtain ⟨h1, h2, h3, h4⟩ := h
  refine ⟨?_, ?_, by rw [List.length_cons]; omega⟩
  · rw [h3, hexS, if_pos hk]; rfl
  · rw [set_dropQ _ _ (by omega), h2]; rfl
set_option maxRecDepth 100000 in
set_option maxHeartbeats 3200000 in
theorem fbits16 (u : Nat) (hu : u ≤ 65535) (w : World) (hb : Brn w) :
    Calls Tryd.prog 111 #[.slice none 0 0, .int .u64 (u : Int), .int .i64 16, .bool false, .bool false] w fun e w' => e = .returned (.tuple #[.slice none 0 0, .string (hexB u)]) ∧ Below w.heap.size w w' := by
  have HB := Lib.hid hb
  have HU := Lib.hid hu
  clear hb
  go_enter Tryd.func111, Tryd.ntmps111
  go_wp2_with fail
  refine (pow2_16 _).mono ?_
  rintro e w' ⟨rfl, rfl⟩
  go_wp2_with fail
  refine (tz_16 _ (HB.out.below (bl_alloc (bl_refl w) _))).mono ?_
  rintro e w' ⟨rfl, rfl⟩
  go_wp2_with fail
  go_loopw [1, 13] (fun v i wr => ∃ (k p : Nat) (t : List UInt8) (cs : Array Value), v = .int .u64 (k : Int) ∧ i = .int .i64 (p : Int) ∧ Own wr w.heap.size 163 cs ∧ Hid (DgI u k p t cs) ∧ k ≤ 65535 ∧ Below w.heap.size w wr) (fun v _ _ => (intOf v).toNat)
  case atStart => exact ⟨u, 65, [], _, rfl, rfl, Own.new w _ _, Lib.hid ⟨by kernel_rfl, by kernel_rfl, by simp, rfl⟩, HU.out, bl_alloc (bl_refl w) _⟩
  case round =>
    obtain ⟨k, p, t, cs, rfl, rfl, ho, hD, hk, hbr⟩ := hrel
    have hpp := hD.out.room HU.out
    obtain ⟨p', rfl⟩ : ∃ p', p = p' + 1 := ⟨p - 1, by omega⟩
    have hw1 : IntKind.i64.wrap (p' : Int) = (p' : Int) := by rw [IntKind.wrap_i64]; omega
    have hp65 : (p' : Int) < 65 := by omega
    have hlt := ho.lt
    have hfr := ho.frozen p'
    have hcs : p' < cs.size := by rw [hD.out.1]; omega
    obtain ⟨ov, hcell⟩ : ∃ ov, wr.cell? ⟨w.heap.size, p', none⟩ = some ov := ⟨cs[p'], ho.cell (Array.getElem?_eq_getElem hcs)⟩
    by_cases h16 : 16 ≤ k
    · have h16i : (16 : Int) ≤ (k : Int) := by omega
      have hband := and15 k hk
      have hix := fun W => idx36 (k % 16) (by omega) .u64 W
      have hsh : (k : Int) / 2 ^ (4 : Int).toNat = ((k / 16 : Nat) : Int) := by show (k : Int) / 16 = _; omega
      have hS := Lib.hid (hD.out.step h16)
      have ho2 := ho.set_ p' (.int .u8 ((hexD (k % 16)).toNat : Int))
      have hb2 := hbr.setCell (p := ⟨w.heap.size, p', none⟩) (Nat.le_refl _) (.int .u8 ((hexD (k % 16)).toNat : Int))
      generalize hexD (k % 16) = dg at *
      generalize (k % 16 : Nat) = km at *
      clear hcs hpp
      go_wp2
      go_roundw
      case rel => exact ⟨k / 16, p', dg :: t, _, by go_num, rfl, ho2, hS, by omega, hb2⟩
      case measure => simp [intOf]; omega
    · have h16i : ¬ (16 : Int) ≤ (k : Int) := by omega
      have hix := fun W => idx36 k (by omega) .u64 W
      have hS := Lib.hid (hD.out.last (by omega))
      have ho2 := ho.set_ p' (.int .u8 ((hexD k).toNat : Int))
      have hb2 := hbr.setCell (p := ⟨w.heap.size, p', none⟩) (Nat.le_refl _) (.int .u8 ((hexD k).toNat : Int))
      have hq : 65 - p' = (hexD k :: t).length := by have := hS.out.2.2; omega
      have hsl : ∀ W, (Instr.sliceAt 163 (.pointer (some ⟨w.heap.size, 0, none⟩)) (some (.int .i64 (p' : Int))) none none).run Tryd.prog W = .ok (.slice (some ⟨w.heap.size, p', none⟩) (hexD k :: t).length (hexD k :: t).length) W := fun W => by
        have hal : Tryd.prog.arrayLen 163 = 65 := by simp [Program.arrayLen, Tryd.underlying163]
        rw [run_sliceAt_array_l W 163 ⟨w.heap.size, 0, none⟩ (by simp [Program.arrayLen, Program.elem, Tryd.underlying163]) .i64 (p' : Int) (by omega) (by rw [hal]; omega)]
        rw [← hq]
        go_simp
        intro h
        omega
      have hcv : (convert 25 9 (.slice (some ⟨w.heap.size, p', none⟩) (hexD k :: t).length (hexD k :: t).length)).run Tryd.prog (wr.setCell ⟨w.heap.size, p', none⟩ (.int .u8 ((hexD k).toNat : Int))) = .ok (.string ⟨(hexD k :: t).toArray⟩) (wr.setCell ⟨w.heap.size, p', none⟩ (.int .u8 ((hexD k).toNat : Int))) :=
        run_convert_bytes_back (P := Tryd.prog) _ 25 9 5 ⟨w.heap.size, p', none⟩ _ (hexD k :: t) Tryd.underlying25 Tryd.underlying5 Tryd.underlying9 (fun j hj => by
          have h2 := hS.out.2.1
          have h3 := congrArg (fun l => l[j]?) h2
          simp only [List.getElem?_drop, List.getElem?_map, List.getElem?_eq_getElem hj, Option.map_some] at h3
          rw [Addr.add_lit]
          exact ho2.cell (by rw [← Array.getElem?_toList]; exact h3))
      have hR := Lib.hid (show (⟨(hexD k :: t).toArray⟩ : ByteArray) = hexB u by unfold hexB; rw [Int.toNat_natCast, hS.out.1])
      clear hS hq
      generalize hexD k :: t = tt at *
      generalize hexD k = dg at *
      clear hcs hpp ho2
      go_wp2
      go_ret2
      exact ⟨by rw [← hR.out]; rfl, hb2⟩
set_option maxRecDepth 100000 in
theorem ifmt16_any (u : Nat) (hu : u ≤ 65535) (w : World) (hb : Brn w) :
    Calls Tryd.prog 78 #[.int .u64 (u : Int), .int .i64 16] w fun e w' => e = .returned (.string (hexB u)) ∧ Below w.heap.size w w' := by
  have HC := Lib.hid (fbits16 u hu w hb)
  clear hb
  go_enter Tryd.func78, Tryd.ntmps78
  go_wp2_with fail
  refine HC.out.mono ?_
  rintro e w1 ⟨rfl, hb1⟩
  go_wp2
  go_ret
  exact ⟨rfl, hb1⟩
set_option maxRecDepth 100000 in
theorem fmt16_any (u : Nat) (hu : u ≤ 65535) (w : World) (hb : Brn w) :
    Calls Tryd.prog 43 #[.int .u64 (u : Int), .int .i64 16] w fun e w' => e = .returned (.string (hexB u)) ∧ Below w.heap.size w w' := by
  go_enter Tryd.func43, Tryd.ntmps43
  go_wp2_with fail
  refine (ifmt16_any u hu w hb).mono ?_
  rintro e w1 ⟨rfl, hb1⟩
  go_wp2
  go_ret
  exact ⟨rfl, hb1⟩
end Go.Proofs.YtecbbjdcnlocdaaDoor

/- prefix.Text at prefixes of family 1 -/
namespace Go.Proofs.YtecbbjdcnlocdaaDoor
open Go.RowKit Go.Sort

set_option maxRecDepth 100000 in
theorem sl_strs : SliceOf Tryd.prog 67 9 1 16 := SliceOf.mk Tryd.underlying67 (z := .string ⟨#[]⟩) (by kernel_rfl) rfl (by decide)
def wordsV (xs : List ByteArray) : List Value := xs.map Value.string
def words10 (a : List Int) (k : Nat) : List ByteArray := (a.take k).map decB
theorem words10_len {a : List Int} {k : Nat} (h : k ≤ a.length) : (words10 a k).length = k := by simp [words10]; omega
theorem words10_step {a : List Int} {k : Nat} (hk : k < a.length) : words10 a k ++ [decB (nth a k)] = words10 a (k + 1) := by
  unfold words10
  rw [List.take_succ_eq_append_getElem hk, List.map_append]
  simp [nth, List.getD_eq_getElem?_getD, hk]
set_option maxRecDepth 100000 in
set_option maxHeartbeats 800000 in
theorem ptext4_addr (l : Int) (a : List Int) (w : World) (ha : IsAddr a) (ht : Tens w) :
    Calls Tryd.prog 55 #[.agg (pfx 1 l a)] w fun e w' => e = .returned (.string (joinB (words10 a 4) [46])) ∧ Below w.heap.size w w' := by
  have HS := Lib.hid (pfx_size (f := 1) (l := l) ha.1)
  have ho := Own.new w 41 (pfx 1 l a)
  have hb0 := bl_alloc (bl_refl w) (.cells (pfx 1 l a) 41)
  have c0 := ho.cell (pfx_0 1 l a)
  have hown0 := World.ownsRow_nil (w.alloc (.cells (pfx 1 l a) 41)) w.heap.size 9 1
  have hlt0 := ho.lt
  go_enter Tryd.func55, Tryd.ntmps55
  go_wp2
  go_loopw [3, 14] (fun v i wr => ∃ k : Nat, k ≤ 4 ∧ i = .int .i64 k ∧ wr.ownsRow w.heap.size 9 1 v k (wordsV (words10 a k)) ∧ Own wr w.heap.size 41 (pfx 1 l a) ∧ Below w.heap.size w wr) (fun _ i _ => 4 - (intOf i).toNat)
  case atStart => exact ⟨0, by omega, rfl, hown0, ho, hb0⟩
  case round =>
    obtain ⟨k, hkz, rfl, hown, hor, hbr⟩ := hrel
    clear ho hb0 c0 hown0 hlt0
    by_cases hlt : k < 4
    · have hk16 : k < 16 := by omega
      have hcell := hor.cell ((pfx_at 1 l a k).trans (ha.at_ hk16).1)
      have hr := (ha.at_ hk16).2
      have hfs := Lib.hid (words10_step (a := a) (k := k) (by rw [ha.1]; exact hk16))
      have htr := ht.below hbr
      go_wp2_with fail
      refine (itoa_any (nth a k) hr.1 (by omega) _ htr).mono ?_
      rintro e w1 ⟨rfl, hb1⟩
      have hown1 := hown.kept (only_of_below hb1 none) (Classical.em _)
      have hor1 := hor.step hb1
      have hbr1 := bl_trans hbr hb1
      have hbb := hbr1.size
      clear hown hor hbr hb1 hcell
      go_wp2_with (at_builtin; refine wpList_append_grow _ rfl _ _ rfl sl_strs w.heap.size _ _ _ rfl (hown1.alloc _) (w1.heap.size + 1) (some ⟨w1.heap.size, 0, none⟩) 1 1 [_] rfl rfl (Shows.of_owned (Own.new _ _ _) (by omega)) (one1 rfl) (by unfold maxLen; omega) (by omega) (by simp; omega) ?_; intro v1 w2 hown2 hgrow2)
      have hb2 : Below w.heap.size w w2 := (hbr1.alloc hbb _).grown hgrow2 (by simp; omega) (own_base hown1)
      have hor2 : Own w2 w.heap.size 41 (pfx 1 l a) := (hor1.alloc _).grown hgrow2 (by intro e; have h3 := own_blk hown1 hor1 (by decide); exact h3 e.symm)
      go_roundw
      case rel =>
        refine ⟨k + 1, by omega, by go_num, ?_, hor2, hb2⟩
        unfold wordsV
        rw [← hfs.out, List.map_append]
        exact hown2
      case measure => simp [intOf]; omega
    · obtain rfl : k = 4 := by omega
      have hl := words10_len (a := a) (k := 4) (by rw [ha.1]; omega)
      have HW := Lib.hid (show wr.ownsRow w.heap.size 9 1 _ (words10 a 4).length (wordsV (words10 a 4)) by rw [hl]; exact hown)
      clear hown
      go_wp2_with fail
      refine (join_row 19 ⟨#[46]⟩ HW.out (by rw [hl]; omega) ?_ (by omega) (by decide)).mono ?_
      · intro x hx
        obtain ⟨y, hy, rfl⟩ := List.mem_map.1 hx
        have := ha.2 y (List.mem_of_mem_take hy)
        exact dec_len (by omega)
      · rintro e w2 ⟨rfl, hb2⟩
        have hb3 := bl_trans hbr hb2
        go_wp2
        go_ret
        exact ⟨rfl, hb3⟩

/-- The text of a prefix of family 1. -/
def ptext4 (l : Int) (a : List Int) : ByteArray := joinB (words10 a 4) [46] ++ ⟨#[47]⟩ ++ decB l
set_option maxRecDepth 100000 in
set_option maxHeartbeats 800000 in
theorem ptext4_yes (l : Int) (a : List Int) (w : World) (ha : IsAddr a) (ht : Tens w) (hk : pfxOk 1 l a = true) :
    Calls Tryd.prog 23 #[.agg (pfx 1 l a)] w fun e w' => e = .returned (.string (ptext4 l a)) ∧ Below w.heap.size w w' := by
  have HS := Lib.hid (pfx_size (f := 1) (l := l) ha.1)
  have hl := pfxOk_range hk
  have HK := Lib.hid hk
  have ho := Own.new w 41 (pfx 1 l a)
  have hb0 := bl_alloc (bl_refl w) (.cells (pfx 1 l a) 41)
  clear hk
  go_enter Tryd.func23, Tryd.ntmps23
  go_wp2_with (refine wpList_load_row rfl 41 _ rfl w.heap.size rfl 41 (pfx 1 l a) (0, 0) (.struct (Tryd.prog.fieldsOf 41)) (Own.new w _ _) (by kernel_rfl) rfl (by rw [HS.out]; kernel_rfl) ?_)
  refine (pvalid_any 1 l a _ ha).mono ?_
  rw [HK.out]
  rintro e w1 ⟨rfl, hb1⟩
  have ho1 := ho.step hb1
  have hb2 := bl_trans hb0 hb1
  have ht1 := ht.below hb2
  clear ho hb0 hb1
  go_wp2_with fail
  refine wp_region_quiet_below (by kernel_rfl) (by kernel_rfl) ?_
  have HC := Lib.hid (rg_of (w := w1) (fun W hW => ptext4_addr l a W ha (ht1.below hW)))
  have HD := Lib.hid (rg_of (w := w1) (fun W hW => itoa_any l hl.1 (by omega) W (ht1.below hW)))
  have c1 := cell_regrown (ho1.cell (pfx_1 1 l a))
  have s1 := joinB_size (k := 19) (s := 1) (xs := words10 a 4) (sep := [46]) (by intro x hx; obtain ⟨y, hy, rfl⟩ := List.mem_map.1 hx; have := ha.2 y (List.mem_of_mem_take hy); exact decB_size (by omega)) (by decide)
  rw [words10_len (by rw [ha.1]; omega)] at s1
  have s2 := decB_size (n := l) (by omega)
  have n1 : ¬ 9223372036854775807 < (joinB (words10 a 4) [46]).size + 1 := by omega
  have n2 : ¬ 9223372036854775807 < (joinB (words10 a 4) [46]).size + 1 + (decB l).size := by omega
  refine wpQuiet_load_row (by rfl) 41 _ rfl w.heap.size rfl 41 (pfx 1 l a) (.struct (Tryd.prog.fieldsOf 41)) ho1.rg (by kernel_rfl) rfl (by rw [HS.out]; kernel_rfl) ?_
  go_simp
  repeat (go_big_quiet_step (first | exact HC.out _ _ | exact HD.out _ _))
  refine wpQuiet_nil ?_
  rintro ⟨dq, osq⟩
  have hb3 := bl_trans hb2 (below_regrown w1 dq osq)
  generalize grow (redrawn w1 dq) osq = w2 at *
  go_wp2
  go_ret
  exact ⟨rfl, hb3⟩
end Go.Proofs.YtecbbjdcnlocdaaDoor

/- prefix.Text at every prefix -/
namespace Go.Proofs.YtecbbjdcnlocdaaDoor
open Go.RowKit Go.Sort
theorem or8 (x y : Int) (hx : 0 ≤ x ∧ x ≤ 255) (hy : 0 ≤ y ∧ y ≤ 255) : bits BinOp.or IntKind.u64 (x * 256) y = x * 256 + y := by
  obtain ⟨n, rfl⟩ := Int.eq_ofNat_of_zero_le hx.1
  obtain ⟨m, rfl⟩ := Int.eq_ofNat_of_zero_le hy.1
  have e0 : ((n : Int) * 256) = ((n * 256 : Nat) : Int) := by simp
  rw [e0]
  show IntKind.u64.wrap ((BitVec.ofInt 64 ((n * 256 : Nat) : Int) ||| BitVec.ofInt 64 (m : Int)).toNat : Int) = _
  have e1 : (BitVec.ofInt 64 ((n * 256 : Nat) : Int)).toNat = n * 256 := by
    rw [BitVec.ofInt_natCast, BitVec.toNat_ofNat]; exact Nat.mod_eq_of_lt (by omega)
  have e2 : (BitVec.ofInt 64 (m : Int)).toNat = m := by
    rw [BitVec.ofInt_natCast, BitVec.toNat_ofNat]; exact Nat.mod_eq_of_lt (by omega)
  have e3 : n * 256 ||| m = n * 256 + m := by
    have := Nat.shiftLeft_add_eq_or_of_lt (b := m) (i := 8) (by omega) n
    rw [Nat.shiftLeft_eq] at this
    exact this.symm
  rw [BitVec.toNat_or, e1, e2, e3, IntKind.wrap_u64]
  omega
/-- The words of an address of family 2. -/
def word16 (a : List Int) (i : Nat) : Nat := (nth a (2 * i) * 256 + nth a (2 * i + 1)).toNat
def words16 (a : List Int) (k : Nat) : List ByteArray := (List.range k).map fun i => hexB (word16 a i)
theorem words16_len (a : List Int) (k : Nat) : (words16 a k).length = k := by simp [words16]
theorem words16_step (a : List Int) (k : Nat) : words16 a (k + 1) = words16 a k ++ [hexB (word16 a k)] := by
  unfold words16
  rw [List.range_succ, List.map_append]; rfl
theorem word16_le {a : List Int} (ha : IsAddr a) {i : Nat} (hi : i < 8) : word16 a i ≤ 65535 ∧ (word16 a i : Int) = nth a (2 * i) * 256 + nth a (2 * i + 1) := by
  have h1 := (ha.at_ (i := 2 * i) (by omega)).2
  have h2 := (ha.at_ (i := 2 * i + 1) (by omega)).2
  unfold word16
  omega
set_option maxRecDepth 100000 in
set_option maxHeartbeats 1600000 in
theorem ptext6_addr (f l : Int) (hf : ¬ f = 1) (a : List Int) (w : World) (ha : IsAddr a) (hb : Brn w) :
    Calls Tryd.prog 55 #[.agg (pfx f l a)] w fun e w' => e = .returned (.string (joinB (words16 a 8) [58])) ∧ Below w.heap.size w w' := by
  have HS := Lib.hid (pfx_size (f := f) (l := l) ha.1)
  have ho := Own.new w 41 (pfx f l a)
  have hb0 := bl_alloc (bl_refl w) (.cells (pfx f l a) 41)
  have c0 := ho.cell (pfx_0 f l a)
  have hf1 : (f == 1) = false := by simpa using hf
  have hown0 := World.ownsRow_nil (w.alloc (.cells (pfx f l a) 41)) w.heap.size 9 1
  have hlt0 := ho.lt
  have HB := Lib.hid hb
  clear hb hf
  go_enter Tryd.func55, Tryd.ntmps55
  go_wp2
  go_loopw [3, 6] (fun v i wr => ∃ k : Nat, k ≤ 8 ∧ i = .int .i64 ((2 * k : Nat) : Int) ∧ wr.ownsRow w.heap.size 9 1 v k (wordsV (words16 a k)) ∧ Own wr w.heap.size 41 (pfx f l a) ∧ Below w.heap.size w wr) (fun _ i _ => 16 - (intOf i).toNat)
  case atStart => exact ⟨0, by omega, rfl, hown0, ho, hb0⟩
  case round =>
    obtain ⟨k, hkz, rfl, hown, hor, hbr⟩ := hrel
    clear ho hb0 c0 hown0 hlt0
    by_cases hlt : k < 8
    · have hfs := Lib.hid (words16_step a k)
      have hwl := word16_le ha hlt
      have hr1 := (ha.at_ (i := 2 * k) (by omega)).2
      have hr2 := (ha.at_ (i := 2 * k + 1) (by omega)).2
      have hor8 := or8 _ _ hr1 hr2
      have c1 := cell_regrown (hor.cell ((pfx_at f l a (2 * k)).trans (ha.at_ (i := 2 * k) (by omega)).1))
      have c2 := cell_regrown (hor.cell ((pfx_at f l a (2 * k + 1)).trans (ha.at_ (i := 2 * k + 1) (by omega)).1))
      have HW := Lib.hid hwl
      rw [← hwl.2] at hor8
      generalize word16 a k = u at *
      generalize nth a (2 * k) = x at *
      generalize nth a (2 * k + 1) = y at *
      have hX : IntKind.u64.wrap (x * 256) = x * 256 := by rw [IntKind.wrap_u64]; omega
      obtain ⟨X8, hX8⟩ : ∃ X8 : Int, X8 = x * 256 := ⟨_, rfl⟩
      rw [← hX8] at hor8
      have hwX : IntKind.u64.wrap (x * 256) = X8 := by rw [hX, hX8]
      have hwx : IntKind.u64.wrap x = x := by rw [IntKind.wrap_u64]; omega
      have hwy : IntKind.u64.wrap y = y := by rw [IntKind.wrap_u64]; omega
      obtain ⟨q, hq⟩ : ∃ q : Nat, q = 2 * k := ⟨_, rfl⟩
      rw [← hq] at c1 c2 ⊢
      have HQ := Lib.hid hq
      have hq16 : q + 1 < 16 := by omega
      have hwq : IntKind.i64.wrap ((q : Int) + 1) = (q : Int) + 1 := by rw [IntKind.wrap_i64]; omega
      have hwq2 : IntKind.i64.wrap ((q : Int) + 2) = (q : Int) + 2 := by rw [IntKind.wrap_i64]; omega
      have hq1 : (q : Int) < 16 := by omega
      have hq2 : (q : Int) + 1 < 16 := by omega
      clear hX hX8 hq hwl
      go_wp2_with fail
      refine wp_region_quiet_below (by kernel_rfl) (by kernel_rfl) ?_
      repeat (go_big_quiet_step (fail))
      refine wpQuiet_nil ?_
      first | rintro _ ⟨⟨dq, osq⟩, rfl⟩ | rintro ⟨dq, osq⟩
      have hbX := below_regrown wr dq osq
      have hownX := hown.kept (only_of_below hbX none) (Classical.em _)
      have horX := hor.step hbX
      have hbrX := bl_trans hbr hbX
      generalize grow (redrawn wr dq) osq = w0 at *
      clear hown hor hbr hbX c1 c2
      go_wp2_with fail
      refine (fmt16_any u HW.out.1 _ (HB.out.below hbrX)).mono ?_
      rintro e w1 ⟨rfl, hb1⟩
      have hown1 := hownX.kept (only_of_below hb1 none) (Classical.em _)
      have hor1 := horX.step hb1
      have hbr1 := bl_trans hbrX hb1
      have hbb := hbr1.size
      clear hownX horX hbrX hb1
      go_wp2_with (at_builtin; refine wpList_append_grow _ rfl _ _ rfl sl_strs w.heap.size _ _ _ rfl (hown1.alloc _) (w1.heap.size + 1) (some ⟨w1.heap.size, 0, none⟩) 1 1 [_] rfl rfl (Shows.of_owned (Own.new _ _ _) (by omega)) (one1 rfl) (by unfold maxLen; omega) (by omega) (by simp; omega) ?_; intro v1 w2 hown2 hgrow2)
      have hb2 : Below w.heap.size w w2 := (hbr1.alloc hbb _).grown hgrow2 (by simp; omega) (own_base hown1)
      have hor2 : Own w2 w.heap.size 41 (pfx f l a) := (hor1.alloc _).grown hgrow2 (by intro e; have h3 := own_blk hown1 hor1 (by decide); exact h3 e.symm)
      go_roundw
      case rel =>
        refine ⟨k + 1, by omega, by have := HQ.out; go_num, ?_, hor2, hb2⟩
        unfold wordsV
        rw [hfs.out, List.map_append]
        exact hown2
      case measure => have := HQ.out; simp [intOf]; omega
    · obtain rfl : k = 8 := by omega
      have hl := words16_len a 8
      have HW := Lib.hid (show wr.ownsRow w.heap.size 9 1 _ (words16 a 8).length (wordsV (words16 a 8)) by rw [hl]; exact hown)
      clear hown
      go_wp2_with fail
      refine (join_row 4 ⟨#[58]⟩ HW.out (by rw [hl]; omega) ?_ (by omega) (by decide)).mono ?_
      · intro x hx
        obtain ⟨i, hi, rfl⟩ := List.mem_map.1 hx
        have := hexB_size (n := (word16 a i : Int)) (by have := (word16_le ha (List.mem_range.1 hi)).1; omega)
        rwa [Array.length_toList]
      · rintro e w2 ⟨rfl, hb2⟩
        have hb3 := bl_trans hbr hb2
        go_wp2
        go_ret
        exact ⟨rfl, hb3⟩
/-- The text of a prefix of family 2. -/
def ptext6 (l : Int) (a : List Int) : ByteArray := joinB (words16 a 8) [58] ++ ⟨#[47]⟩ ++ decB l
/-- The text of a prefix. -/
def ptxt (f l : Int) (a : List Int) : ByteArray := if f = 1 then ptext4 l a else ptext6 l a
set_option maxRecDepth 100000 in
set_option maxHeartbeats 800000 in
theorem ptext6_yes (f l : Int) (hf : ¬ f = 1) (a : List Int) (w : World) (ha : IsAddr a) (ht : Tens w) (hb : Brn w) (hk : pfxOk f l a = true) :
    Calls Tryd.prog 23 #[.agg (pfx f l a)] w fun e w' => e = .returned (.string (ptext6 l a)) ∧ Below w.heap.size w w' := by
  have HS := Lib.hid (pfx_size (f := f) (l := l) ha.1)
  have hl := pfxOk_range hk
  have HK := Lib.hid hk
  have ho := Own.new w 41 (pfx f l a)
  have hb0 := bl_alloc (bl_refl w) (.cells (pfx f l a) 41)
  have HF := Lib.hid hf
  clear hk hf
  go_enter Tryd.func23, Tryd.ntmps23
  go_wp2_with (refine wpList_load_row rfl 41 _ rfl w.heap.size rfl 41 (pfx f l a) (0, 0) (.struct (Tryd.prog.fieldsOf 41)) (Own.new w _ _) (by kernel_rfl) rfl (by rw [HS.out]; kernel_rfl) ?_)
  refine (pvalid_any f l a _ ha).mono ?_
  rw [HK.out]
  rintro e w1 ⟨rfl, hb1⟩
  have ho1 := ho.step hb1
  have hb2 := bl_trans hb0 hb1
  have ht1 := ht.below hb2
  have hbn1 := hb.below hb2
  clear ho hb0 hb1
  go_wp2_with fail
  refine wp_region_quiet_below (by kernel_rfl) (by kernel_rfl) ?_
  have HC := Lib.hid (rg_of (w := w1) (fun W hW => ptext6_addr f l HF.out a W ha (hbn1.below hW)))
  have HD := Lib.hid (rg_of (w := w1) (fun W hW => itoa_any l hl.1 (by omega) W (ht1.below hW)))
  have c1 := cell_regrown (ho1.cell (pfx_1 f l a))
  have s1 := joinB_size (k := 4) (s := 1) (xs := words16 a 8) (sep := [58]) (by intro x hx; obtain ⟨i, hi, rfl⟩ := List.mem_map.1 hx; exact hexB_size (by have := (word16_le ha (List.mem_range.1 hi)).1; omega)) (by decide)
  rw [words16_len] at s1
  have s2 := decB_size (n := l) (by omega)
  have n1 : ¬ 9223372036854775807 < (joinB (words16 a 8) [58]).size + 1 := by omega
  have n2 : ¬ 9223372036854775807 < (joinB (words16 a 8) [58]).size + 1 + (decB l).size := by omega
  refine wpQuiet_load_row (by rfl) 41 _ rfl w.heap.size rfl 41 (pfx f l a) (.struct (Tryd.prog.fieldsOf 41)) ho1.rg (by kernel_rfl) rfl (by rw [HS.out]; kernel_rfl) ?_
  go_simp
  repeat (go_big_quiet_step (first | exact HC.out _ _ | exact HD.out _ _))
  refine wpQuiet_nil ?_
  rintro ⟨dq, osq⟩
  have hb3 := bl_trans hb2 (below_regrown w1 dq osq)
  generalize grow (redrawn w1 dq) osq = w2 at *
  go_wp2
  go_ret
  exact ⟨rfl, hb3⟩
set_option maxRecDepth 100000 in
theorem ptext_yes (f l : Int) (a : List Int) (w : World) (ha : IsAddr a) (ht : Tens w) (hb : Brn w) (hk : pfxOk f l a = true) :
    Calls Tryd.prog 23 #[.agg (pfx f l a)] w fun e w' => e = .returned (.string (ptxt f l a)) ∧ Below w.heap.size w w' := by
  by_cases hf : f = 1
  · subst hf
    have e : ptxt 1 l a = ptext4 l a := if_pos rfl
    rw [e]
    exact ptext4_yes l a w ha ht hk
  · have e : ptxt f l a = ptext6 l a := if_neg hf
    rw [e]
    exact ptext6_yes f l hf a w ha ht hb hk
set_option maxRecDepth 100000 in
theorem ptext_no (f l : Int) (a : List Int) (w : World) (ha : IsAddr a) (hk : pfxOk f l a = false) :
    Calls Tryd.prog 23 #[.agg (pfx f l a)] w fun e w' => e = .returned (.string ⟨#[]⟩) ∧ Below w.heap.size w w' := by
  have HS := Lib.hid (pfx_size (f := f) (l := l) ha.1)
  have HK := Lib.hid hk
  have hb0 := bl_alloc (bl_refl w) (.cells (pfx f l a) 41)
  clear hk
  go_enter Tryd.func23, Tryd.ntmps23
  go_wp2_with (refine wpList_load_row rfl 41 _ rfl w.heap.size rfl 41 (pfx f l a) (0, 0) (.struct (Tryd.prog.fieldsOf 41)) (Own.new w _ _) (by kernel_rfl) rfl (by rw [HS.out]; kernel_rfl) ?_)
  refine (pvalid_any f l a _ ha).mono ?_
  rw [HK.out]
  rintro e w1 ⟨rfl, hb1⟩
  have hb2 := bl_trans hb0 hb1
  go_wp2
  go_ret
  exact ⟨rfl, hb2⟩
/-- The text that a prefix has, or none. -/
def ptxtO (f l : Int) (a : List Int) : ByteArray := if pfxOk f l a = true then ptxt f l a else ⟨#[]⟩
set_option maxRecDepth 100000 in
theorem ptext_any (f l : Int) (a : List Int) (w : World) (ha : IsAddr a) (ht : Tens w) (hb : Brn w) :
    Calls Tryd.prog 23 #[.agg (pfx f l a)] w fun e w' => e = .returned (.string (ptxtO f l a)) ∧ Below w.heap.size w w' := by
  unfold ptxtO
  cases hk : pfxOk f l a with
  | true => exact ptext_yes f l a w ha ht hb hk
  | false => exact ptext_no f l a w ha hk
end Go.Proofs.YtecbbjdcnlocdaaDoor

/- peerageref02.Text at every prefix -/
namespace Go.Proofs.YtecbbjdcnlocdaaDoor
open Go.RowKit Go.Sort
theorem joinP_snoc (xs : List ByteArray) (y : ByteArray) (d : UInt8) (h : xs ≠ []) : joinB (xs ++ [y]) [d] = joinB xs [d] ++ ⟨#[d]⟩ ++ y := by
  unfold joinB
  rw [List.map_append]
  have hne : xs.map (fun x : ByteArray => x.data.toList) ≠ [] := by simpa using h
  rw [show [y].map (fun x : ByteArray => x.data.toList) = [y.data.toList] from rfl, lib_join_snoc _ _ _ hne]
  apply ByteArray.ext
  simp
theorem joinP_one (y : ByteArray) (d : UInt8) : joinB [y] [d] = y := by
  unfold joinB
  apply ByteArray.ext
  simp [Lib.join_one]
theorem w10_first {a : List Int} (h : 0 < a.length) : joinB (words10 a (0 + 1)) [46] = decB (nth a 0) := by
  rw [← words10_step h]
  have e : words10 a 0 = [] := by unfold words10; rfl
  rw [e, List.nil_append, joinP_one]
theorem w10_next {a : List Int} {k : Nat} (h : k < a.length) (h1 : 0 < k) : joinB (words10 a (k + 1)) [46] = joinB (words10 a k) [46] ++ ⟨#[46]⟩ ++ decB (nth a k) := by
  rw [← words10_step h, joinP_snoc _ _ _ (by
    intro e
    have := congrArg List.length e
    rw [words10_len (by omega)] at this
    have h3 : k = 0 := this
    omega)]
theorem w16_first (a : List Int) : joinB (words16 a (0 + 1)) [58] = hexB (word16 a 0) := by
  rw [words16_step]
  have e : words16 a 0 = [] := rfl
  rw [e, List.nil_append, joinP_one]
theorem w16_next (a : List Int) {k : Nat} (h1 : 0 < k) : joinB (words16 a (k + 1)) [58] = joinB (words16 a k) [58] ++ ⟨#[58]⟩ ++ hexB (word16 a k) := by
  rw [words16_step, joinP_snoc _ _ _ (by
    intro e
    have := congrArg List.length e
    rw [words16_len] at this
    have h3 : k = 0 := this
    omega)]
theorem w10_size {a : List Int} (ha : IsAddr a) {k : Nat} (hk : k ≤ 4) : (joinB (words10 a k) [46]).size ≤ 80 := by
  have s1 := joinB_size (k := 19) (s := 1) (xs := words10 a k) (sep := [46]) (by intro x hx; obtain ⟨y, hy, rfl⟩ := List.mem_map.1 hx; have := ha.2 y (List.mem_of_mem_take hy); exact decB_size (by omega)) (by decide)
  rw [words10_len (by rw [ha.1]; omega)] at s1
  omega
theorem w16_size {a : List Int} (ha : IsAddr a) {k : Nat} (hk : k ≤ 8) : (joinB (words16 a k) [58]).size ≤ 80 := by
  have s1 := joinB_size (k := 4) (s := 1) (xs := words16 a k) (sep := [58]) (by intro x hx; obtain ⟨i, hi, rfl⟩ := List.mem_map.1 hx; exact hexB_size (by have := (word16_le ha (i := i) (by have := List.mem_range.1 hi; omega)).1; omega)) (by decide)
  rw [words16_len] at s1
  omega
theorem ba_nilP (b : ByteArray) : (⟨#[]⟩ : ByteArray) ++ b = b := by apply ByteArray.ext; simp
set_option maxRecDepth 100000 in
set_option maxHeartbeats 3200000 in
theorem rptext4 (l : Int) (a : List Int) (w : World) (ha : IsAddr a) (hk : pfxOk 1 l a = true) :
    Calls Tryd.prog 26 #[.agg (pfx 1 l a)] w fun e w' => e = .returned (.string (ptext4 l a)) ∧ Below w.heap.size w w' := by
  have HS := Lib.hid (pfx_size (f := 1) (l := l) ha.1)
  have hl := pfxOk_range hk
  have HK := Lib.hid hk
  have ho := Own.new w 41 (pfx 1 l a)
  have hb0 := bl_alloc (bl_refl w) (.cells (pfx 1 l a) 41)
  clear hk
  go_enter Tryd.func26, Tryd.ntmps26
  go_wp2_with (refine wpList_load_row rfl 41 _ rfl w.heap.size rfl 41 (pfx 1 l a) (0, 0) (.struct (Tryd.prog.fieldsOf 41)) (Own.new w _ _) (by kernel_rfl) rfl (by rw [HS.out]; kernel_rfl) ?_)
  refine (rpvalid_any 1 l a _ ha).mono ?_
  rw [HK.out]
  rintro e w1 ⟨rfl, hb1⟩
  have ho1 := ho.step hb1
  have hb2 := bl_trans hb0 hb1
  have c0 := ho1.cell (pfx_0 1 l a)
  clear ho hb0 hb1
  go_wp2_with fail
  go_loopw [3, 4] (fun v i wr => ∃ k : Nat, k ≤ 4 ∧ i = .int .i64 (k : Int) ∧ v = .string (joinB (words10 a k) [46]) ∧ Own wr w.heap.size 41 (pfx 1 l a) ∧ Below w.heap.size w wr) (fun _ i _ => 4 - (intOf i).toNat)
  case atStart => exact ⟨0, by omega, rfl, rfl, ho1, hb2⟩
  case round =>
    obtain ⟨k, hk4, rfl, rfl, hor, hbr⟩ := hrel
    clear ho1 hb2 c0
    by_cases hlt : k < 4
    · have hcell := hor.cell ((pfx_at 1 l a k).trans (ha.at_ (i := k) (by omega)).1)
      have hr := (ha.at_ (i := k) (by omega)).2
      have hwr : IntKind.i64.wrap (nth a k) = nth a k := by rw [IntKind.wrap_i64]; omega
      have hz := w10_size ha (k := k) (by omega)
      have hdz := decB_size (n := nth a k) (by omega)
      have hkl : k < a.length := by rw [ha.1]; omega
      have h0 := Lib.hid (fun (h : k = 0) => (show joinB (words10 a (k + 1)) [46] = decB (nth a k) by subst h; exact w10_first hkl))
      have h1 := Lib.hid (fun (h : 0 < k) => w10_next hkl h)
      have h00 := Lib.hid (fun (h : k = 0) => (show joinB (words10 a k) [46] = ⟨#[]⟩ by subst h; rfl))
      generalize joinB (words10 a k) [46] = J at *
      have hF := Lib.hid (fun W => rdigits10_any (nth a k) hr.1 (by omega) W)
      generalize nth a k = x at *
      generalize decB x = dx at *
      rcases Nat.eq_zero_or_pos k with hk0 | hk0
      · have hS := Lib.hid (show joinB (words10 a (k + 1)) [46] = J ++ dx by rw [h0.out hk0, h00.out hk0, ba_nilP])
        have d : decide ((0 : Int) < (k : Int)) = false := by simp; omega
        have d2 : ¬ 0 < k := by omega
        have n1 : ¬ 9223372036854775807 < J.size + dx.size := by omega
        clear hk0
        go_wp2_with fail
        refine (hF.out _).mono ?_
        rintro e w2 ⟨rfl, hb2⟩
        have hor2 := hor.step hb2
        have hbr2 := bl_trans hbr hb2
        go_wp2
        go_roundw
        case rel => exact ⟨k + 1, by omega, by go_num, congrArg Value.string hS.out.symm, hor2, hbr2⟩
        case measure => simp [intOf]; omega
      · have hS := Lib.hid (h1.out hk0)
        have d : decide ((0 : Int) < (k : Int)) = true := by simp; omega
        have n0 : ¬ 9223372036854775807 < J.size + 1 := by omega
        have n1 : ¬ 9223372036854775807 < J.size + 1 + dx.size := by omega
        go_wp2_with fail
        refine (hF.out _).mono ?_
        rintro e w2 ⟨rfl, hb2⟩
        have hor2 := hor.step hb2
        have hbr2 := bl_trans hbr hb2
        go_wp2
        go_roundw
        case rel => exact ⟨k + 1, by omega, by go_num, congrArg Value.string hS.out.symm, hor2, hbr2⟩
        case measure => simp [intOf]; omega
    · obtain rfl : k = 4 := by omega
      have hz := w10_size ha (k := 4) (by omega)
      have hdz := decB_size (n := l) (by omega)
      have hO : Hid (ptext4 l a = joinB (words10 a 4) [46] ++ ⟨#[47]⟩ ++ decB l) := Lib.hid rfl
      have hF := Lib.hid (fun W => rdigits10_any l hl.1 (by omega) W)
      have hcl := hor.cell (pfx_1 1 l a)
      generalize joinB (words10 a 4) [46] = J at *
      generalize decB l = dl at *
      have n0 : ¬ 9223372036854775807 < J.size + 1 := by omega
      have n1 : ¬ 9223372036854775807 < J.size + 1 + dl.size := by omega
      go_wp2_with fail
      refine (hF.out _).mono ?_
      rintro e w2 ⟨rfl, hb2⟩
      have hbr2 := bl_trans hbr hb2
      go_wp2
      go_ret
      exact ⟨by rw [hO.out]; rfl, hbr2⟩
set_option maxRecDepth 100000 in
set_option maxHeartbeats 3200000 in
theorem rptext6 (f l : Int) (hf : ¬ f = 1) (a : List Int) (w : World) (ha : IsAddr a) (hk : pfxOk f l a = true) :
    Calls Tryd.prog 26 #[.agg (pfx f l a)] w fun e w' => e = .returned (.string (ptext6 l a)) ∧ Below w.heap.size w w' := by
  have HS := Lib.hid (pfx_size (f := f) (l := l) ha.1)
  have hl := pfxOk_range hk
  have HK := Lib.hid hk
  have hf1 : (f == 1) = false := by simpa using hf
  have ho := Own.new w 41 (pfx f l a)
  have hb0 := bl_alloc (bl_refl w) (.cells (pfx f l a) 41)
  clear hk hf
  go_enter Tryd.func26, Tryd.ntmps26
  go_wp2_with (refine wpList_load_row rfl 41 _ rfl w.heap.size rfl 41 (pfx f l a) (0, 0) (.struct (Tryd.prog.fieldsOf 41)) (Own.new w _ _) (by kernel_rfl) rfl (by rw [HS.out]; kernel_rfl) ?_)
  refine (rpvalid_any f l a _ ha).mono ?_
  rw [HK.out]
  rintro e w1 ⟨rfl, hb1⟩
  have ho1 := ho.step hb1
  have hb2 := bl_trans hb0 hb1
  have c0 := ho1.cell (pfx_0 f l a)
  clear ho hb0 hb1
  go_wp2_with fail
  go_loopw [3, 5] (fun v i wr => ∃ k : Nat, k ≤ 8 ∧ i = .int .i64 ((2 * k : Nat) : Int) ∧ v = .string (joinB (words16 a k) [58]) ∧ Own wr w.heap.size 41 (pfx f l a) ∧ Below w.heap.size w wr) (fun _ i _ => 16 - (intOf i).toNat)
  case atStart => exact ⟨0, by omega, rfl, rfl, ho1, hb2⟩
  case round =>
    obtain ⟨k, hk8, rfl, rfl, hor, hbr⟩ := hrel
    clear ho1 hb2 c0
    by_cases hlt : k < 8
    · have c1 := cell_regrown (hor.cell ((pfx_at f l a (2 * k)).trans (ha.at_ (i := 2 * k) (by omega)).1))
      have c2 := cell_regrown (hor.cell ((pfx_at f l a (2 * k + 1)).trans (ha.at_ (i := 2 * k + 1) (by omega)).1))
      have hr1 := (ha.at_ (i := 2 * k) (by omega)).2
      have hr2 := (ha.at_ (i := 2 * k + 1) (by omega)).2
      have hwl := word16_le ha hlt
      have hz := w16_size ha (k := k) (by omega)
      have h0 := Lib.hid (fun (h : k = 0) => (show joinB (words16 a (k + 1)) [58] = hexB (word16 a k) by subst h; exact w16_first a))
      have h1 := Lib.hid (fun (h : 0 < k) => w16_next a h)
      have h00 := Lib.hid (fun (h : k = 0) => (show joinB (words16 a k) [58] = ⟨#[]⟩ by subst h; rfl))
      generalize joinB (words16 a k) [58] = J at *
      have hwl2 := hwl.2
      have hdz := hexB_size (n := (word16 a k : Int)) (by omega)
      have hF := Lib.hid (rg_of (w := wr) (fun W _ => rdigits16_any (word16 a k : Int) (by omega) (by omega) W))
      generalize word16 a k = u at *
      generalize hexB (u : Int) = dx at *
      generalize nth a (2 * k) = x at *
      generalize nth a (2 * k + 1) = y at *
      obtain ⟨q, hq⟩ : ∃ q : Nat, q = 2 * k := ⟨_, rfl⟩
      rw [← hq] at c1 c2 ⊢
      have HQ := Lib.hid hq
      have hwx : IntKind.i64.wrap x = x := by rw [IntKind.wrap_i64]; omega
      have hwy : IntKind.i64.wrap y = y := by rw [IntKind.wrap_i64]; omega
      obtain ⟨X8, hX8⟩ : ∃ X8 : Int, X8 = x * 256 := ⟨_, rfl⟩
      have hwX : IntKind.i64.wrap (x * 256) = X8 := by rw [hX8, IntKind.wrap_i64]; omega
      have hwS : IntKind.i64.wrap (X8 + y) = (u : Int) := by rw [hX8, IntKind.wrap_i64]; omega
      have hwq : IntKind.i64.wrap ((q : Int) + 1) = (q : Int) + 1 := by rw [IntKind.wrap_i64]; omega
      have hwq2 : IntKind.i64.wrap ((q : Int) + 2) = (q : Int) + 2 := by rw [IntKind.wrap_i64]; omega
      have hq1 : (q : Int) < 16 := by omega
      have hq2 : (q : Int) + 1 < 16 := by omega
      clear hX8 hwl2 hwl
      rcases Nat.eq_zero_or_pos k with hk0 | hk0
      · have hS := Lib.hid (show joinB (words16 a (k + 1)) [58] = J ++ dx by rw [h0.out hk0, h00.out hk0, ba_nilP])
        have d : decide ((0 : Int) < (q : Int)) = false := by simp; omega
        have d2 : ¬ 0 < q := by omega
        have n1 : ¬ 9223372036854775807 < J.size + dx.size := by omega
        clear hk0 hq
        go_wp2_with fail
        refine wp_region_quiet_below (by kernel_rfl) (by kernel_rfl) ?_
        repeat (go_big_quiet_step (with_reducible first | exact hF.out _ _))
        refine wpQuiet_nil ?_
        first | rintro _ ⟨⟨dq, osq⟩, rfl⟩ | rintro ⟨dq, osq⟩
        have hbX := below_regrown wr dq osq
        have hor2 := hor.step hbX
        have hbr2 := bl_trans hbr hbX
        generalize grow (redrawn wr dq) osq = w2 at *
        go_wp2
        go_roundw
        case rel => exact ⟨k + 1, by omega, by have := HQ.out; go_num, congrArg Value.string hS.out.symm, hor2, hbr2⟩
        case measure => have := HQ.out; simp [intOf]; omega
      · have hS := Lib.hid (h1.out hk0)
        have d : decide ((0 : Int) < (q : Int)) = true := by simp; omega
        have d2 : 0 < q := by omega
        have n0 : ¬ 9223372036854775807 < J.size + 1 := by omega
        have n1 : ¬ 9223372036854775807 < J.size + 1 + dx.size := by omega
        clear hk0 hq
        go_wp2_with fail
        refine wp_region_quiet_below (by kernel_rfl) (by kernel_rfl) ?_
        repeat (go_big_quiet_step (with_reducible first | exact hF.out _ _))
        refine wpQuiet_nil ?_
        first | rintro _ ⟨⟨dq, osq⟩, rfl⟩ | rintro ⟨dq, osq⟩
        have hbX := below_regrown wr dq osq
        have hor2 := hor.step hbX
        have hbr2 := bl_trans hbr hbX
        generalize grow (redrawn wr dq) osq = w2 at *
        go_wp2
        go_roundw
        case rel => exact ⟨k + 1, by omega, by have := HQ.out; go_num, congrArg Value.string hS.out.symm, hor2, hbr2⟩
        case measure => have := HQ.out; simp [intOf]; omega
    · obtain rfl : k = 8 := by omega
      have hz := w16_size ha (k := 8) (by omega)
      have hdz := decB_size (n := l) (by omega)
      have hO : Hid (ptext6 l a = joinB (words16 a 8) [58] ++ ⟨#[47]⟩ ++ decB l) := Lib.hid rfl
      have hF := Lib.hid (fun W => rdigits10_any l hl.1 (by omega) W)
      have hcl := hor.cell (pfx_1 f l a)
      generalize joinB (words16 a 8) [58] = J at *
      generalize decB l = dl at *
      have n0 : ¬ 9223372036854775807 < J.size + 1 := by omega
      have n1 : ¬ 9223372036854775807 < J.size + 1 + dl.size := by omega
      go_wp2_with fail
      refine (hF.out _).mono ?_
      rintro e w2 ⟨rfl, hb2⟩
      have hbr2 := bl_trans hbr hb2
      go_wp2
      go_ret
      exact ⟨by rw [hO.out]; rfl, hbr2⟩
set_option maxRecDepth 100000 in
theorem rptext_no (f l : Int) (a : List Int) (w : World) (ha : IsAddr a) (hk : pfxOk f l a = false) :
    Calls Tryd.prog 26 #[.agg (pfx f l a)] w fun e w' => e = .returned (.string ⟨#[]⟩) ∧ Below w.heap.size w w' := by
  have HS := Lib.hid (pfx_size (f := f) (l := l) ha.1)
  have HK := Lib.hid hk
  have hb0 := bl_alloc (bl_refl w) (.cells (pfx f l a) 41)
  clear hk
  go_enter Tryd.func26, Tryd.ntmps26
  go_wp2_with (refine wpList_load_row rfl 41 _ rfl w.heap.size rfl 41 (pfx f l a) (0, 0) (.struct (Tryd.prog.fieldsOf 41)) (Own.new w _ _) (by kernel_rfl) rfl (by rw [HS.out]; kernel_rfl) ?_)
  refine (rpvalid_any f l a _ ha).mono ?_
  rw [HK.out]
  rintro e w1 ⟨rfl, hb1⟩
  have hb2 := bl_trans hb0 hb1
  go_wp2
  go_ret
  exact ⟨rfl, hb2⟩
set_option maxRecDepth 100000 in
theorem rptext_any (f l : Int) (a : List Int) (w : World) (ha : IsAddr a) :
    Calls Tryd.prog 26 #[.agg (pfx f l a)] w fun e w' => e = .returned (.string (ptxtO f l a)) ∧ Below w.heap.size w w' := by
  unfold ptxtO ptxt
  cases hk : pfxOk f l a with
  | true =>
    by_cases hf : f = 1
    · subst hf
      exact rptext4 l a w ha hk
    · rw [if_pos rfl, if_neg hf]
      exact rptext6 f l hf a w ha hk
  | false => exact rptext_no f l a w ha hk
end Go.Proofs.YtecbbjdcnlocdaaDoor

/- segment.parseNumbers; strconv.ParseUint of 32 bits at any word -/
namespace Go.Proofs.YtecbbjdcnlocdaaDoor
open Go.RowKit Go.Sort
/-- What the library's reading of numbers asks of three variables. -/
def PuOk (w : World) : Prop := ((∃ m : Int, w.cell? ⟨3, 0, none⟩ = some (.int .i64 m)) ∧ 3 < w.heap.size) ∧ ((∃ ev : Value, w.cell? ⟨4, 0, none⟩ = some ev ∧ (ev = .nilIface ∨ ∃ te pe, ev = .iface te pe)) ∧ 4 < w.heap.size) ∧ (∃ ev : Value, w.cell? ⟨5, 0, none⟩ = some ev ∧ (ev = .nilIface ∨ ∃ te pe, ev = .iface te pe)) ∧ 5 < w.heap.size
theorem PuOk.below {w w' : World} (h : PuOk w) (hb : Below w.heap.size w w') : PuOk w' := by
  obtain ⟨⟨⟨m, h1⟩, h2⟩, ⟨⟨ev, h3, h4⟩, h5⟩, ⟨ev2, h6, h7⟩, h8⟩ := h
  have hs := hb.size
  exact ⟨⟨⟨m, (hb.cell (p := ⟨3, 0, none⟩) h2).trans h1⟩, by omega⟩, ⟨⟨ev, (hb.cell (p := ⟨4, 0, none⟩) h5).trans h3, h4⟩, by omega⟩, ⟨ev2, (hb.cell (p := ⟨5, 0, none⟩) h8).trans h6, h7⟩, by omega⟩
/-- What reading a word gives. -/
def PuR (t : ByteArray) (w : World) (e : Ending) (w' : World) : Prop := ((∃ u : Nat, Lib.parseUintB 32 t.data.toList = .ok u ∧ e = .returned (.tuple #[.int .u64 u, .nilIface])) ∨ ((∀ u : Nat, Lib.parseUintB 32 t.data.toList ≠ .ok u) ∧ ∃ (x : Int) (T : TypeId) (N : Nat), e = .returned (.tuple #[.int .u64 x, .iface T (.pointer (some ⟨N, 0, none⟩))]))) ∧ Below w.heap.size w w'
set_option maxRecDepth 100000 in
theorem pu32_any (t : ByteArray) (ht : t.size ≤ 1000000) (w : World) (hz : PuOk w) :
    Calls Tryd.prog 65 #[.string t, .int .i64 10, .int .i64 32] w fun e w' => PuR t w e w' := by
  obtain ⟨_, ⟨⟨ev, h3, h4⟩, h5⟩, ⟨ev2, h6, h7⟩, h8⟩ := hz
  cases hp : Lib.parseUintB 32 t.data.toList with
  | ok u =>
    refine (Tryd.strconv_ParseUint_10_at32_ok t (by omega) u hp w).mono ?_
    rintro e w' ⟨rfl, rfl | rfl⟩
    · exact ⟨.inl ⟨u, hp, rfl⟩, bl_refl _⟩
    · exact ⟨.inl ⟨u, hp, rfl⟩, Joins.below_bytesWorld _ _ _ _ (Nat.le_refl _)⟩
  | range =>
    refine (Tryd.strconv_ParseUint_10_at32_range t (by omega) hp ev2 w h6 h7).mono ?_
    rintro e w' ⟨N, rfl, _, _, hb⟩
    exact ⟨.inr ⟨by rw [hp]; simp, _, _, N, rfl⟩, hb⟩
  | _ =>
    refine (Tryd.strconv_ParseUint_10_at32_syntax t (by omega) (hp.trans (if_pos rfl).symm) ev w h3 h4).mono ?_
    rintro e w' ⟨N, rfl, _, _, hb⟩
    exact ⟨.inr ⟨by rw [hp]; simp, _, _, N, rfl⟩, hb⟩
theorem wordsP_no {w : List UInt8} {ws : List (List UInt8)} (h : ∀ u : Nat, Lib.parseUintB 32 w ≠ .ok u) : wordsP (w :: ws) = none := by
  rw [wordsP]
  cases hp : Lib.parseUintB 32 w with
  | ok u => exact absurd hp (h u)
  | range => rfl
  | _ => rfl
theorem wordsP_ok {w : List UInt8} {ws : List (List UInt8)} {u : Nat} (h : Lib.parseUintB 32 w = .ok u) : wordsP (w :: ws) = (wordsP ws).map (u :: ·) := by rw [wordsP, h]
theorem uintM_le (M : Nat) : ∀ (l : List UInt8) (acc u : Nat), acc ≤ M → Lib.parseUintM M acc l = .ok u → u ≤ M
  | [], acc, u, ha, h => by
    rw [Lib.parseUintM] at h
    cases h
    exact ha
  | c :: r, acc, u, ha, h => by
    rw [Lib.parseUintM] at h
    split at h
    · split at h
      · cases h
      · split at h
        · cases h
        · exact uintM_le M r _ u (by omega) h
    · cases h
theorem uintB_le {l : List UInt8} {u : Nat} (h : Lib.parseUintB 32 l = .ok u) : u ≤ 4294967295 := by
  unfold Lib.parseUintB at h
  split at h
  · cases h
  · exact uintM_le 4294967295 l 0 u (Nat.zero_le _) h
/-- How many words are read. -/
def WCome (ws : List (List UInt8)) (q : Nat) (N0 : List Nat) : Prop := N0.length = q ∧ wordsP ws = (wordsP (ws.drop q)).map (N0 ++ ·)
theorem WCome.start (ws : List (List UInt8)) : WCome ws 0 [] := ⟨rfl, by rw [List.drop_zero]; cases wordsP ws <;> rfl⟩
theorem WCome.step {ws : List (List UInt8)} {q : Nat} {N0 : List Nat} {w : List UInt8} {u : Nat} (h : WCome ws q N0) (hq : ws[q]? = some w) (hu : Lib.parseUintB 32 w = .ok u) : WCome ws (q + 1) (N0 ++ [u]) := by
  obtain ⟨h1, h2⟩ := h
  have hl : q < ws.length := by
    by_cases hl : q < ws.length
    · exact hl
    · rw [List.getElem?_eq_none (by omega)] at hq; cases hq
  have hd : ws.drop q = w :: ws.drop (q + 1) := by
    rw [List.drop_eq_getElem_cons hl]
    congr 1
    rw [List.getElem?_eq_getElem hl] at hq
    exact Option.some.inj hq
  refine ⟨by rw [List.length_append, h1]; rfl, ?_⟩
  rw [h2, hd, wordsP_ok hu]
  cases wordsP (ws.drop (q + 1)) <;> simp
theorem WCome.bad {ws : List (List UInt8)} {q : Nat} {N0 : List Nat} {w : List UInt8} (h : WCome ws q N0) (hq : ws[q]? = some w) (hu : ∀ u : Nat, Lib.parseUintB 32 w ≠ .ok u) : wordsP ws = none := by
  obtain ⟨h1, h2⟩ := h
  have hl : q < ws.length := by
    by_cases hl : q < ws.length
    · exact hl
    · rw [List.getElem?_eq_none (by omega)] at hq; cases hq
  have hd : ws.drop q = w :: ws.drop (q + 1) := by
    rw [List.drop_eq_getElem_cons hl]
    congr 1
    rw [List.getElem?_eq_getElem hl] at hq
    exact Option.some.inj hq
  rw [h2, hd, wordsP_no hu]
  rfl
theorem WCome.done {ws : List (List UInt8)} {N0 : List Nat} (h : WCome ws ws.length N0) : wordsP ws = some N0 := by
  obtain ⟨_, h2⟩ := h
  rw [h2, List.drop_length]
  simp [wordsP]
theorem splitB_size (sep : ByteArray) (save : Nat) : ∀ (k : Nat) (s x : ByteArray), x ∈ Lib.splitB sep save k s → x.size ≤ s.size
  | 0, s, x, h => by
    rw [Lib.splitB_zero, List.mem_singleton] at h
    rw [h]; exact Nat.le_refl _
  | k + 1, s, x, h => by
    unfold Lib.splitB at h
    split at h
    · rw [List.mem_singleton] at h
      rw [h]; exact Nat.le_refl _
    · rcases List.mem_cons.1 h with rfl | h
      · rw [ByteArray.size_extract]; omega
      · have h2 := splitB_size sep save k _ x h
        rw [ByteArray.size_extract] at h2
        omega
/-- What parseNumbers leaves. -/
def PNumR (t : ByteArray) (w : World) (e : Ending) (w' : World) : Prop := ∃ (v : Value) (N : List Nat) (q : Bool), e = .returned (.tuple #[v, .bool q]) ∧ w'.ownsRow (w.heap.size + 1) 51 1 v N.length (N.map fun y : Nat => Value.int .u32 (y : Int)) ∧ Below w.heap.size w w' ∧ ((q = true ∧ wordsP (Lib.split t.data.toList [32]) = some N ∧ ∀ y ∈ N, y ≤ 4294967295) ∨ (q = false ∧ wordsP (Lib.split t.data.toList [32]) = none ∧ N = []))
set_option maxRecDepth 100000 in
set_option maxHeartbeats 3200000 in
theorem pnum_any (t : ByteArray) (ht : t.size ≤ 1000000) (w : World) (hz : PuOk w) :
    Calls Tryd.prog 85 #[.string t] w fun e w' => PNumR t w e w' := by
  obtain ⟨m, hm⟩ := hz.1.1
  have hSp := Lib.hid (Tryd.strings_Split t ⟨#[32]⟩ m w (by omega) hm (by decide))
  have hlen : (Lib.splitB ⟨#[32]⟩ 0 (Lib.countB t ⟨#[32]⟩) t).length = Lib.countB t ⟨#[32]⟩ + 1 := Lib.splitB_all _ (by decide) 0 _ t rfl
  have hmap : (Lib.splitB ⟨#[32]⟩ 0 (Lib.countB t ⟨#[32]⟩) t).map (·.data.toList) = Lib.split t.data.toList [32] := by rw [Lib.splitB_data]; rfl
  have hsz : ∀ x ∈ Lib.splitB ⟨#[32]⟩ 0 (Lib.countB t ⟨#[32]⟩) t, x.size ≤ t.size := fun x hx => splitB_size _ _ _ _ x hx
  have hcl := Lib.countB_le ⟨#[32]⟩ (by decide) t.size t (Nat.le_refl _)
  generalize Lib.splitB ⟨#[32]⟩ 0 (Lib.countB t ⟨#[32]⟩) t = Ws at *
  generalize Lib.countB t ⟨#[32]⟩ = k at *
  have HM := Lib.hid hmap
  have HS := Lib.hid hsz
  have HL := Lib.hid (And.intro hlen hcl)
  have HZ := Lib.hid hz
  have HT := Lib.hid ht
  have hbX := bl_alloc (bl_refl w) (.cells (Ws.map Value.string).toArray 9)
  have oW := Own.new w 9 (Ws.map Value.string).toArray
  have hXs : (w.alloc (.cells (Ws.map Value.string).toArray 9)).heap.size = w.heap.size + 1 := by simp
  have HX := Lib.hid hXs
  clear hmap hsz hlen hcl hz hm ht hXs
  go_enter Tryd.func85, Tryd.ntmps85
  go_wp2_with fail
  refine hSp.out.mono ?_
  rintro e w1 ⟨rfl, rfl⟩
  clear hSp
  generalize w.alloc (.cells (Ws.map Value.string).toArray 9) = X at *
  go_wp2_with fail
  go_loopw [4, 12] (fun v i wr => ∃ (q : Nat) (N0 : List Nat), q ≤ k + 1 ∧ i = .int .i64 q ∧ wr.ownsRow (w.heap.size + 1) 51 1 v N0.length (N0.map fun y : Nat => Value.int .u32 (y : Int)) ∧ Own wr w.heap.size 9 (Ws.map Value.string).toArray ∧ Below w.heap.size w wr ∧ Hid (WCome (Ws.map (·.data.toList)) q N0 ∧ ∀ y ∈ N0, y ≤ 4294967295)) (fun _ i _ => k + 1 - (intOf i).toNat)
  case atStart => exact ⟨0, [], Nat.zero_le _, rfl, World.ownsRow_nil _ _ _ _, oW, hbX, Lib.hid ⟨WCome.start _, fun _ h => by cases h⟩⟩
  case round =>
    obtain ⟨q, N0, hq, rfl, hrow, oWr, hb, hcome⟩ := hrel
    obtain ⟨A0, c0, rfl⟩ := own_form hrow
    clear oW hbX
    by_cases hlt : q < k + 1
    · have hql : q < Ws.length := by have := HL.out.1; omega
      obtain ⟨x, hx⟩ : ∃ x, Ws[q]? = some x := ⟨_, List.getElem?_eq_getElem hql⟩
      have hcx : wr.cell? ⟨w.heap.size, q, none⟩ = some (.string x) := oWr.cell (by simp [hx])
      have hxs : x.size ≤ 1000000 := Nat.le_trans (HS.out x (List.mem_of_getElem? hx)) HT.out
      have hx2 : (Ws.map (·.data.toList))[q]? = some x.data.toList := by rw [List.getElem?_map, hx]; rfl
      have hP := Lib.hid (pu32_any x hxs wr (HZ.out.below hb))
      have HX2 := Lib.hid hx2
      have HRow := Lib.hid hrow
      have HOW := Lib.hid oWr
      have HB := Lib.hid hb
      have hN := Lib.hid hcome.out.1.1
      have HLQ := Lib.hid (And.intro hql hlt)
      clear hx hx2 hxs hrow oWr hb hql
      have d1 : (q : Int) < (k : Int) + 1 := by omega
      have hk6 : q ≤ 1000001 := by have := HL.out.2; have := HT.out; omega
      go_wp2_with fail
      refine hP.out.mono ?_
      rintro e w2 ⟨hu | ⟨hu, y, T, N, rfl⟩, hb2⟩
      · obtain ⟨u, hu1, rfl⟩ := hu
        have hu2 := uintB_le hu1
        have wu : IntKind.u32.wrap (u : Int) = (u : Int) := by rw [IntKind.wrap_u32]; omega
        have hrow2 := own_belowA HRow.out hb2
        have oW2 := HOW.out.step hb2
        have hb3 := bl_trans HB.out hb2
        have hs3 := hb3.size
        have HC2 := Lib.hid (hcome.out.1.step HX2.out hu1)
        have HC3 := Lib.hid hcome.out.2
        have HU := Lib.hid hu2
        have HNL := Lib.hid (show N0.length ≤ 1000001 by have := hN.out; have := HL.out.2; have := HT.out; omega)
        clear hu1 hu2 hcx hcome hP
        go_wp2_with (at_builtin; refine wpList_append_grow _ rfl _ _ rfl sl_u32 (w.heap.size + 1) _ _ _ rfl (hrow2.alloc _) (w2.heap.size + 1) (some ⟨w2.heap.size, 0, none⟩) 1 1 [_] rfl rfl (Shows.of_owned (Own.new _ _ _) (by simp)) (one1 rfl) (by unfold maxLen; have := HNL.out; omega) (by have := HNL.out; omega) (by simp; have := oW2.lt; omega) ?_; intro v3 w3 hrow3 hg3)
        have oW3 := (oW2.alloc (.cells #[.int .u32 (u : Int)] 51)).grown hg3 (fun e => by have := own_base hrow2 _ e.symm; omega)
        have hb4 : Below w.heap.size w w3 := (hb3.alloc hs3 _).grown hg3 (by simp; omega) (fun j hj => by have := own_base hrow2 j hj; omega)
        go_roundw
        case rel => exact ⟨q + 1, N0 ++ [u], by omega, by go_num, by rw [List.length_append, List.map_append]; exact hrow3, oW3, hb4, Lib.hid ⟨HC2.out, fun y hy => by
          rcases List.mem_append.1 hy with hy | hy
          · exact HC3.out y hy
          · rw [List.mem_singleton] at hy; rw [hy]; exact HU.out⟩⟩
        case measure => simp [intOf]; omega
      · have hR := Lib.hid (show wordsP (Lib.split t.data.toList [32]) = none by rw [← HM.out]; exact hcome.out.1.bad HX2.out hu)
        have hb3 := bl_trans HB.out hb2
        clear hcx hcome hP hu
        go_wp2
        go_ret2
        exact ⟨_, [], false, rfl, World.ownsRow_nil _ _ _ _, hb3, .inr ⟨rfl, hR.out, rfl⟩⟩
    · have hqe : q = (Ws.map (·.data.toList)).length := by rw [List.length_map]; have := HL.out.1; omega
      have hc1 := hcome.out.1
      rw [hqe] at hc1
      have hR := Lib.hid (show wordsP (Lib.split t.data.toList [32]) = some N0 by rw [← HM.out]; exact hc1.done)
      have hN3 := Lib.hid hcome.out.2
      have HRow := Lib.hid hrow
      have d1 : ¬ ((q : Int) < (k : Int) + 1) := by omega
      clear hqe hc1 hcome hrow oWr
      go_wp2
      go_ret2
      exact ⟨_, N0, true, rfl, HRow.out, hb, .inl ⟨rfl, hR.out, hN3.out⟩⟩
end Go.Proofs.YtecbbjdcnlocdaaDoor

/- strconv.ParseUint at base 16 and 16 bits -/
namespace Go.Proofs.YtecbbjdcnlocdaaDoor
open Go.RowKit Go.Sort
/-- A byte as lower finds it. -/
def lowB (c : UInt8) : Int := bits .or .u8 (c.toNat : Int) 32
/-- A digit's value. -/
def hexV (c : UInt8) : Option Nat := if 48 ≤ c.toNat ∧ c.toNat ≤ 57 then some (c.toNat - 48) else if 97 ≤ lowB c ∧ lowB c ≤ 102 then some (lowB c - 87).toNat else none
def hexU : Nat → List UInt8 → Option Nat
  | acc, [] => some acc
  | acc, c :: r => match hexV c with
    | some d => if acc * 16 + d ≤ 65535 then hexU (acc * 16 + d) r else none
    | none => none
/-- The number that a word spells at base 16, if two bytes hold it. -/
def hexU16 (s : List UInt8) : Option Nat := if s = [] then none else hexU 0 s
theorem hexU_step {acc d : Nat} {c : UInt8} {r : List UInt8} (h : hexV c = some d) (h2 : acc * 16 + d ≤ 65535) : hexU acc (c :: r) = hexU (acc * 16 + d) r := by
  rw [hexU, h]; exact if_pos h2
theorem hexU_over {acc d : Nat} {c : UInt8} {r : List UInt8} (h : hexV c = some d) (h2 : ¬ acc * 16 + d ≤ 65535) : hexU acc (c :: r) = none := by
  rw [hexU, h]; exact if_neg h2
theorem hexU_bad {acc : Nat} {c : UInt8} {r : List UInt8} (h : hexV c = none) : hexU acc (c :: r) = none := by rw [hexU, h]
theorem low_range : ∀ n, n < 256 → 0 ≤ bits .or .u8 ((n : Nat) : Int) 32 ∧ bits .or .u8 ((n : Nat) : Int) 32 ≤ 255 := by decide +kernel
theorem lowB_range (c : UInt8) : 0 ≤ lowB c ∧ lowB c ≤ 255 := low_range c.toNat c.toNat_lt
/-- What the inner reading gives. -/
def IPu (t : ByteArray) (w : World) (e : Ending) (w' : World) : Prop := ((∃ u : Nat, hexU16 t.data.toList = some u ∧ u ≤ 65535 ∧ e = .returned (.tuple #[.int .u64 (u : Int), .nilIface])) ∨ (hexU16 t.data.toList = none ∧ ∃ (x c : Int), (c = 1 ∨ c = 2) ∧ e = .returned (.tuple #[.int .u64 x, .iface 153 (.int .i64 c)]))) ∧ Below w.heap.size w w'
theorem IPu.bad {t : ByteArray} {w w' : World} {x c : Int} (h : hexU16 t.data.toList = none) (hc : c = 1 ∨ c = 2) (hb : Below w.heap.size w w') : IPu t w (.returned (.tuple #[.int .u64 x, .iface 153 (.int .i64 c)])) w' := ⟨.inr ⟨h, x, c, hc, rfl⟩, hb⟩
set_option maxRecDepth 100000 in
set_option maxHeartbeats 6400000 in
theorem ipu16_any (t : ByteArray) (ht : t.size ≤ 1000000) (w : World) :
    Calls Tryd.prog 90 #[.string t, .int .i64 16, .int .i64 16] w fun e w' => IPu t w e w' := by
  by_cases hte : t = ⟨#[]⟩
  · subst hte
    have hne : (⟨#[]⟩ : ByteArray).toList = [] := by rw [ByteArray.toList_eq]
    have hne2 : (⟨#[]⟩ : ByteArray).toList.isEmpty = true := by rw [hne]; rfl
    go_enter Tryd.func90, Tryd.ntmps90
    go_wp2
    go_ret2
    exact IPu.bad rfl (.inr rfl) (bl_refl _)
  · have hne2 : t.toList.isEmpty = false := by
      cases e : t.toList with
      | nil =>
        exfalso
        apply hte
        rw [ByteArray.toList_eq] at e
        obtain ⟨d⟩ := t
        have : d = #[] := by simpa using e
        rw [this]
      | cons a l => rfl
    have hne : ¬ t.toList = [] := fun e => by rw [e] at hne2; cases hne2
    have hU : Hid (hexU16 t.data.toList = hexU 0 t.data.toList) := Lib.hid (by unfold hexU16; rw [if_neg (by rw [ByteArray.toList_eq] at hne; exact hne)])
    have hcv : ∀ W, (convert 9 25 (.string t)).run Tryd.prog W = .ok (.slice (some ⟨W.heap.size, 0, none⟩) t.size (grownCap W t.size 0 5)) (Lib.bytesWorld W 5 t) := fun W => Lib.run_convert_string_bytes W 9 25 5 t Tryd.underlying9 Tryd.underlying25 Tryd.underlying5
    have hbw := Joins.below_bytesWorld w.heap.size w 5 t (Nat.le_refl _)
    have hcell := Lib.hid (fun j (hj : j < t.size) => Lib.bytesWorld_cell w 5 t j hj)
    have HT := Lib.hid ht
    clear hte ht
    go_enter Tryd.func90, Tryd.ntmps90
    go_wp2_with fail
    generalize Lib.bytesWorld w 5 t = WB at *
    go_loopw [12, 13, 101] (fun us nv iv wr => (∃ (j n : Nat), us = .bool false ∧ iv = .int .i64 (j : Int) ∧ nv = .int .u64 (n : Int) ∧ j ≤ t.size ∧ n ≤ 65535 ∧ Hid (hexU16 t.data.toList = hexU n (t.data.toList.drop j))) ∧ wr = WB) (fun _ _ iv _ => t.size - (intOf iv).toNat)
    case atStart => exact ⟨⟨0, 0, rfl, rfl, rfl, Nat.zero_le _, by omega, hU⟩, rfl⟩
    case round =>
      obtain ⟨⟨j, n, rfl, rfl, rfl, hj, hn, hcome⟩, rfl⟩ := hrel
      have hTs := HT.out
      by_cases hlt : j < t.size
      · obtain ⟨cb, hc0, hst0⟩ : ∃ cb : UInt8, wr.cell? ⟨w.heap.size, j, none⟩ = some (.int .u8 (cb.toNat : Int)) ∧ hexU16 t.data.toList = hexU n (cb :: t.data.toList.drop (j + 1)) := by
          have hl : j < t.data.toList.length := by rw [Array.length_toList]; exact hlt
          have hc0 := hcell.out j hlt
          rw [List.getD_eq_getElem?_getD, List.getElem?_eq_getElem hl, Option.getD_some] at hc0
          exact ⟨_, hc0, by rw [hcome.out]; exact congrArg (hexU n) (List.getElem_cons_drop hl).symm⟩
        have hst := Lib.hid hst0
        clear hst0 hcome
        have hcb : cb.toNat < 256 := cb.toNat_lt
        have hlr := lowB_range cb
        have hV : Hid (hexV cb = if 48 ≤ cb.toNat ∧ cb.toNat ≤ 57 then some (cb.toNat - 48) else if 97 ≤ lowB cb ∧ lowB cb ≤ 102 then some (lowB cb - 87).toNat else none) := Lib.hid rfl
        have hlow := Lib.hid (fun (W : World) => (show Calls Tryd.prog 118 #[.int .u8 (cb.toNat : Int)] W fun e w' => e = .returned (.int .u8 (lowB cb)) ∧ W = w' from (Tryd.internal_strconv_lower (cb.toNat : Int) W).mono fun e w' ⟨h1, h2⟩ => ⟨h1, h2.symm⟩))
        have hnc : ((1152921504606846976 : Int) ≤ (n : Int)) = False := eq_false (by omega)
        obtain ⟨N16, hN16⟩ : ∃ N16 : Int, N16 = (n : Int) * 16 := ⟨_, rfl⟩
        have hw16 : IntKind.u64.wrap ((n : Int) * 16) = N16 := by rw [hN16, IntKind.wrap_u64]; omega
        have HN16 := Lib.hid hN16
        clear hN16
        generalize hml : (cb.toNat : Int) = m at *
        generalize hll : lowB cb = l at *
        have h95 : Hid (m = 95 → ¬ (48 ≤ m ∧ m ≤ 57) ∧ l = 127) := Lib.hid (fun e => ⟨by omega, by rw [← hll]; unfold lowB; rw [hml, e]; kernel_rfl⟩)
        by_cases hdg : 48 ≤ m ∧ m ≤ 57
        · obtain ⟨hg1, hg2⟩ := hdg
          have hm95 : ¬ m = 95 := by omega
          have hm95b : (m == 95) = false := by simpa using hm95
          obtain ⟨d, hdd⟩ : ∃ d : Int, d = m - 48 := ⟨_, rfl⟩
          have hwr : IntKind.u8.wrap (m - 48) = d := by rw [IntKind.wrap_u8]; omega
          have hd := Lib.hid (show hexV cb = some d.toNat ∧ 0 ≤ d ∧ d < 16 by
            refine ⟨?_, by omega, by omega⟩
            rw [hV.out, if_pos ⟨by omega, by omega⟩]
            congr 1
            omega)
          clear hdd h95
          have hwd : IntKind.u64.wrap d = d := by rw [IntKind.wrap_u64]; have := hd.out; omega
          obtain ⟨N1, hN1⟩ : ∃ N1 : Int, N1 = N16 + d := ⟨_, rfl⟩
          have hN1w : IntKind.u64.wrap (N16 + d) = N1 := by rw [hN1, IntKind.wrap_u64]; have := hd.out; have := HN16.out; omega
          have HN1 := Lib.hid (And.intro hN1 HN16.out)
          clear hN1
          have hge : ¬ N1 < N16 := by have := hd.out; have := HN1.out; omega
          have hd16 : ¬ (16 : Int) ≤ d := by have := hd.out; omega
          have hE3 : ((16 : Int) ≤ d) = False := eq_false hd16
          have hE4 : (N1 < N16) = False := eq_false hge
          by_cases hr : 65535 < N1
          · have hE5 : ((65535 : Int) < N1) = True := eq_true hr
            have hR := Lib.hid (show hexU16 t.data.toList = none by rw [hst.out]; exact hexU_over hd.out.1 (by have := hd.out; have := HN1.out; omega))
            clear hst hd hlr hV hml hll
            go_wp2
            go_ret2
            exact IPu.bad hR.out (.inl rfl) hbw
          · have hE5 : ((65535 : Int) < N1) = False := eq_false hr
            have hR := Lib.hid (show hexU16 t.data.toList = hexU N1.toNat (t.data.toList.drop (j + 1)) by
              rw [hst.out, hexU_step hd.out.1 (by have := hd.out; have := HN1.out; omega)]
              congr 1
              have := hd.out
              have := HN1.out
              omega)
            have hNN := Lib.hid (show 0 ≤ N1 ∧ N1 ≤ 65535 by have := hd.out; have := HN1.out; omega)
            clear hst hd hlr hV hml hll
            go_wp2
            go_roundw
            case rel => exact ⟨⟨j + 1, N1.toNat, rfl, by go_num, by rw [Int.toNat_of_nonneg hNN.out.1], by omega, by have := hNN.out; omega, hR⟩, trivial⟩
            case measure => simp [intOf]; omega
        · have hnd : Hid (¬ (48 ≤ cb.toNat ∧ cb.toNat ≤ 57)) := Lib.hid (fun h => hdg ⟨by omega, by omega⟩)
          by_cases h97 : 97 ≤ l ∧ l ≤ 122
          · obtain ⟨hg1, hg2⟩ := h97
            have hE1 : ((97 : Int) ≤ l) = True := eq_true hg1
            have hE2 : (l ≤ 122) = True := eq_true hg2
            have hm95 : ¬ m = 95 := fun e => by have := h95.out e; omega
            have hm95b : (m == 95) = false := by simpa using hm95
            clear h95
            obtain ⟨q, hq⟩ : ∃ q : Int, q = l - 97 := ⟨_, rfl⟩
            obtain ⟨d, hdd⟩ : ∃ d : Int, d = q + 10 := ⟨_, rfl⟩
            have hwr : IntKind.u8.wrap (l - 97) = q := by rw [IntKind.wrap_u8]; omega
            have hwr2 : IntKind.u8.wrap (q + 10) = d := by rw [IntKind.wrap_u8]; omega
            have hdr := Lib.hid (show 10 ≤ d ∧ d ≤ 35 ∧ d = l - 87 by omega)
            clear hq hdd
            by_cases h102 : l ≤ 102
            · have hd := Lib.hid (show hexV cb = some d.toNat ∧ 0 ≤ d ∧ d < 16 by
                have h3 := hdr.out
                refine ⟨?_, by omega, by omega⟩
                rw [hV.out, if_neg hnd.out, if_pos ⟨hg1, h102⟩, h3.2.2])
              clear hdr hnd
              by_cases h48 : 48 ≤ m
              · have h57 : (m ≤ 57) = False := eq_false (fun h => hdg ⟨h48, h⟩)
                clear hdg
                have hwd : IntKind.u64.wrap d = d := by rw [IntKind.wrap_u64]; have := hd.out; omega
                obtain ⟨N1, hN1⟩ : ∃ N1 : Int, N1 = N16 + d := ⟨_, rfl⟩
                have hN1w : IntKind.u64.wrap (N16 + d) = N1 := by rw [hN1, IntKind.wrap_u64]; have := hd.out; have := HN16.out; omega
                have HN1 := Lib.hid (And.intro hN1 HN16.out)
                clear hN1
                have hge : ¬ N1 < N16 := by have := hd.out; have := HN1.out; omega
                have hd16 : ¬ (16 : Int) ≤ d := by have := hd.out; omega
                have hE3 : ((16 : Int) ≤ d) = False := eq_false hd16
                have hE4 : (N1 < N16) = False := eq_false hge
                by_cases hr : 65535 < N1
                · have hE5 : ((65535 : Int) < N1) = True := eq_true hr
                  have hR := Lib.hid (show hexU16 t.data.toList = none by rw [hst.out]; exact hexU_over hd.out.1 (by have := hd.out; have := HN1.out; omega))
                  clear hst hd hlr hV hml hll
                  go_wp2_with fail
                  refine (hlow.out _).mono ?_
                  rintro e w2 ⟨rfl, rfl⟩
                  go_wp2_with fail
                  refine (hlow.out _).mono ?_
                  rintro e w2 ⟨rfl, rfl⟩
                  go_wp2_with fail
                  refine (hlow.out _).mono ?_
                  rintro e w2 ⟨rfl, rfl⟩
                  go_wp2
                  go_ret2
                  exact IPu.bad hR.out (.inl rfl) hbw
                · have hE5 : ((65535 : Int) < N1) = False := eq_false hr
                  have hR := Lib.hid (show hexU16 t.data.toList = hexU N1.toNat (t.data.toList.drop (j + 1)) by
                    rw [hst.out, hexU_step hd.out.1 (by have := hd.out; have := HN1.out; omega)]
                    congr 1
                    have := hd.out
                    have := HN1.out
                    omega)
                  have hNN := Lib.hid (show 0 ≤ N1 ∧ N1 ≤ 65535 by have := hd.out; have := HN1.out; omega)
                  clear hst hd hlr hV hml hll
                  go_wp2_with fail
                  refine (hlow.out _).mono ?_
                  rintro e w2 ⟨rfl, rfl⟩
                  go_wp2_with fail
                  refine (hlow.out _).mono ?_
                  rintro e w2 ⟨rfl, rfl⟩
                  go_wp2_with fail
                  refine (hlow.out _).mono ?_
                  rintro e w2 ⟨rfl, rfl⟩
                  go_wp2
                  go_roundw
                  case rel => exact ⟨⟨j + 1, N1.toNat, rfl, by go_num, by rw [Int.toNat_of_nonneg hNN.out.1], by omega, by have := hNN.out; omega, hR⟩, trivial⟩
                  case measure => simp [intOf]; omega
              · clear hdg
                have hwd : IntKind.u64.wrap d = d := by rw [IntKind.wrap_u64]; have := hd.out; omega
                obtain ⟨N1, hN1⟩ : ∃ N1 : Int, N1 = N16 + d := ⟨_, rfl⟩
                have hN1w : IntKind.u64.wrap (N16 + d) = N1 := by rw [hN1, IntKind.wrap_u64]; have := hd.out; have := HN16.out; omega
                have HN1 := Lib.hid (And.intro hN1 HN16.out)
                clear hN1
                have hge : ¬ N1 < N16 := by have := hd.out; have := HN1.out; omega
                have hd16 : ¬ (16 : Int) ≤ d := by have := hd.out; omega
                have hE3 : ((16 : Int) ≤ d) = False := eq_false hd16
                have hE4 : (N1 < N16) = False := eq_false hge
                by_cases hr : 65535 < N1
                · have hE5 : ((65535 : Int) < N1) = True := eq_true hr
                  have hR := Lib.hid (show hexU16 t.data.toList = none by rw [hst.out]; exact hexU_over hd.out.1 (by have := hd.out; have := HN1.out; omega))
                  clear hst hd hlr hV hml hll
                  go_wp2_with fail
                  refine (hlow.out _).mono ?_
                  rintro e w2 ⟨rfl, rfl⟩
                  go_wp2_with fail
                  refine (hlow.out _).mono ?_
                  rintro e w2 ⟨rfl, rfl⟩
                  go_wp2_with fail
                  refine (hlow.out _).mono ?_
                  rintro e w2 ⟨rfl, rfl⟩
                  go_wp2
                  go_ret2
                  exact IPu.bad hR.out (.inl rfl) hbw
                · have hE5 : ((65535 : Int) < N1) = False := eq_false hr
                  have hR := Lib.hid (show hexU16 t.data.toList = hexU N1.toNat (t.data.toList.drop (j + 1)) by
                    rw [hst.out, hexU_step hd.out.1 (by have := hd.out; have := HN1.out; omega)]
                    congr 1
                    have := hd.out
                    have := HN1.out
                    omega)
                  have hNN := Lib.hid (show 0 ≤ N1 ∧ N1 ≤ 65535 by have := hd.out; have := HN1.out; omega)
                  clear hst hd hlr hV hml hll
                  go_wp2_with fail
                  refine (hlow.out _).mono ?_
                  rintro e w2 ⟨rfl, rfl⟩
                  go_wp2_with fail
                  refine (hlow.out _).mono ?_
                  rintro e w2 ⟨rfl, rfl⟩
                  go_wp2_with fail
                  refine (hlow.out _).mono ?_
                  rintro e w2 ⟨rfl, rfl⟩
                  go_wp2
                  go_roundw
                  case rel => exact ⟨⟨j + 1, N1.toNat, rfl, by go_num, by rw [Int.toNat_of_nonneg hNN.out.1], by omega, by have := hNN.out; omega, hR⟩, trivial⟩
                  case measure => simp [intOf]; omega
            · have hR := Lib.hid (show hexU16 t.data.toList = none by rw [hst.out]; exact hexU_bad (by rw [hV.out, if_neg hnd.out, if_neg (fun h => h102 h.2)]))
              have hd16 : (16 : Int) ≤ d := by have := hdr.out; omega
              have hE3 : ((16 : Int) ≤ d) = True := eq_true hd16
              clear hst hdr hlr hV hml hll hnd
              by_cases h48 : 48 ≤ m
              · have h57 : (m ≤ 57) = False := eq_false (fun h => hdg ⟨h48, h⟩)
                clear hdg
                go_wp2_with fail
                refine (hlow.out _).mono ?_
                rintro e w2 ⟨rfl, rfl⟩
                go_wp2_with fail
                refine (hlow.out _).mono ?_
                rintro e w2 ⟨rfl, rfl⟩
                go_wp2_with fail
                refine (hlow.out _).mono ?_
                rintro e w2 ⟨rfl, rfl⟩
                go_wp2
                go_ret2
                exact IPu.bad hR.out (.inr rfl) hbw
              · clear hdg
                go_wp2_with fail
                refine (hlow.out _).mono ?_
                rintro e w2 ⟨rfl, rfl⟩
                go_wp2_with fail
                refine (hlow.out _).mono ?_
                rintro e w2 ⟨rfl, rfl⟩
                go_wp2_with fail
                refine (hlow.out _).mono ?_
                rintro e w2 ⟨rfl, rfl⟩
                go_wp2
                go_ret2
                exact IPu.bad hR.out (.inr rfl) hbw
          · have hR := Lib.hid (show hexU16 t.data.toList = none by rw [hst.out]; exact hexU_bad (by rw [hV.out, if_neg hnd.out, if_neg (fun h => h97 ⟨h.1, by omega⟩)]))
            clear hst hlr hV hml hll hnd h95
            by_cases hg1 : 97 ≤ l
            · have hg2 : ¬ l ≤ 122 := fun h => h97 ⟨hg1, h⟩
              have hE1 : ((97 : Int) ≤ l) = True := eq_true hg1
              have hE2 : (l ≤ 122) = False := eq_false hg2
              clear h97
              by_cases h48 : 48 ≤ m
              · have h57 : (m ≤ 57) = False := eq_false (fun h => hdg ⟨h48, h⟩)
                clear hdg
                by_cases h9 : m = 95
                · have hm95b : (m == 95) = true := by simpa using h9
                  clear h9
                  go_wp2_with fail
                  refine (hlow.out _).mono ?_
                  rintro e w2 ⟨rfl, rfl⟩
                  go_wp2_with fail
                  refine (hlow.out _).mono ?_
                  rintro e w2 ⟨rfl, rfl⟩
                  go_wp2
                  go_ret2
                  exact IPu.bad hR.out (.inr rfl) hbw
                · have hm95b : (m == 95) = false := by simpa using h9
                  go_wp2_with fail
                  refine (hlow.out _).mono ?_
                  rintro e w2 ⟨rfl, rfl⟩
                  go_wp2_with fail
                  refine (hlow.out _).mono ?_
                  rintro e w2 ⟨rfl, rfl⟩
                  go_wp2
                  go_ret2
                  exact IPu.bad hR.out (.inr rfl) hbw
              · clear hdg
                by_cases h9 : m = 95
                · have hm95b : (m == 95) = true := by simpa using h9
                  clear h9
                  go_wp2_with fail
                  refine (hlow.out _).mono ?_
                  rintro e w2 ⟨rfl, rfl⟩
                  go_wp2_with fail
                  refine (hlow.out _).mono ?_
                  rintro e w2 ⟨rfl, rfl⟩
                  go_wp2
                  go_ret2
                  exact IPu.bad hR.out (.inr rfl) hbw
                · have hm95b : (m == 95) = false := by simpa using h9
                  go_wp2_with fail
                  refine (hlow.out _).mono ?_
                  rintro e w2 ⟨rfl, rfl⟩
                  go_wp2_with fail
                  refine (hlow.out _).mono ?_
                  rintro e w2 ⟨rfl, rfl⟩
                  go_wp2
                  go_ret2
                  exact IPu.bad hR.out (.inr rfl) hbw
            · clear h97
              have hE1 : ((97 : Int) ≤ l) = False := eq_false hg1
              by_cases h48 : 48 ≤ m
              · have h57 : (m ≤ 57) = False := eq_false (fun h => hdg ⟨h48, h⟩)
                clear hdg
                by_cases h9 : m = 95
                · have hm95b : (m == 95) = true := by simpa using h9
                  clear h9
                  go_wp2_with fail
                  refine (hlow.out _).mono ?_
                  rintro e w2 ⟨rfl, rfl⟩
                  go_wp2
                  go_ret2
                  exact IPu.bad hR.out (.inr rfl) hbw
                · have hm95b : (m == 95) = false := by simpa using h9
                  go_wp2_with fail
                  refine (hlow.out _).mono ?_
                  rintro e w2 ⟨rfl, rfl⟩
                  go_wp2
                  go_ret2
                  exact IPu.bad hR.out (.inr rfl) hbw
              · clear hdg
                by_cases h9 : m = 95
                · have hm95b : (m == 95) = true := by simpa using h9
                  clear h9
                  go_wp2_with fail
                  refine (hlow.out _).mono ?_
                  rintro e w2 ⟨rfl, rfl⟩
                  go_wp2
                  go_ret2
                  exact IPu.bad hR.out (.inr rfl) hbw
                · have hm95b : (m == 95) = false := by simpa using h9
                  go_wp2_with fail
                  refine (hlow.out _).mono ?_
                  rintro e w2 ⟨rfl, rfl⟩
                  go_wp2
                  go_ret2
                  exact IPu.bad hR.out (.inr rfl) hbw
      · obtain rfl : j = t.size := by omega
        have hR := Lib.hid (show hexU16 t.data.toList = some n by
          rw [hcome.out, List.drop_eq_nil_of_le (by rw [Array.length_toList]; exact Nat.le_refl _)]; rfl)
        go_wp2
        go_ret2
        exact ⟨.inl ⟨n, hR.out, hn, rfl⟩, hbw⟩
/-- What reading a word at base 16 gives. -/
def P16 (t : ByteArray) (w : World) (e : Ending) (w' : World) : Prop := ((∃ u : Nat, hexU16 t.data.toList = some u ∧ u ≤ 65535 ∧ e = .returned (.tuple #[.int .u64 (u : Int), .nilIface])) ∨ (hexU16 t.data.toList = none ∧ ∃ (x : Int) (T : TypeId) (N : Nat), e = .returned (.tuple #[.int .u64 x, .iface T (.pointer (some ⟨N, 0, none⟩))]))) ∧ Below w.heap.size w w'
set_option maxRecDepth 100000 in
theorem pu16_any (t : ByteArray) (ht : t.size ≤ 1000000) (w : World) (hz : PuOk w) :
    Calls Tryd.prog 65 #[.string t, .int .i64 16, .int .i64 16] w fun e w' => P16 t w e w' := by
  have HC := Lib.hid (ipu16_any t ht w)
  have HZ := Lib.hid hz
  clear hz
  go_enter Tryd.func65, Tryd.ntmps65
  go_wp2_with fail
  refine HC.out.mono ?_
  rintro e w1 ⟨⟨u, hu, hu2, rfl⟩ | ⟨hn, x, c, hc, rfl⟩, hb1⟩
  · go_wp2
    go_ret2
    exact ⟨.inl ⟨u, hu, hu2, rfl⟩, hb1⟩
  · have HN := Lib.hid hn
    clear hn
    obtain ⟨_, ⟨⟨ev, h3, h4⟩, h5⟩, ⟨ev2, h6, h7⟩, h8⟩ := HZ.out.below hb1
    rcases hc with rfl | rfl
    · have HE := Lib.hid (Tryd.strconv_toError_range ⟨#[80, 97, 114, 115, 101, 85, 105, 110, 116]⟩ t 16 16 ev2 w1 (by omega) h6 h7)
      clear h3 h4 h5 h6 h7 h8
      go_wp2_with fail
      refine HE.out.mono ?_
      rintro e w2 ⟨N, rfl, _, _, hb2⟩
      have hb3 := bl_trans hb1 hb2
      go_wp2
      go_ret2
      exact ⟨.inr ⟨HN.out, _, _, N, rfl⟩, hb3⟩
    · have HE := Lib.hid (Tryd.strconv_toError_syntax ⟨#[80, 97, 114, 115, 101, 85, 105, 110, 116]⟩ t 16 16 ev w1 (by omega) h3 h4)
      clear h3 h4 h5 h6 h7 h8
      go_wp2_with fail
      refine HE.out.mono ?_
      rintro e w2 ⟨N, rfl, _, _, hb2⟩
      have hb3 := bl_trans hb1 hb2
      go_wp2
      go_ret2
      exact ⟨.inr ⟨HN.out, _, _, N, rfl⟩, hb3⟩
end Go.Proofs.YtecbbjdcnlocdaaDoor

/- prefix.numbers -/
namespace Go.Proofs.YtecbbjdcnlocdaaDoor
open Go.RowKit Go.Sort
/-- The number that a word spells at base 10, if a byte holds it. -/
def dec8 (s : List UInt8) : Option Nat := match Lib.parseUintB 8 s with
  | .ok u => some u
  | _ => none
/-- What reading a word gives. -/
def PX (rd : List UInt8 → Option Nat) (B : Nat) (t : ByteArray) (w : World) (e : Ending) (w' : World) : Prop := ((∃ u : Nat, rd t.data.toList = some u ∧ u ≤ B ∧ e = .returned (.tuple #[.int .u64 (u : Int), .nilIface])) ∨ (rd t.data.toList = none ∧ ∃ (x : Int) (T : TypeId) (N : Nat), e = .returned (.tuple #[.int .u64 x, .iface T (.pointer (some ⟨N, 0, none⟩))]))) ∧ Below w.heap.size w w'
theorem uint8_le {l : List UInt8} {u : Nat} (h : Lib.parseUintB 8 l = .ok u) : u ≤ 255 := by
  unfold Lib.parseUintB at h
  split at h
  · cases h
  · exact uintM_le 255 l 0 u (Nat.zero_le _) h
set_option maxRecDepth 100000 in
theorem px8_any (t : ByteArray) (ht : t.size ≤ 1000000) (w : World) (hz : PuOk w) :
    Calls Tryd.prog 65 #[.string t, .int .i64 10, .int .i64 8] w fun e w' => PX dec8 255 t w e w' := by
  obtain ⟨_, ⟨⟨ev, h3, h4⟩, h5⟩, ⟨ev2, h6, h7⟩, h8⟩ := hz
  cases hp : Lib.parseUintB 8 t.data.toList with
  | ok u =>
    have hd : dec8 t.data.toList = some u := by unfold dec8; rw [hp]
    refine (Tryd.strconv_ParseUint_10_at8_ok t (by omega) u hp w).mono ?_
    rintro e w' ⟨rfl, rfl | rfl⟩
    · exact ⟨.inl ⟨u, hd, uint8_le hp, rfl⟩, bl_refl _⟩
    · exact ⟨.inl ⟨u, hd, uint8_le hp, rfl⟩, Joins.below_bytesWorld _ _ _ _ (Nat.le_refl _)⟩
  | range =>
    have hd : dec8 t.data.toList = none := by unfold dec8; rw [hp]
    refine (Tryd.strconv_ParseUint_10_at8_range t (by omega) hp ev2 w h6 h7).mono ?_
    rintro e w' ⟨N, rfl, _, _, hb⟩
    exact ⟨.inr ⟨hd, _, _, N, rfl⟩, hb⟩
  | _ =>
    have hd : dec8 t.data.toList = none := by unfold dec8; rw [hp]
    refine (Tryd.strconv_ParseUint_10_at8_syntax t (by omega) (hp.trans (if_pos rfl).symm) ev w h3 h4).mono ?_
    rintro e w' ⟨N, rfl, _, _, hb⟩
    exact ⟨.inr ⟨hd, _, _, N, rfl⟩, hb⟩
set_option maxRecDepth 100000 in
theorem px16_any (t : ByteArray) (ht : t.size ≤ 1000000) (w : World) (hz : PuOk w) :
    Calls Tryd.prog 65 #[.string t, .int .i64 16, .int .i64 16] w fun e w' => PX hexU16 65535 t w e w' := pu16_any t ht w hz
/-- The bytes of some words, numbers of K bytes. -/
def numsP (rd : List UInt8 → Option Nat) (K : Nat) : List (List UInt8) → Option (List Int)
  | [] => some []
  | x :: r => match rd x with
    | some u => (numsP rd K r).map (digitsOf K (u : Int) ++ ·)
    | none => none
/-- How many words are read. -/
def NCome (rd : List UInt8 → Option Nat) (K : Nat) (ws : List (List UInt8)) (q : Nat) (out : List Int) : Prop := numsP rd K ws = (numsP rd K (ws.drop q)).map (out ++ ·)
theorem NCome.start (rd : List UInt8 → Option Nat) (K : Nat) (ws : List (List UInt8)) : NCome rd K ws 0 [] := by
  unfold NCome
  rw [List.drop_zero]
  cases numsP rd K ws <;> rfl
theorem drop_at {ws : List (List UInt8)} {q : Nat} {x : List UInt8} (hq : ws[q]? = some x) : ws.drop q = x :: ws.drop (q + 1) := by
  obtain ⟨hl, e⟩ := List.getElem?_eq_some_iff.1 hq
  rw [List.drop_eq_getElem_cons hl, e]
theorem NCome.step {rd : List UInt8 → Option Nat} {K : Nat} {ws : List (List UInt8)} {q : Nat} {out : List Int} {x : List UInt8} {u : Nat} (h : NCome rd K ws q out) (hq : ws[q]? = some x) (hu : rd x = some u) : NCome rd K ws (q + 1) (out ++ digitsOf K (u : Int)) := by
  unfold NCome at h ⊢
  rw [h, drop_at hq, numsP, hu]
  cases numsP rd K (ws.drop (q + 1)) <;> simp
theorem NCome.bad {rd : List UInt8 → Option Nat} {K : Nat} {ws : List (List UInt8)} {q : Nat} {out : List Int} {x : List UInt8} (h : NCome rd K ws q out) (hq : ws[q]? = some x) (hu : rd x = none) : numsP rd K ws = none := by
  unfold NCome at h
  rw [h, drop_at hq, numsP, hu]
  rfl
theorem NCome.done {rd : List UInt8 → Option Nat} {K : Nat} {ws : List (List UInt8)} {q : Nat} {out : List Int} (h : NCome rd K ws q out) (hq : ws.length ≤ q) : numsP rd K ws = some out := by
  unfold NCome at h
  rw [h, List.drop_eq_nil_of_le hq]
  simp [numsP]
/-- What numbers leaves. -/
def NumR (rd : List UInt8 → Option Nat) (K : Nat) (ws : List (List UInt8)) (w : World) (e : Ending) (w' : World) : Prop := ∃ (A : Option Addr) (m c : Nat) (out : List Int) (q : Bool), e = .returned (.tuple #[.slice A m c, .bool q]) ∧ Bytes w' w'.heap.size A m out ∧ Below w.heap.size w w' ∧ ((q = true ∧ numsP rd K ws = some out) ∨ (q = false ∧ numsP rd K ws = none ∧ m = 0))
theorem bytes_nilN (W : World) (B : Nat) : Bytes W B none 0 [] := ⟨rfl, (fun _ h => by cases h), .inl rfl⟩
set_option maxRecDepth 100000 in
set_option maxHeartbeats 3200000 in
theorem nums_1 (gb : Nat) (c : Nat) (Ws : List ByteArray) (w : World) (ho : Own w gb 9 (Ws.map Value.string).toArray) (hl : Ws.length ≤ 1000001) (hs : ∀ x ∈ Ws, x.size ≤ 1000000) (hz : PuOk w) :
    Calls Tryd.prog 93 #[.slice (some ⟨gb, 0, none⟩) Ws.length c, .int .i64 10, .int .i64 1] w fun e w' => NumR dec8 1 (Ws.map (·.data.toList)) w e w' := by
  obtain ⟨k, hk⟩ : ∃ k, k = Ws.length := ⟨_, rfl⟩
  have HK := Lib.hid hk
  rw [← hk]
  have hkl : k ≤ 1000001 := by omega
  have HS := Lib.hid hs
  have HZ := Lib.hid hz
  clear hk hs hz hl
  go_enter Tryd.func93, Tryd.ntmps93
  go_wp2_with fail
  go_loopw [8, 17] (fun v i wr => ∃ (q m : Nat) (out : List Int), q ≤ k ∧ i = .int .i64 (q : Int) ∧ wr.ownsRow w.heap.size 5 1 v m (out.map (Value.int .u8)) ∧ m ≤ 2 * q ∧ Own wr gb 9 (Ws.map Value.string).toArray ∧ Below w.heap.size w wr ∧ Hid (NCome dec8 1 (Ws.map (·.data.toList)) q out ∧ ∀ y ∈ out, 0 ≤ y ∧ y ≤ 255)) (fun _ i _ => k - (intOf i).toNat)
  case atStart => exact ⟨0, 0, [], Nat.zero_le _, rfl, World.ownsRow_nil _ _ _ _, Nat.zero_le _, ho, bl_refl w, Lib.hid ⟨NCome.start _ _ _, fun _ h => by cases h⟩⟩
  case round =>
    obtain ⟨q, m, out, hq, rfl, hrow, hm, oWr, hb, hcome⟩ := hrel
    obtain ⟨A0, c0, rfl⟩ := own_form hrow
    have hgl := Lib.hid (show gb < w.heap.size from ho.lt)
    by_cases hlt : q < k
    · have hql : q < Ws.length := by have := HK.out; omega
      obtain ⟨x, hx⟩ : ∃ x, Ws[q]? = some x := ⟨_, List.getElem?_eq_getElem hql⟩
      have hcx : wr.cell? ⟨gb, q, none⟩ = some (.string x) := oWr.cell (by simp [hx])
      have hxs : x.size ≤ 1000000 := HS.out x (List.mem_of_getElem? hx)
      have hx2 : (Ws.map (·.data.toList))[q]? = some x.data.toList := by rw [List.getElem?_map, hx]; rfl
      have hP := Lib.hid (px8_any x hxs wr (HZ.out.below hb))
      have HX2 := Lib.hid hx2
      have HRow := Lib.hid hrow
      have HOW := Lib.hid oWr
      have HB := Lib.hid hb
      have hgw := oWr.lt
      clear hx hx2 hxs hrow oWr hb hql
      go_wp2_with fail
      refine hP.out.mono ?_
      rintro e w2 ⟨hu | ⟨hu, y, T, N, rfl⟩, hb2⟩
      · obtain ⟨u, hu1, hu2, rfl⟩ := hu
        have wu : IntKind.u32.wrap (u : Int) = (u : Int) := by rw [IntKind.wrap_u32]; omega
        have HO2 := Lib.hid (HOW.out.step hb2)
        have HR2 := Lib.hid (own_belowG HRow.out hb2)
        have HB2 := Lib.hid (bl_trans HB.out hb2)
        have hPt := Lib.hid (put_1 (u : Int) w2 (by omega) (by omega))
        have HC2 := Lib.hid (And.intro (hcome.out.1.step HX2.out hu1) (show ∀ y ∈ out ++ digitsOf 1 (u : Int), 0 ≤ y ∧ y ≤ 255 from fun y hy => by
          rcases List.mem_append.1 hy with hy | hy
          · exact hcome.out.2 y hy
          · exact digitsOf_range _ _ y hy))
        clear hu1 hu2 hcx hcome hP hb2 hgw
        go_wp2_with fail
        refine hPt.out.mono ?_
        rintro e w3 ⟨rfl, ho3, hb3⟩
        have hs3 : Shows w3 w3.heap.size (some ⟨w2.heap.size, 0, none⟩) ((digitsOf 1 (u : Int)).map (Value.int .u8)) := Shows.of_owned ho3 ho3.lt
        have hO3 := HO2.out.step hb3
        have hR3 := own_belowG HR2.out hb3
        have hB3 := bl_trans HB2.out hb3
        have hsz := hB3.size
        clear ho3
        go_wp2_with (at_builtin; refine wpList_append_grow _ rfl _ _ rfl sl_bytes w.heap.size _ m _ rfl hR3 _ (some ⟨w2.heap.size, 0, none⟩) 1 1 ((digitsOf 1 (u : Int)).map (Value.int .u8)) rfl (by rw [List.length_map, digitsOf_len]) hs3 (one8 _) (by unfold maxLen; omega) (by omega) (by omega) ?_; intro v4 w4 ho4 hg4)
        have hb4 := hB3.grown hg4 hsz (own_base hR3)
        have hO4 : Own w4 gb 9 (Ws.map Value.string).toArray := hO3.grown hg4 (fun e => by have := own_base hR3 _ e.symm; have := hgl.out; omega)
        go_roundw
        case rel => exact ⟨q + 1, m + 1, out ++ digitsOf 1 (u : Int), by omega, by go_num, by rw [List.map_append]; exact ho4, by omega, hO4, hb4, HC2⟩
        case measure => simp [intOf]; omega
      · have hR := Lib.hid (hcome.out.1.bad HX2.out hu)
        have hb3 := bl_trans HB.out hb2
        clear hcx hcome hP hu hgw
        go_wp2
        go_ret2
        exact ⟨none, 0, 0, [], false, rfl, bytes_nilN _ _, hb3, .inr ⟨rfl, hR.out, rfl⟩⟩
    · have hR := Lib.hid (hcome.out.1.done (by rw [List.length_map]; have := HK.out; omega))
      have hRg := Lib.hid hcome.out.2
      obtain ⟨A4, c4, he, hc3, hs3⟩ := own_val hrow
      have hBy := Lib.hid (show Bytes wr wr.heap.size A0 m out from ⟨by have := hrow.1; simp at this; omega, hRg.out, by
        injection he with e1 e2 e3
        rw [e1]
        exact hs3⟩)
      clear he hs3 hcome hrow oWr
      go_wp2
      go_ret2
      exact ⟨A0, m, c0, out, true, rfl, hBy.out, hb, .inl ⟨rfl, hR.out⟩⟩
set_option maxRecDepth 100000 in
set_option maxHeartbeats 3200000 in
theorem nums_2 (gb : Nat) (c : Nat) (Ws : List ByteArray) (w : World) (ho : Own w gb 9 (Ws.map Value.string).toArray) (hl : Ws.length ≤ 1000001) (hs : ∀ x ∈ Ws, x.size ≤ 1000000) (hz : PuOk w) :
    Calls Tryd.prog 93 #[.slice (some ⟨gb, 0, none⟩) Ws.length c, .int .i64 16, .int .i64 2] w fun e w' => NumR hexU16 2 (Ws.map (·.data.toList)) w e w' := by
  obtain ⟨k, hk⟩ : ∃ k, k = Ws.length := ⟨_, rfl⟩
  have HK := Lib.hid hk
  rw [← hk]
  have hkl : k ≤ 1000001 := by omega
  have HS := Lib.hid hs
  have HZ := Lib.hid hz
  clear hk hs hz hl
  go_enter Tryd.func93, Tryd.ntmps93
  go_wp2_with fail
  go_loopw [8, 17] (fun v i wr => ∃ (q m : Nat) (out : List Int), q ≤ k ∧ i = .int .i64 (q : Int) ∧ wr.ownsRow w.heap.size 5 1 v m (out.map (Value.int .u8)) ∧ m ≤ 2 * q ∧ Own wr gb 9 (Ws.map Value.string).toArray ∧ Below w.heap.size w wr ∧ Hid (NCome hexU16 2 (Ws.map (·.data.toList)) q out ∧ ∀ y ∈ out, 0 ≤ y ∧ y ≤ 255)) (fun _ i _ => k - (intOf i).toNat)
  case atStart => exact ⟨0, 0, [], Nat.zero_le _, rfl, World.ownsRow_nil _ _ _ _, Nat.zero_le _, ho, bl_refl w, Lib.hid ⟨NCome.start _ _ _, fun _ h => by cases h⟩⟩
  case round =>
    obtain ⟨q, m, out, hq, rfl, hrow, hm, oWr, hb, hcome⟩ := hrel
    obtain ⟨A0, c0, rfl⟩ := own_form hrow
    have hgl := Lib.hid (show gb < w.heap.size from ho.lt)
    by_cases hlt : q < k
    · have hql : q < Ws.length := by have := HK.out; omega
      obtain ⟨x, hx⟩ : ∃ x, Ws[q]? = some x := ⟨_, List.getElem?_eq_getElem hql⟩
      have hcx : wr.cell? ⟨gb, q, none⟩ = some (.string x) := oWr.cell (by simp [hx])
      have hxs : x.size ≤ 1000000 := HS.out x (List.mem_of_getElem? hx)
      have hx2 : (Ws.map (·.data.toList))[q]? = some x.data.toList := by rw [List.getElem?_map, hx]; rfl
      have hP := Lib.hid (px16_any x hxs wr (HZ.out.below hb))
      have HX2 := Lib.hid hx2
      have HRow := Lib.hid hrow
      have HOW := Lib.hid oWr
      have HB := Lib.hid hb
      have hgw := oWr.lt
      clear hx hx2 hxs hrow oWr hb hql
      go_wp2_with fail
      refine hP.out.mono ?_
      rintro e w2 ⟨hu | ⟨hu, y, T, N, rfl⟩, hb2⟩
      · obtain ⟨u, hu1, hu2, rfl⟩ := hu
        have wu : IntKind.u32.wrap (u : Int) = (u : Int) := by rw [IntKind.wrap_u32]; omega
        have HO2 := Lib.hid (HOW.out.step hb2)
        have HR2 := Lib.hid (own_belowG HRow.out hb2)
        have HB2 := Lib.hid (bl_trans HB.out hb2)
        have hPt := Lib.hid (put_2 (u : Int) w2 (by omega) (by omega))
        have HC2 := Lib.hid (And.intro (hcome.out.1.step HX2.out hu1) (show ∀ y ∈ out ++ digitsOf 2 (u : Int), 0 ≤ y ∧ y ≤ 255 from fun y hy => by
          rcases List.mem_append.1 hy with hy | hy
          · exact hcome.out.2 y hy
          · exact digitsOf_range _ _ y hy))
        clear hu1 hu2 hcx hcome hP hb2 hgw
        go_wp2_with fail
        refine hPt.out.mono ?_
        rintro e w3 ⟨rfl, ho3, hb3⟩
        have hs3 : Shows w3 w3.heap.size (some ⟨w2.heap.size, 0, none⟩) ((digitsOf 2 (u : Int)).map (Value.int .u8)) := Shows.of_owned ho3 ho3.lt
        have hO3 := HO2.out.step hb3
        have hR3 := own_belowG HR2.out hb3
        have hB3 := bl_trans HB2.out hb3
        have hsz := hB3.size
        clear ho3
        go_wp2_with (at_builtin; refine wpList_append_grow _ rfl _ _ rfl sl_bytes w.heap.size _ m _ rfl hR3 _ (some ⟨w2.heap.size, 0, none⟩) 2 2 ((digitsOf 2 (u : Int)).map (Value.int .u8)) rfl (by rw [List.length_map, digitsOf_len]) hs3 (one8 _) (by unfold maxLen; omega) (by omega) (by omega) ?_; intro v4 w4 ho4 hg4)
        have hb4 := hB3.grown hg4 hsz (own_base hR3)
        have hO4 : Own w4 gb 9 (Ws.map Value.string).toArray := hO3.grown hg4 (fun e => by have := own_base hR3 _ e.symm; have := hgl.out; omega)
        go_roundw
        case rel => exact ⟨q + 1, m + 2, out ++ digitsOf 2 (u : Int), by omega, by go_num, by rw [List.map_append]; exact ho4, by omega, hO4, hb4, HC2⟩
        case measure => simp [intOf]; omega
      · have hR := Lib.hid (hcome.out.1.bad HX2.out hu)
        have hb3 := bl_trans HB.out hb2
        clear hcx hcome hP hu hgw
        go_wp2
        go_ret2
        exact ⟨none, 0, 0, [], false, rfl, bytes_nilN _ _, hb3, .inr ⟨rfl, hR.out, rfl⟩⟩
    · have hR := Lib.hid (hcome.out.1.done (by rw [List.length_map]; have := HK.out; omega))
      have hRg := Lib.hid hcome.out.2
      obtain ⟨A4, c4, he, hc3, hs3⟩ := own_val hrow
      have hBy := Lib.hid (show Bytes wr wr.heap.size A0 m out from ⟨by have := hrow.1; simp at this; omega, hRg.out, by
        injection he with e1 e2 e3
        rw [e1]
        exact hs3⟩)
      clear he hs3 hcome hrow oWr
      go_wp2
      go_ret2
      exact ⟨A0, m, c0, out, true, rfl, hBy.out, hb, .inl ⟨rfl, hR.out⟩⟩
end Go.Proofs.YtecbbjdcnlocdaaDoor

/- prefix.parseAddress, prefix.Parse -/
namespace Go.Proofs.YtecbbjdcnlocdaaDoor
open Go.RowKit Go.Sort
/-- The family and the bytes of an address. -/
def addrP (s : List UInt8) : Option (Int × List Int) := if 0 ≤ Lib.indexByte s 46 then (numsP dec8 1 (Lib.split s [46])).bind (fun out => if out.length = 4 then some (1, out) else none) else (numsP hexU16 2 (Lib.split s [58])).bind (fun out => if out.length = 16 then some (2, out) else none)
theorem results_3 {P : Program} {fn : Func} {p q r : Tmp} (h : fn.results = #[.tmp p, .tmp q, .tmp r]) (tmps : Array Value) (w : World) : (results fn tmps).run P w = .ok (.tuple #[tmps.getD p undef, tmps.getD q undef, tmps.getD r undef]) w := by
  simp [results, h]
/-- What parseAddress leaves. -/
def PAddr (t : ByteArray) (w : World) (e : Ending) (w' : World) : Prop := ∃ (f : Int) (A : Option Addr) (m c : Nat) (xs : List Int) (q : Bool), e = .returned (.tuple #[.int .i64 f, .slice A m c, .bool q]) ∧ Bytes w' w'.heap.size A m xs ∧ Below w.heap.size w w' ∧ ((q = true ∧ addrP t.data.toList = some (f, xs)) ∨ (q = false ∧ addrP t.data.toList = none))
set_option maxRecDepth 100000 in
set_option maxHeartbeats 3200000 in
theorem paddr_any (t : ByteArray) (ht : t.size ≤ 1000000) (w : World) (hz : PuOk w) :
    Calls Tryd.prog 66 #[.string t] w fun e w' => PAddr t w e w' := by
  obtain ⟨m, hm⟩ := hz.1.1
  have hCo := Lib.hid (Tryd.strings_Contains_one t 46 w)
  have HZ := Lib.hid hz
  have HT := Lib.hid ht
  by_cases hc : 0 ≤ Lib.indexByte t.data.toList 46
  · have hA : Hid (addrP t.data.toList = (numsP dec8 1 (Lib.split t.data.toList [46])).bind (fun out => if out.length = 4 then some (1, out) else none)) := Lib.hid (if_pos hc)
    rw [decide_eq_true hc] at hCo
    have hSp := Lib.hid (Tryd.strings_Split t ⟨#[46]⟩ m w (by omega) hm (by decide))
    have hlen : (Lib.splitB ⟨#[46]⟩ 0 (Lib.countB t ⟨#[46]⟩) t).length = Lib.countB t ⟨#[46]⟩ + 1 := Lib.splitB_all _ (by decide) 0 _ t rfl
    have hmap : (Lib.splitB ⟨#[46]⟩ 0 (Lib.countB t ⟨#[46]⟩) t).map (·.data.toList) = Lib.split t.data.toList [46] := by rw [Lib.splitB_data]; rfl
    have hsz : ∀ x ∈ Lib.splitB ⟨#[46]⟩ 0 (Lib.countB t ⟨#[46]⟩) t, x.size ≤ t.size := fun x hx => splitB_size _ _ _ _ x hx
    have hcl := Lib.countB_le ⟨#[46]⟩ (by decide) t.size t (Nat.le_refl _)
    generalize Lib.splitB ⟨#[46]⟩ 0 (Lib.countB t ⟨#[46]⟩) t = Ws at *
    generalize Lib.countB t ⟨#[46]⟩ = k at *
    have hbX := bl_alloc (bl_refl w) (.cells (Ws.map Value.string).toArray 9)
    have hN := nums_1 w.heap.size (k + 1) Ws _ (Own.new w 9 (Ws.map Value.string).toArray) (by omega) (fun x hx => Nat.le_trans (hsz x hx) ht) (hz.below hbX)
    rw [hlen, hmap] at hN
    have HN := Lib.hid hN
    clear hN hlen hmap hsz hcl hz ht hc hm
    go_enter Tryd.func66, Tryd.ntmps66
    go_wp2_with fail
    refine hCo.out.mono ?_
    rintro e w1 ⟨rfl, hw1⟩
    rw [hw1]
    clear hw1
    go_wp2_with fail
    refine hSp.out.mono ?_
    rintro e w2 ⟨rfl, hw2⟩
    rw [hw2]
    clear hw2
    go_wp2_with fail
    refine HN.out.mono ?_
    rintro e w3 ⟨A, n3, c3, out, q, rfl, hB3, hb3, hc3⟩
    have hb4 := Lib.hid (bl_trans hbX hb3)
    have hL := Lib.hid hB3.1
    have HB3 := Lib.hid hB3
    cases q
    · have hR := Lib.hid (show addrP t.data.toList = none by
        rcases hc3 with ⟨h, _⟩ | ⟨_, h, _⟩
        · cases h
        · rw [hA.out, h]; rfl)
      clear hc3 hb3 hbX hB3
      go_wp2
      exact bodyPost_ret (results_3 rfl _ _) rfl ⟨1, A, n3, c3, out, false, rfl, HB3.out, hb4.out, .inr ⟨rfl, hR.out⟩⟩
    · have hP : numsP dec8 1 (Lib.split t.data.toList [46]) = some out := by
        rcases hc3 with ⟨_, h⟩ | ⟨h, _⟩
        · exact h
        · cases h
      by_cases hn : n3 = 4
      · have hR := Lib.hid (show addrP t.data.toList = some (1, out) by rw [hA.out, hP]; show (if out.length = 4 then _ else _) = _; rw [if_pos (by rw [← hL.out, hn])])
        have hn1 : ((n3 : Int) == 4) = true := by rw [hn]; rfl
        clear hc3 hb3 hbX hB3 hP hn
        go_wp2
        exact bodyPost_ret (results_3 rfl _ _) rfl ⟨1, A, n3, c3, out, true, rfl, HB3.out, hb4.out, .inl ⟨rfl, hR.out⟩⟩
      · have hR := Lib.hid (show addrP t.data.toList = none by rw [hA.out, hP]; show (if out.length = 4 then _ else _) = _; rw [if_neg (by rw [← hL.out]; exact hn)])
        have hn1 : ((n3 : Int) == 4) = false := by rw [beq_eq_false_iff_ne]; omega
        clear hc3 hb3 hbX hB3 hP hn
        go_wp2
        exact bodyPost_ret (results_3 rfl _ _) rfl ⟨1, A, n3, c3, out, false, rfl, HB3.out, hb4.out, .inr ⟨rfl, hR.out⟩⟩
  · have hA : Hid (addrP t.data.toList = (numsP hexU16 2 (Lib.split t.data.toList [58])).bind (fun out => if out.length = 16 then some (2, out) else none)) := Lib.hid (if_neg hc)
    rw [decide_eq_false hc] at hCo
    have hSp := Lib.hid (Tryd.strings_Split t ⟨#[58]⟩ m w (by omega) hm (by decide))
    have hlen : (Lib.splitB ⟨#[58]⟩ 0 (Lib.countB t ⟨#[58]⟩) t).length = Lib.countB t ⟨#[58]⟩ + 1 := Lib.splitB_all _ (by decide) 0 _ t rfl
    have hmap : (Lib.splitB ⟨#[58]⟩ 0 (Lib.countB t ⟨#[58]⟩) t).map (·.data.toList) = Lib.split t.data.toList [58] := by rw [Lib.splitB_data]; rfl
    have hsz : ∀ x ∈ Lib.splitB ⟨#[58]⟩ 0 (Lib.countB t ⟨#[58]⟩) t, x.size ≤ t.size := fun x hx => splitB_size _ _ _ _ x hx
    have hcl := Lib.countB_le ⟨#[58]⟩ (by decide) t.size t (Nat.le_refl _)
    generalize Lib.splitB ⟨#[58]⟩ 0 (Lib.countB t ⟨#[58]⟩) t = Ws at *
    generalize Lib.countB t ⟨#[58]⟩ = k at *
    have hbX := bl_alloc (bl_refl w) (.cells (Ws.map Value.string).toArray 9)
    have hN := nums_2 w.heap.size (k + 1) Ws _ (Own.new w 9 (Ws.map Value.string).toArray) (by omega) (fun x hx => Nat.le_trans (hsz x hx) ht) (hz.below hbX)
    rw [hlen, hmap] at hN
    have HN := Lib.hid hN
    clear hN hlen hmap hsz hcl hz ht hc hm
    go_enter Tryd.func66, Tryd.ntmps66
    go_wp2_with fail
    refine hCo.out.mono ?_
    rintro e w1 ⟨rfl, hw1⟩
    rw [hw1]
    clear hw1
    go_wp2_with fail
    refine hSp.out.mono ?_
    rintro e w2 ⟨rfl, hw2⟩
    rw [hw2]
    clear hw2
    go_wp2_with fail
    refine HN.out.mono ?_
    rintro e w3 ⟨A, n3, c3, out, q, rfl, hB3, hb3, hc3⟩
    have hb4 := Lib.hid (bl_trans hbX hb3)
    have hL := Lib.hid hB3.1
    have HB3 := Lib.hid hB3
    cases q
    · have hR := Lib.hid (show addrP t.data.toList = none by
        rcases hc3 with ⟨h, _⟩ | ⟨_, h, _⟩
        · cases h
        · rw [hA.out, h]; rfl)
      clear hc3 hb3 hbX hB3
      go_wp2
      exact bodyPost_ret (results_3 rfl _ _) rfl ⟨2, A, n3, c3, out, false, rfl, HB3.out, hb4.out, .inr ⟨rfl, hR.out⟩⟩
    · have hP : numsP hexU16 2 (Lib.split t.data.toList [58]) = some out := by
        rcases hc3 with ⟨_, h⟩ | ⟨h, _⟩
        · exact h
        · cases h
      by_cases hn : n3 = 16
      · have hR := Lib.hid (show addrP t.data.toList = some (2, out) by rw [hA.out, hP]; show (if out.length = 16 then _ else _) = _; rw [if_pos (by rw [← hL.out, hn])])
        have hn1 : ((n3 : Int) == 16) = true := by rw [hn]; rfl
        clear hc3 hb3 hbX hB3 hP hn
        go_wp2
        exact bodyPost_ret (results_3 rfl _ _) rfl ⟨2, A, n3, c3, out, true, rfl, HB3.out, hb4.out, .inl ⟨rfl, hR.out⟩⟩
      · have hR := Lib.hid (show addrP t.data.toList = none by rw [hA.out, hP]; show (if out.length = 16 then _ else _) = _; rw [if_neg (by rw [← hL.out]; exact hn)])
        have hn1 : ((n3 : Int) == 16) = false := by rw [beq_eq_false_iff_ne]; omega
        clear hc3 hb3 hbX hB3 hP hn
        go_wp2
        exact bodyPost_ret (results_3 rfl _ _) rfl ⟨2, A, n3, c3, out, false, rfl, HB3.out, hb4.out, .inr ⟨rfl, hR.out⟩⟩
/-- What is asked at the end. -/
def finP (s : List UInt8) (f n : Int) (b : List Int) : Option (Int × Int × List Int) := if makeOk f n b.length = true then (if (ptxtO f n (maskL n (padTo b))).data.toList = s then some (f, n, maskL n (padTo b)) else none) else none
/-- What Parse gives. -/
def pParse (s : List UInt8) : Option (Int × Int × List Int) := if (Lib.cut s [47]).2.2 = true then (dec8 (Lib.cut s [47]).2.1).bind (fun n => (addrP (Lib.cut s [47]).1).bind fun p => finP s p.1 (n : Int) p.2) else none
def PPR (t : ByteArray) (w : World) (e : Ending) (w' : World) : Prop := ∃ (f l : Int) (a : List Int) (q : Bool), e = .returned (.tuple #[.agg (pfx f l a), .bool q]) ∧ IsAddr a ∧ Below w.heap.size w w' ∧ ((q = true ∧ pParse t.data.toList = some (f, l, a)) ∨ (q = false ∧ pParse t.data.toList = none ∧ f = 0 ∧ l = 0 ∧ a = zero16))
theorem Rest.setRowP (w : World) (g : Nat) (cs : Array Value) : Rest w (w.setRow g cs) (fun i => i = g) := ⟨rfl, rfl, rfl, by simp, fun i _ hn => setRow_other w g i _ hn⟩
theorem ba_extP {a b : ByteArray} (h : a.data.toList = b.data.toList) : a = b := by
  cases a; cases b
  exact congrArg ByteArray.mk (Array.toList_inj.1 h)
set_option maxRecDepth 100000 in
set_option maxHeartbeats 6400000 in
theorem pparse_any (t : ByteArray) (ht : t.size ≤ 1000000) (w : World) (hz : PuOk w) (hten : Tens w) (hbn : Brn w) :
    Calls Tryd.prog 29 #[.string t] w fun e w' => PPR t w e w' := by
  have hz18 : #[.int .i64 0, .int .i64 0, .int .u8 0, .int .u8 0, .int .u8 0, .int .u8 0, .int .u8 0, .int .u8 0, .int .u8 0, .int .u8 0, .int .u8 0, .int .u8 0, .int .u8 0, .int .u8 0, .int .u8 0, .int .u8 0, .int .u8 0, .int .u8 0] = pfx 0 0 zero16 := pfx_zero.symm
  have ho := Own.new w 41 (pfx 0 0 zero16)
  have hb0 := bl_alloc (bl_refl w) (.cells (pfx 0 0 zero16) 41)
  obtain ⟨m, hm⟩ := (hz.below hb0).1.1
  have hCt := Lib.hid (Tryd.strings_Cut t ⟨#[47]⟩ m _ (by omega) hm)
  rw [show (⟨#[47]⟩ : ByteArray).data.toList = [47] from rfl] at hCt
  have hP : Hid (pParse t.data.toList = if (Lib.cut t.data.toList [47]).2.2 = true then (dec8 (Lib.cut t.data.toList [47]).2.1).bind (fun n => (addrP (Lib.cut t.data.toList [47]).1).bind fun p => finP t.data.toList p.1 (n : Int) p.2) else none) := Lib.hid rfl
  have hcl := Lib.hid (cut_len (s := t.data.toList) (d := 47))
  obtain ⟨⟨ca, cb, f⟩, hcc⟩ : ∃ z, Lib.cut t.data.toList [47] = z := ⟨_, rfl⟩
  rw [hcc] at hCt hcl hP
  dsimp only at hP
  have HZ := Lib.hid hz
  have HTN := Lib.hid hten
  have HBN := Lib.hid hbn
  have HT := Lib.hid (show t.data.toList.length ≤ 1000000 by rw [Array.length_toList]; exact ht)
  clear hz hten hbn hcc hm ht
  go_enter Tryd.func29, Tryd.ntmps29
  go_wp2_with fail
  refine hCt.out.mono ?_
  rintro e w1 ⟨rfl, nn, rfl⟩
  have ho1 := ho.drewN nn
  have hb1 := bl_drewN hb0 nn
  clear ho hb0 hCt
  generalize (w.alloc (.cells (pfx 0 0 zero16) 41)).drewN nn = w1 at *
  cases f
  · have hR := Lib.hid (show pParse t.data.toList = none by rw [hP.out]; rfl)
    go_wp2_with (refine wpList_store_row rfl 41 _ _ rfl w.heap.size (pfx 0 0 zero16) rfl rfl 41 (pfx 0 0 zero16) ho1 (pfx_info rfl) rfl (pfx_one 0 0 zero16) ?_)
    have hfin := Own.setRow (cs' := pfx 0 0 zero16) ho1
    exact bodyPost_ret (results_cell_tmp rfl _ _ w.heap.size 41 (pfx 0 0 zero16) _ rfl hfin pfx_desc rfl (pfx_info rfl)) rfl ⟨0, 0, zero16, false, rfl, zero16_addr, bl_setRow hb1 (Nat.le_refl _), .inr ⟨rfl, hR.out, rfl, rfl, rfl⟩⟩
  · have hcl2 := hcl.out rfl
    have hP2 := Lib.hid (show pParse t.data.toList = (dec8 cb).bind (fun n => (addrP ca).bind fun p => finP t.data.toList p.1 (n : Int) p.2) by rw [hP.out]; rfl)
    have hPU := Lib.hid (px8_any ⟨cb.toArray⟩ (by show cb.toArray.size ≤ 1000000; have := HT.out; have h3 : cb.length + 1 ≤ t.data.toList.length := hcl2.2; simp; omega) w1 (HZ.out.below hb1))
    have hca : ca.length ≤ 1000000 := by have := HT.out; have h3 : ca.length ≤ t.data.toList.length := hcl2.1; omega
    clear hP hcl hcl2
    go_wp2_with fail
    refine hPU.out.mono ?_
    rintro e w2 ⟨hu | ⟨hu, y, T, N, rfl⟩, hb2⟩
    · obtain ⟨u, hu1, hu2, rfl⟩ := hu
      have hP3 := Lib.hid (show pParse t.data.toList = (addrP ca).bind (fun p => finP t.data.toList p.1 (u : Int) p.2) by rw [hP2.out, show dec8 cb = some u from hu1]; rfl)
      have ho2 := ho1.step hb2
      have hb3 := bl_trans hb1 hb2
      have hwu : IntKind.i64.wrap (u : Int) = (u : Int) := by rw [IntKind.wrap_i64]; omega
      have hAd := Lib.hid (paddr_any ⟨ca.toArray⟩ (by show ca.toArray.size ≤ 1000000; simp; omega) w2 (HZ.out.below hb3))
      clear hP2 hPU hu1 ho1 hb1 hb2
      go_wp2_with fail
      refine hAd.out.mono ?_
      rintro e w3 ⟨f, A, n3, c3, xs, q, rfl, hB3, hb3', hc3⟩
      have ho3 := ho2.step hb3'
      have hb4 := bl_trans hb3 hb3'
      have hs4 := hb4.size
      clear ho2 hb3 hb3' hAd
      cases q
      · have hR := Lib.hid (show pParse t.data.toList = none by
          rcases hc3 with ⟨h, _⟩ | ⟨_, h⟩
          · cases h
          · rw [hP3.out, show addrP ca = none from h]; rfl)
        clear hc3 hB3
        go_wp2_with (refine wpList_store_row rfl 41 _ _ rfl w.heap.size (pfx 0 0 zero16) rfl rfl 41 (pfx 0 0 zero16) ho3 (pfx_info rfl) rfl (pfx_one 0 0 zero16) ?_)
        have hfin := Own.setRow (cs' := pfx 0 0 zero16) ho3
        exact bodyPost_ret (results_cell_tmp rfl _ _ w.heap.size 41 (pfx 0 0 zero16) _ rfl hfin pfx_desc rfl (pfx_info rfl)) rfl ⟨0, 0, zero16, false, rfl, zero16_addr, bl_setRow hb4 (Nat.le_refl _), .inr ⟨rfl, hR.out, rfl, rfl, rfl⟩⟩
      · have hAq : addrP ca = some (f, xs) := by
          rcases hc3 with ⟨_, h⟩ | ⟨h, _⟩
          · exact h
          · cases h
        have hP4 := Lib.hid (show pParse t.data.toList = finP t.data.toList f (u : Int) xs by rw [hP3.out, hAq]; rfl)
        have hxl := hB3.1
        have hxr := hB3.2.1
        have hxs16 : xs.length ≤ 16 := by
          unfold addrP at hAq
          split at hAq
          · obtain ⟨o, _, h⟩ := Option.bind_eq_some_iff.1 hAq
            split at h
            · rename_i h4
              have e2 := Option.some.inj h
              injection e2 with _ e2
              rw [← e2, h4]; decide
            · cases h
          · obtain ⟨o, _, h⟩ := Option.bind_eq_some_iff.1 hAq
            split at h
            · rename_i h4
              have e2 := Option.some.inj h
              injection e2 with _ e2
              rw [← e2, h4]; decide
            · cases h
        have hn16 : n3 ≤ 16 := by omega
        clear hc3 hAq hP3
        cases hmk : makeOk f (u : Int) n3 with
        | false =>
          have hR := Lib.hid (show pParse t.data.toList = none by rw [hP4.out]; unfold finP; rw [← hxl, hmk]; rfl)
          have hM := Lib.hid (pmake_no f (u : Int) A n3 c3 w3 (by omega) hmk)
          clear hP4 hmk hxl hxr hxs16 hB3
          go_wp2_with fail
          refine hM.out.mono ?_
          rintro e w4 ⟨rfl, hb5⟩
          have ho4 := ho3.step hb5
          have hb6 := bl_trans hb4 hb5
          have hs6 := hb6.size
          have oN := Own.new w4 41 (pfx 0 0 zero16)
          have hlt4 := ho4.lt
          clear ho3 hb4 hb5 hM
          go_wp2_with (first
            | (refine wpList_store_row rfl 41 _ _ rfl w4.heap.size (pfx 0 0 zero16) rfl rfl 41 (pfx 0 0 zero16) oN (pfx_info rfl) rfl (pfx_one 0 0 zero16) ?_)
            | (refine wpList_store_row rfl 41 _ _ rfl w.heap.size (pfx 0 0 zero16) rfl rfl 41 (pfx 0 0 zero16) (((Rest.setRowP (w4.alloc (.cells (pfx 0 0 zero16) 41)) w4.heap.size (pfx 0 0 zero16)).own (ho4.alloc (.cells (pfx 0 0 zero16) 41)) (fun e => by omega) : Own _ w.heap.size 41 (pfx 0 0 zero16))) (pfx_info rfl) rfl (pfx_one 0 0 zero16) ?_))
          have hfin := Own.setRow (cs' := pfx 0 0 zero16) (((Rest.setRowP (w4.alloc (.cells (pfx 0 0 zero16) 41)) w4.heap.size (pfx 0 0 zero16)).own (ho4.alloc (.cells (pfx 0 0 zero16) 41)) (fun e => by omega) : Own _ w.heap.size 41 (pfx 0 0 zero16)))
          exact bodyPost_ret (results_cell_tmp rfl _ _ w.heap.size 41 (pfx 0 0 zero16) _ rfl hfin pfx_desc rfl (pfx_info rfl)) rfl ⟨0, 0, zero16, false, rfl, zero16_addr, bl_setRow (bl_setRow (hb6.alloc hs6 (.cells (pfx 0 0 zero16) 41)) hs6) (Nat.le_refl _), .inr ⟨rfl, hR.out, rfl, rfl, rfl⟩⟩
        | true =>
          have hpa := padTo_addr hxs16 hxr
          have hma := maskL_addr (u : Int) hpa
          have hM := Lib.hid (pmake_yes f (u : Int) A n3 c3 xs w3 hB3 hmk)
          have hF := Lib.hid (show pParse t.data.toList = if (ptxtO f (u : Int) (maskL (u : Int) (padTo xs))).data.toList = t.data.toList then some (f, (u : Int), maskL (u : Int) (padTo xs)) else none by rw [hP4.out]; unfold finP; rw [← hxl, if_pos hmk])
          clear hP4 hmk hxl hxr hxs16 hB3 hpa
          generalize maskL (u : Int) (padTo xs) = a at *
          have HS := Lib.hid (pfx_size (f := f) (l := (u : Int)) hma.1)
          have HMA := Lib.hid hma
          clear hma
          go_wp2_with fail
          refine hM.out.mono ?_
          rintro e w4 ⟨rfl, hb5⟩
          have ho4 := ho3.step hb5
          have hb6 := bl_trans hb4 hb5
          have hs6 := hb6.size
          have oN := Own.new w4 41 (pfx 0 0 zero16)
          have hlt4 := ho4.lt
          have oV := Own.setRow (cs' := pfx f (u : Int) a) oN
          have hbV := bl_setRow (cs := pfx f (u : Int) a) (hb6.alloc hs6 (.cells (pfx 0 0 zero16) 41)) hs6
          have oR : Own ((w4.alloc (.cells (pfx 0 0 zero16) 41)).setRow w4.heap.size (pfx f (u : Int) a)) w.heap.size 41 (pfx 0 0 zero16) := (Rest.setRowP _ _ _).own (ho4.alloc (.cells (pfx 0 0 zero16) 41)) (fun e => by omega)
          clear ho3 hb4 hb5 hM ho4 hb6
          go_wp2_with (refine wpList_store_row rfl 41 _ _ rfl w4.heap.size (pfx f (u : Int) a) rfl rfl 41 (pfx 0 0 zero16) oN (pfx_info HMA.out.1) (by rw [HS.out]; rfl) (pfx_one _ _ _) ?_; (generalize (w4.alloc (.cells (pfx 0 0 zero16) 41)).setRow w4.heap.size (pfx f (u : Int) a) = w5 at *); (clear oN); (go_wp2_with (refine wpList_load_row_on (by rfl) 41 _ rfl w4.heap.size rfl 41 (pfx f (u : Int) a) (.struct (Tryd.prog.fieldsOf 41)) oV (by kernel_rfl) rfl (by rw [HS.out]; kernel_rfl) ?_)))
          have hTx := Lib.hid (ptext_any f (u : Int) a w5 HMA.out (HTN.out.below hbV) (HBN.out.below hbV))
          refine hTx.out.mono ?_
          rintro e w6 ⟨rfl, hb7⟩
          have oV6 := oV.step hb7
          have oR6 := oR.step hb7
          have hb8 := bl_trans hbV hb7
          generalize ptxtO f (u : Int) a = Z at *
          by_cases hT : Z = t
          · have q1 : (Z.toList == t.toList) = true := by rw [hT]; simp
            have hR := Lib.hid (show pParse t.data.toList = some (f, (u : Int), a) by rw [hF.out, if_pos (by rw [hT])])
            clear hF hTx hT oV oR hbV hb7
            go_wp2_with (first
              | (refine wpList_load_row rfl 41 _ rfl w4.heap.size rfl 41 (pfx f (u : Int) a) (0, 0) (.struct (Tryd.prog.fieldsOf 41)) oV6 (by kernel_rfl) rfl (by rw [HS.out]; kernel_rfl) ?_)
              | (refine wpList_store_row rfl 41 _ _ rfl w.heap.size (pfx f (u : Int) a) rfl rfl 41 (pfx 0 0 zero16) oR6 (pfx_info HMA.out.1) (by rw [HS.out]; rfl) (pfx_one _ _ _) ?_))
            have hfin := Own.setRow (cs' := pfx f (u : Int) a) oR6
            exact bodyPost_ret (results_cell_tmp rfl _ _ w.heap.size 41 (pfx f (u : Int) a) _ rfl hfin pfx_desc rfl (pfx_info HMA.out.1)) rfl ⟨f, (u : Int), a, true, rfl, HMA.out, bl_setRow hb8 (Nat.le_refl _), .inl ⟨rfl, hR.out⟩⟩
          · have q1 : (Z.toList == t.toList) = false := by
              rw [beq_eq_false_iff_ne]
              intro e
              rw [ByteArray.toList_eq, ByteArray.toList_eq] at e
              exact hT (ba_extP e)
            have hR := Lib.hid (show pParse t.data.toList = none by rw [hF.out, if_neg (fun e => hT (ba_extP e))])
            clear hF hTx hT oV oR hbV hb7
            go_wp2_with (refine wpList_store_row rfl 41 _ _ rfl w.heap.size (pfx 0 0 zero16) rfl rfl 41 (pfx 0 0 zero16) oR6 (pfx_info rfl) rfl (pfx_one 0 0 zero16) ?_)
            have hfin := Own.setRow (cs' := pfx 0 0 zero16) oR6
            exact bodyPost_ret (results_cell_tmp rfl _ _ w.heap.size 41 (pfx 0 0 zero16) _ rfl hfin pfx_desc rfl (pfx_info rfl)) rfl ⟨0, 0, zero16, false, rfl, zero16_addr, bl_setRow hb8 (Nat.le_refl _), .inr ⟨rfl, hR.out, rfl, rfl, rfl⟩⟩
    · have hR := Lib.hid (show pParse t.data.toList = none by rw [hP2.out, show dec8 cb = none from hu]; rfl)
      have ho2 := ho1.step hb2
      have hb3 := bl_trans hb1 hb2
      clear hP2 hPU hu ho1 hb1 hb2
      go_wp2_with (refine wpList_store_row rfl 41 _ _ rfl w.heap.size (pfx 0 0 zero16) rfl rfl 41 (pfx 0 0 zero16) ho2 (pfx_info rfl) rfl (pfx_one 0 0 zero16) ?_)
      have hfin := Own.setRow (cs' := pfx 0 0 zero16) ho2
      exact bodyPost_ret (results_cell_tmp rfl _ _ w.heap.size 41 (pfx 0 0 zero16) _ rfl hfin pfx_desc rfl (pfx_info rfl)) rfl ⟨0, 0, zero16, false, rfl, zero16_addr, bl_setRow hb3 (Nat.le_refl _), .inr ⟨rfl, hR.out, rfl, rfl, rfl⟩⟩
end Go.Proofs.YtecbbjdcnlocdaaDoor

/- texts of prefixes are read back (no memory) -/
namespace Go.Proofs.YtecbbjdcnlocdaaDoor
open Go.RowKit Go.Sort
theorem hexD_mem : ∀ k, k < 16 → (48 ≤ (hexD k).toNat ∧ (hexD k).toNat ≤ 57) ∨ (97 ≤ (hexD k).toNat ∧ (hexD k).toNat ≤ 102) := by decide +kernel
theorem hexD_val : ∀ k, k < 16 → hexV (hexD k) = some k := by decide +kernel
theorem hexS_mem : ∀ (n : Nat) (c : UInt8), c ∈ hexS n → (48 ≤ c.toNat ∧ c.toNat ≤ 57) ∨ (97 ≤ c.toNat ∧ c.toNat ≤ 102) := by
  intro n
  induction n using Nat.strongRecOn with
  | ind n ih =>
    intro c hc
    rw [hexS] at hc
    by_cases h : n < 16
    · rw [if_pos h, List.mem_singleton] at hc
      rw [hc]; exact hexD_mem n h
    · rw [if_neg h, List.mem_append, List.mem_singleton] at hc
      rcases hc with hc | hc
      · exact ih (n / 16) (by omega) c hc
      · rw [hc]; exact hexD_mem _ (by omega)
theorem hexS_ne (n : Nat) : hexS n ≠ [] := by
  rw [hexS]
  split <;> simp
theorem hexU_hex : ∀ (n : Nat) (r : List UInt8), n ≤ 65535 → hexU 0 (hexS n ++ r) = hexU n r := by
  intro n
  induction n using Nat.strongRecOn with
  | ind n ih =>
    intro r hn
    rw [hexS]
    by_cases h : n < 16
    · rw [if_pos h]
      show hexU 0 (hexD n :: r) = _
      rw [hexU_step (hexD_val n h) (by omega)]
      congr 1; omega
    · rw [if_neg h, List.append_assoc, ih (n / 16) (by omega) _ (by omega)]
      show hexU (n / 16) (hexD (n % 16) :: r) = _
      rw [hexU_step (hexD_val _ (by omega)) (by omega)]
      congr 1; omega
theorem hexU16_hex {n : Nat} (hn : n ≤ 65535) : hexU16 (hexS n) = some n := by
  unfold hexU16
  rw [if_neg (hexS_ne n)]
  have := hexU_hex n [] hn
  rw [List.append_nil] at this
  rw [this]; rfl
theorem dec8_dec {n : Nat} (hn : n ≤ 255) : dec8 (Lib.decDigits n) = some n := by
  have hu := uint_dec 255 (by omega) n [] hn
  rw [List.append_nil] at hu
  have hb : Lib.parseUintB 8 (Lib.decDigits n) = .ok n := by
    unfold Lib.parseUintB
    rw [if_neg (dec_ne n)]
    exact hu
  unfold dec8
  rw [hb]
theorem join_consP (x y : List UInt8) (r : List (List UInt8)) (sep : List UInt8) : Lib.join (x :: y :: r) sep = x ++ (sep ++ Lib.join (y :: r) sep) := by
  simp [Lib.join_cons, Lib.joinTail]
theorem split_join (d : UInt8) : ∀ (x : List UInt8) (xs : List (List UInt8)), (∀ y ∈ x :: xs, d ∉ y) → Lib.split (Lib.join (x :: xs) [d]) [d] = x :: xs
  | x, [], h => by
    rw [Lib.join_one, split_free d x (h x (by simp))]
  | x, y :: r, h => by
    rw [join_consP]
    show Lib.split (x ++ d :: Lib.join (y :: r) [d]) [d] = _
    rw [split_hit d x _ (h x (by simp)), split_join d y r (fun z hz => h z (List.mem_cons_of_mem _ hz))]
theorem join_mem {c d : UInt8} : ∀ (xs : List (List UInt8)), c ∈ Lib.join xs [d] → c = d ∨ ∃ y ∈ xs, c ∈ y
  | [], h => by rw [Lib.join_nil] at h; cases h
  | [x], h => by rw [Lib.join_one] at h; exact .inr ⟨x, by simp, h⟩
  | x :: y :: r, h => by
    rw [join_consP] at h
    rcases List.mem_append.1 h with h | h
    · exact .inr ⟨x, by simp, h⟩
    · rcases List.mem_cons.1 h with h | h
      · exact .inl h
      · rcases join_mem (y :: r) h with h | ⟨z, hz, hc⟩
        · exact .inl h
        · exact .inr ⟨z, List.mem_cons_of_mem _ hz, hc⟩
theorem idx_no {l : List UInt8} {c : UInt8} (h : c ∉ l) : ¬ 0 ≤ Lib.indexByte l c := by
  intro h0
  obtain ⟨o, ho⟩ := Int.eq_ofNat_of_zero_le h0
  obtain ⟨h1, _⟩ := Lib.indexByte_some ho
  exact h (List.mem_of_getElem? h1)
theorem idx_yes {l : List UInt8} {c : UInt8} (h : c ∈ l) : 0 ≤ Lib.indexByte l c := by
  have h1 := Lib.indexByte_ge l c
  by_cases h2 : Lib.indexByte l c = -1
  · obtain ⟨k, hk⟩ := List.mem_iff_getElem?.1 h
    exact absurd hk (Lib.indexByte_none h2 k)
  · omega
theorem numsP_map (rd : List UInt8 → Option Nat) (K : Nat) (g : Nat → List UInt8) : ∀ (ns : List Nat), (∀ n ∈ ns, rd (g n) = some n) → numsP rd K (ns.map g) = some (ns.flatMap fun n : Nat => digitsOf K (n : Int))
  | [], _ => rfl
  | n :: ns, h => by
    rw [List.map_cons, numsP, h n (by simp), numsP_map rd K g ns (fun m hm => h m (List.mem_cons_of_mem _ hm))]
    rfl
theorem joinB_list (xs : List ByteArray) (d : List UInt8) : (joinB xs d).data.toList = Lib.join (xs.map (·.data.toList)) d := by simp [joinB]
theorem decB_list (n : Int) : (decB n).data.toList = Lib.decDigits n.toNat := by simp [decB]
theorem hexB_list (n : Int) : (hexB n).data.toList = hexS n.toNat := by simp [hexB]
theorem keep_zero {l : Int} {i : Nat} (h : l ≤ 8 * i) : (keep l i).toNat = 0 := by unfold keep; omega
theorem top_zero {x : Int} (h0 : 0 ≤ x) (h1 : x ≤ 255) (h : top x 0 = x) : x = 0 := by
  unfold top at h
  have e : (2 : Int) ^ (8 - 0) = 256 := by decide
  rw [e] at h
  omega
theorem mask_tail {l : Int} {a : List Int} (ha : IsAddr a) (hm : maskL l a = a) {i : Nat} (hi : i < 16) (hl : l ≤ 8 * i) : nth a i = 0 := by
  have h1 := (ha.at_ hi).2
  have h2 : nth (maskL l a) i = nth a i := by rw [hm]
  have h3 : nth (maskL l a) i = top (nth a i) (keep l i).toNat := by
    have hia : i < a.length := by rw [ha.1]; exact hi
    simp [nth, maskL, hia]
  rw [h3, keep_zero hl] at h2
  exact top_zero h1.1 h1.2 h2
theorem pOk_fam {f l : Int} {a : List Int} (h : pfxOk f l a = true) : (f = 1 ∧ 0 ≤ l ∧ l ≤ 32 ∨ f = 2 ∧ 0 ≤ l ∧ l ≤ 128) ∧ maskL l a = a := by
  unfold pfxOk lenOk widthOf at h
  rw [Bool.and_eq_true, decide_eq_true_iff, decide_eq_true_iff] at h
  refine ⟨?_, h.2⟩
  have h1 := h.1
  by_cases e1 : f = 1
  · rw [if_pos e1] at h1; exact .inl ⟨e1, h1.2.1, h1.2.2⟩
  · rw [if_neg e1] at h1
    by_cases e2 : f = 2
    · rw [if_pos e2] at h1; exact .inr ⟨e2, h1.2.1, h1.2.2⟩
    · rw [if_neg e2] at h1; omega
theorem addr4 {a : List Int} (ha : IsAddr a) : addrP (joinB (words10 a 4) [46]).data.toList = some (1, a.take 4) ∧ (47 : UInt8) ∉ (joinB (words10 a 4) [46]).data.toList := by
  obtain ⟨x0, x1, x2, x3, x4, x5, x6, x7, x8, x9, x10, x11, x12, x13, x14, x15, rfl⟩ := list16 ha.1
  have hr := ha.2
  have e : (joinB (words10 [x0, x1, x2, x3, x4, x5, x6, x7, x8, x9, x10, x11, x12, x13, x14, x15] 4) [46]).data.toList = Lib.join ([x0.toNat, x1.toNat, x2.toNat, x3.toNat].map Lib.decDigits) [46] := by
    rw [joinB_list]
    unfold words10
    simp [decB_list]
  rw [e]
  have hfree : ∀ (c : UInt8), (c.toNat < 48 ∨ 57 < c.toNat) → ∀ y ∈ [x0.toNat, x1.toNat, x2.toNat, x3.toNat].map Lib.decDigits, c ∉ y := fun c hc y hy hcy => by
    obtain ⟨n, _, rfl⟩ := List.mem_map.1 hy
    have := dec_mem n c hcy
    omega
  constructor
  · unfold addrP
    have hsp := split_join 46 (Lib.decDigits x0.toNat) [Lib.decDigits x1.toNat, Lib.decDigits x2.toNat, Lib.decDigits x3.toNat] (hfree 46 (by decide))
    rw [if_pos (idx_yes (by show (46 : UInt8) ∈ Lib.join [Lib.decDigits x0.toNat, Lib.decDigits x1.toNat, Lib.decDigits x2.toNat, Lib.decDigits x3.toNat] [46]; rw [join_consP]; simp))]
    have hnm := numsP_map dec8 1 Lib.decDigits [x0.toNat, x1.toNat, x2.toNat, x3.toNat] (fun n hn => dec8_dec (by
      simp only [List.mem_cons, List.not_mem_nil, or_false] at hn
      have h0 := hr x0 (by simp)
      have h1 := hr x1 (by simp)
      have h2 := hr x2 (by simp)
      have h3 := hr x3 (by simp)
      rcases hn with rfl | rfl | rfl | rfl <;> omega))
    show (numsP dec8 1 (Lib.split (Lib.join [Lib.decDigits x0.toNat, Lib.decDigits x1.toNat, Lib.decDigits x2.toNat, Lib.decDigits x3.toNat] [46]) [46])).bind _ = _
    rw [hsp]
    show (numsP dec8 1 ([x0.toNat, x1.toNat, x2.toNat, x3.toNat].map Lib.decDigits)).bind _ = _
    rw [hnm]
    have h0 := hr x0 (by simp)
    have h1 := hr x1 (by simp)
    have h2 := hr x2 (by simp)
    have h3 := hr x3 (by simp)
    have g : ∀ x : Int, 0 ≤ x → x ≤ 255 → digitsOf 1 ((x.toNat : Nat) : Int) = [x] := fun x q0 q1 => by
      rw [Int.toNat_of_nonneg q0, digitsOf_1]
      congr 1
      omega
    simp only [List.flatMap_cons, List.flatMap_nil, g x0 h0.1 h0.2, g x1 h1.1 h1.2, g x2 h2.1 h2.2, g x3 h3.1 h3.2]
    rfl
  · intro hm
    rcases join_mem _ hm with h | ⟨y, hy, hc⟩
    · exact absurd h (by decide)
    · exact hfree 47 (by decide) y hy hc
theorem addr6 {a : List Int} (ha : IsAddr a) : addrP (joinB (words16 a 8) [58]).data.toList = some (2, a) ∧ (47 : UInt8) ∉ (joinB (words16 a 8) [58]).data.toList := by
  have hw : ∀ i, i < 8 → word16 a i ≤ 65535 ∧ digitsOf 2 (word16 a i : Int) = [nth a (2 * i), nth a (2 * i + 1)] := fun i hi => by
    have h1 := word16_le ha hi
    have h2 := (ha.at_ (i := 2 * i) (by omega)).2
    have h3 := (ha.at_ (i := 2 * i + 1) (by omega)).2
    refine ⟨h1.1, ?_⟩
    rw [h1.2, digitsOf_2]
    simp only [List.cons.injEq, and_true]
    omega
  have e : (joinB (words16 a 8) [58]).data.toList = Lib.join (((List.range 8).map (word16 a)).map hexS) [58] := by
    rw [joinB_list]
    unfold words16
    rw [List.map_map, List.map_map]
    congr 1
  rw [e]
  have hfree : ∀ (c : UInt8), (¬ (48 ≤ c.toNat ∧ c.toNat ≤ 57) ∧ ¬ (97 ≤ c.toNat ∧ c.toNat ≤ 102)) → ∀ y ∈ ((List.range 8).map (word16 a)).map hexS, c ∉ y := fun c hc y hy hcy => by
    obtain ⟨n, _, rfl⟩ := List.mem_map.1 hy
    have := hexS_mem n c hcy
    omega
  constructor
  · unfold addrP
    rw [if_neg (idx_no (by
      intro hm
      rcases join_mem _ hm with h | ⟨y, hy, hc⟩
      · exact absurd h (by decide)
      · exact hfree 46 (by decide) y hy hc))]
    have hr8 : List.range 8 = [0, 1, 2, 3, 4, 5, 6, 7] := by decide
    rw [hr8] at hfree ⊢
    have hsp := split_join 58 (hexS (word16 a 0)) ([1, 2, 3, 4, 5, 6, 7].map (fun i => hexS (word16 a i))) (hfree 58 (by decide))
    have hnm := numsP_map hexU16 2 hexS ([0, 1, 2, 3, 4, 5, 6, 7].map (word16 a)) (fun n hn => by
      obtain ⟨i, hi, rfl⟩ := List.mem_map.1 hn
      refine hexU16_hex (hw i ?_).1
      simp only [List.mem_cons, List.not_mem_nil, or_false] at hi
      omega)
    show (numsP hexU16 2 (Lib.split (Lib.join (hexS (word16 a 0) :: [1, 2, 3, 4, 5, 6, 7].map (fun i => hexS (word16 a i))) [58]) [58])).bind _ = _
    rw [hsp]
    show (numsP hexU16 2 (([0, 1, 2, 3, 4, 5, 6, 7].map (word16 a)).map hexS)).bind _ = _
    rw [hnm]
    simp only [List.map_cons, List.map_nil, List.flatMap_cons, List.flatMap_nil]
    rw [(hw 0 (by omega)).2, (hw 1 (by omega)).2, (hw 2 (by omega)).2, (hw 3 (by omega)).2, (hw 4 (by omega)).2, (hw 5 (by omega)).2, (hw 6 (by omega)).2, (hw 7 (by omega)).2]
    obtain ⟨x0, x1, x2, x3, x4, x5, x6, x7, x8, x9, x10, x11, x12, x13, x14, x15, rfl⟩ := list16 ha.1
    rfl
  · intro hm
    rcases join_mem _ hm with h | ⟨y, hy, hc⟩
    · exact absurd h (by decide)
    · exact hfree 47 (by decide) y hy hc
/-- The text of a valid prefix is parsed to it. -/
theorem pParse_text {f l : Int} {a : List Int} (ha : IsAddr a) (hk : pfxOk f l a = true) : pParse (ptxt f l a).data.toList = some (f, l, a) := by
  obtain ⟨hf, hm⟩ := pOk_fam hk
  have hl := pfxOk_range hk
  have hO : ptxtO f l a = ptxt f l a := if_pos hk
  have hlen : lenOk f l = true := by unfold pfxOk at hk; rw [Bool.and_eq_true] at hk; exact hk.1
  have key : ∀ (J : ByteArray) (xs : List Int), ptxt f l a = J ++ ⟨#[47]⟩ ++ decB l → addrP J.data.toList = some (f, xs) → (47 : UInt8) ∉ J.data.toList → makeOk f l xs.length = true → padTo xs = a → pParse (ptxt f l a).data.toList = some (f, l, a) := fun J xs e1 h1 h2 h3 h4 => by
    have e2 : (ptxt f l a).data.toList = J.data.toList ++ 47 :: Lib.decDigits l.toNat := by
      rw [e1, ← decB_list]; simp
    unfold pParse
    rw [e2, cut_hit 47 _ _ h2, if_pos rfl]
    dsimp only
    rw [dec8_dec (by omega), h1]
    show finP _ f ((l.toNat : Nat) : Int) xs = _
    unfold finP
    rw [Int.toNat_of_nonneg hl.1, if_pos h3, h4, hm, hO, if_pos e2]
  rcases hf with ⟨rfl, h1, h2⟩ | ⟨rfl, h1, h2⟩
  · obtain ⟨q1, q2⟩ := addr4 ha
    refine key _ (a.take 4) (by unfold ptxt; rw [if_pos rfl]; rfl) q1 q2 ?_ ?_
    · unfold makeOk
      rw [hlen, List.length_take, ha.1]
      rfl
    · have z : ∀ i, 4 ≤ i → i < 16 → nth a i = 0 := fun i h4 h16 => mask_tail ha hm h16 (by omega)
      obtain ⟨x0, x1, x2, x3, x4, x5, x6, x7, x8, x9, x10, x11, x12, x13, x14, x15, rfl⟩ := list16 ha.1
      have z4 : x4 = 0 := z 4 (by omega) (by omega)
      have z5 : x5 = 0 := z 5 (by omega) (by omega)
      have z6 : x6 = 0 := z 6 (by omega) (by omega)
      have z7 : x7 = 0 := z 7 (by omega) (by omega)
      have z8 : x8 = 0 := z 8 (by omega) (by omega)
      have z9 : x9 = 0 := z 9 (by omega) (by omega)
      have z10 : x10 = 0 := z 10 (by omega) (by omega)
      have z11 : x11 = 0 := z 11 (by omega) (by omega)
      have z12 : x12 = 0 := z 12 (by omega) (by omega)
      have z13 : x13 = 0 := z 13 (by omega) (by omega)
      have z14 : x14 = 0 := z 14 (by omega) (by omega)
      have z15 : x15 = 0 := z 15 (by omega) (by omega)
      rw [z4, z5, z6, z7, z8, z9, z10, z11, z12, z13, z14, z15]
      rfl
  · obtain ⟨q1, q2⟩ := addr6 ha
    refine key _ a (by unfold ptxt; rw [if_neg (by decide)]; rfl) q1 q2 ?_ ?_
    · unfold makeOk
      rw [hlen, ha.1]
      rfl
    · unfold padTo
      rw [ha.1]
      show a ++ List.replicate 0 0 = a
      rw [List.replicate_zero, List.append_nil]
theorem pParse_nil : pParse [] = none := rfl
/-- What is parsed has that text. -/
theorem pParse_says {s : List UInt8} {f l : Int} {a : List Int} (h : pParse s = some (f, l, a)) : (ptxtO f l a).data.toList = s := by
  unfold pParse at h
  split at h
  · obtain ⟨n, _, h⟩ := Option.bind_eq_some_iff.1 h
    obtain ⟨p, _, h⟩ := Option.bind_eq_some_iff.1 h
    unfold finP at h
    split at h
    · split at h
      · rename_i e
        have h2 := Option.some.inj h
        injection h2 with h3 h4
        injection h4 with h5 h6
        subst h3 h5 h6
        exact e
      · cases h
    · cases h
  · cases h
end Go.Proofs.YtecbbjdcnlocdaaDoor

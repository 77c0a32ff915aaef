/- XMtM1: XPhA, XPhB, XPfxW, XPfxB, XPfxC, XPtx, XPtA, XAdr, XPtB, XPfxM, XRdrB, XPfxR, XRt, XNb, XStepG, XApAt, XMtA in one text -/
import Derived.Test.YtecbbjdcnlocdaaDoorDec
import Derived.Test.YtecbbjdcnlocdaaDoorFmt
import Derived.Test.YtecbbjdcnlocdaaDoorPfxE
import Derived.Test.YtecbbjdcnlocdaaDoorTen
import Derived.Laws.CopyOwn
import Derived.Test.YtecbbjdcnlocdaaDoorNum
import Derived.Test.YtecbbjdcnlocdaaDoorPut
import Derived.Deep.RegionHeld3
import Derived.Maps.AppendAt
import Derived.Deep.RegionLaw
/- numbers at base 16: strconv.FormatUint, peerageref02.digits -/
namespace Go.Proofs.YtecbbjdcnlocdaaDoor
open Go.RowKit Go.Sort
/-- A number's text at base 16. -/
def hexS (n : Nat) : List UInt8 := if n < 16 then [hexD n] else hexS (n / 16) ++ [hexD (n % 16)]
termination_by n
decreasing_by omega
def hexPre (k : Nat) : List UInt8 := if k < 16 then [] else hexS (k / 16)
theorem hexPre_small {k : Nat} (h : k < 16) : hexPre k = [] := if_pos h
theorem hexPre_step (k : Nat) : hexS k = hexPre k ++ [hexD (k % 16)] := by
  rw [hexS]
  unfold hexPre
  by_cases h : k < 16
  · rw [if_pos h, if_pos h, Nat.mod_eq_of_lt h]; rfl
  · rw [if_neg h, if_neg h]
theorem hexS_len : ∀ (m k : Nat), k < 16 ^ (m + 1) → (hexS k).length ≤ m + 1
  | 0, k, h => by
    rw [hexS, if_pos (by simpa using h)]; simp
  | m + 1, k, h => by
    rw [hexS]
    by_cases hk : k < 16
    · rw [if_pos hk]; simp
    · rw [if_neg hk, List.length_append]
      have := hexS_len m (k / 16) (by rw [Nat.pow_succ] at h; omega)
      simp; omega
theorem hexS_len4 {k : Nat} (h : k ≤ 65535) : (hexS k).length ≤ 4 := hexS_len 3 k (by omega)
def hexB (n : Int) : ByteArray := ⟨(hexS n.toNat).toArray⟩
theorem hexB_size {n : Int} (h : n ≤ 65535) : (hexB n).size ≤ 4 := by
  have := hexS_len4 (k := n.toNat) (by omega)
  unfold hexB
  show (hexS n.toNat).toArray.size ≤ 4
  simpa using this
theorem hexPre_len {n : Int} {k : Nat} {t : List UInt8} (h : hexS n.toNat = hexPre k ++ t) (h1 : n ≤ 65535) : t.length ≤ 4 := by
  have := hexS_len4 (k := n.toNat) (by omega)
  rw [h, List.length_append] at this
  omega
set_option maxRecDepth 100000 in
set_option maxHeartbeats 800000 in
theorem rdigits16_any (n : Int) (h0 : 0 ≤ n) (h1 : n ≤ 65535) (w : World) :
    Calls Tryd.prog 61 #[.int .i64 n, .int .i64 16] w fun e w' => e = .returned (.string (hexB n)) ∧ Below w.heap.size w w' := by
  have r0 := dg_range 16 n h0 (by omega)
  have r1 := r0.1
  have r2 := r0.2
  have HD := Lib.hid (ext_digit (n % 16) (by omega) (by omega))
  have w1' : IntKind.i64.wrap (n % 16 + 1) = n % 16 + 1 := IntWalk.i64_in _ (by omega)
  clear r0
  go_enter Tryd.func61, Tryd.ntmps61
  go_wp2_with fail
  refine wp_region_quiet_below (by kernel_rfl) (by kernel_rfl) ?_
  repeat (go_big_quiet_step (fail))
  rw [HD.out]
  refine wpQuiet_nil ?_
  rintro _ ⟨⟨dq, osq⟩, rfl⟩
  have hb1 := below_regrown w dq osq
  generalize grow (redrawn w dq) osq = w1 at *
  clear r1 r2 HD w1'
  go_wp2
  go_loopw [0, 5] (fun m s wr => ∃ k : Nat, ∃ t : List UInt8, (k : Int) ≤ n ∧ m = .int .i64 k ∧ s = .string ⟨t.toArray⟩ ∧ Hid (hexS n.toNat = hexPre k ++ t) ∧ Below w.heap.size w wr) (fun m _ _ => (intOf m).toNat)
  case atStart => exact ⟨n.toNat, [hexD (n % 16).toNat], by omega, by rw [Int.toNat_of_nonneg h0], rfl, Lib.hid (by rw [hexPre_step, Int.toNat_emod h0 (by omega)]; rfl), hb1⟩
  case round =>
    obtain ⟨k, t, hk, rfl, rfl, HT, hbr⟩ := hrel
    have htl := hexPre_len HT.out (by omega)
    clear hb1
    by_cases hlt : (k : Int) < 16
    · have ht : Hid (hexS n.toNat = t) := Lib.hid (by rw [HT.out, hexPre_small (by omega)]; rfl)
      go_wp2
      go_ret
      refine ⟨?_, hbr⟩
      unfold hexB
      rw [show hexS n.toNat = t from ht.out]
      rfl
    · have r0 := dg_range 16 ((k : Int) / 16) (by omega) (by omega)
      have r1 := r0.1
      have r2 := r0.2
      have HD := Lib.hid (ext_digitN (k / 16 % 16) (by omega))
      have w1' : IntKind.i64.wrap ((k : Int) / 16 % 16 + 1) = (k : Int) / 16 % 16 + 1 := IntWalk.i64_in _ (by omega)
      have n1 : ¬ 9223372036854775807 < 1 + t.length := by omega
      clear r0
      go_wp2_with fail
      refine wp_region_quiet_below (by kernel_rfl) (by kernel_rfl) ?_
      repeat (go_big_quiet_step (fail))
      rw [HD.out]
      refine wpQuiet_nil ?_
      rintro _ ⟨⟨dq2, osq2⟩, rfl⟩
      have hb2 := bl_trans hbr (below_regrown wr dq2 osq2)
      generalize grow (redrawn wr dq2) osq2 = w2 at *
      go_roundw
      case rel =>
        (repeat apply Exists.intro)
        refine ⟨⟨k / 16, hexD (k / 16 % 16) :: t, by omega, by go_num, ?_, Lib.hid ?_, hb2⟩, rfl⟩
        · exact congrArg Value.string (ba_cons _ _)
        · rw [HT.out]
          have e : hexPre k = hexPre (k / 16) ++ [hexD (k / 16 % 16)] := by rw [← hexPre_step]; exact if_neg (by omega)
          rw [e]
          simp
      case measure => simp [intOf]; omega
/-- What the walks ask of math/bits.deBruijn64tab. -/
def Brn (w : World) : Prop := w.cell? ⟨7, 15, none⟩ = some (.int .u8 4) ∧ 7 < w.heap.size
theorem Brn.below {w w' : World} (h : Brn w) (hb : Below w.heap.size w w') : Brn w' :=
  ⟨(hb.cell (p := ⟨7, 15, none⟩) h.2).trans h.1, Nat.lt_of_lt_of_le h.2 hb.size⟩
set_option maxRecDepth 100000 in
theorem tz64_16 (w : World) (h : Brn w) : Calls Tryd.prog 144 #[.int .u64 16] w fun e w' => e = .returned (.int .i64 4) ∧ w = w' := by
  obtain ⟨h1, h2⟩ := h
  have hx1 : IntKind.u64.wrap (-16) = 18446744073709551600 := by kernel_rfl
  have hx2 : bits BinOp.and IntKind.u64 16 18446744073709551600 = 16 := by kernel_rfl
  have hx3 : IntKind.u64.wrap 4573923408821661840 = 4573923408821661840 := by kernel_rfl
  go_enter Tryd.func144, Tryd.ntmps144
  go_wp2
  go_ret
  exact ⟨rfl, rfl⟩
set_option maxRecDepth 100000 in
theorem tz_16 (w : World) (h : Brn w) : Calls Tryd.prog 132 #[.int .u64 16] w fun e w' => e = .returned (.int .i64 4) ∧ w = w' := by
  have hc := Lib.hid (tz64_16 w h)
  clear h
  go_enter Tryd.func132, Tryd.ntmps132
  go_wp2_with fail
  refine hc.out.mono ?_
  rintro e w' ⟨rfl, rfl⟩
  go_wp2
  go_ret
  exact ⟨rfl, rfl⟩
set_option maxRecDepth 100000 in
theorem pow2_16 (w : World) : Calls Tryd.prog 131 #[.int .i64 16] w fun e w' => e = .returned (.bool true) ∧ w = w' := by
  have hx1 : bits BinOp.and IntKind.i64 16 15 = 0 := by kernel_rfl
  go_enter Tryd.func131, Tryd.ntmps131
  go_wp2
  go_ret
  exact ⟨rfl, rfl⟩
end Go.Proofs.YtecbbjdcnlocdaaDoor

/- strconv.FormatUint at base 16 -/
namespace Go.Proofs.YtecbbjdcnlocdaaDoor
open Go.RowKit Go.Sort
theorem lit36 : ∀ d, d < 16 → (#[48, 49, 50, 51, 52, 53, 54, 55, 56, 57, 97, 98, 99, 100, 101, 102, 103, 104, 105, 106, 107, 108, 109, 110, 111, 112, 113, 114, 115, 116, 117, 118, 119, 120, 121, 122] : Array UInt8)[d]? = some (hexD d) := by decide +kernel
set_option maxRecDepth 100000 in
theorem idx36 (d : Nat) (h : d < 16) (K : IntKind) (W : World) : (Instr.index 9 (.string ⟨#[48, 49, 50, 51, 52, 53, 54, 55, 56, 57, 97, 98, 99, 100, 101, 102, 103, 104, 105, 106, 107, 108, 109, 110, 111, 112, 113, 114, 115, 116, 117, 118, 119, 120, 121, 122]⟩) (.int K (d : Int))).run Tryd.prog W = .ok (.int .u8 ((hexD d).toNat : Int)) W := by
  obtain ⟨h1, h2⟩ := Array.getElem?_eq_some_iff.1 (lit36 d h)
  rw [run_index_string (P := Tryd.prog) W 9 _ K _ (by kernel_rfl), dif_pos ⟨by omega, by show (d : Int) < ((36 : Nat) : Int); omega⟩, ← h2]
  rfl
theorem and15 (n : Nat) (h : n ≤ 65535) : bits BinOp.and IntKind.u64 (n : Int) 15 = ((n % 16 : Nat) : Int) := by
  show IntKind.u64.wrap ((BitVec.ofInt 64 (n : Int) &&& BitVec.ofInt 64 15).toNat : Int) = _
  have e1 : (BitVec.ofInt 64 (n : Int)).toNat = n := by
    rw [BitVec.ofInt_natCast, BitVec.toNat_ofNat]; exact Nat.mod_eq_of_lt (by omega)
  have e2 : n &&& 15 = n % 16 := Nat.and_two_pow_sub_one_eq_mod n 4
  rw [BitVec.toNat_and, e1, show (BitVec.ofInt 64 15).toNat = 15 from rfl, e2, IntKind.wrap_u64]
  omega
theorem set_dropQ (cs : Array Value) (i : Nat) (h : i < cs.size) (v : Value) : (cs.setIfInBounds i v).toList.drop i = v :: cs.toList.drop (i + 1) := by
  rw [Array.toList_setIfInBounds, List.drop_eq_getElem_cons (by rw [List.length_set, Array.length_toList]; exact h), List.getElem_set_self, List.drop_set_of_lt (by omega)]
/-- What lies in the array of digits. -/
def DgI (u : Nat) (k p : Nat) (t : List UInt8) (cs : Array Value) : Prop := cs.size = 65 ∧ cs.toList.drop p = t.map (fun b => Value.int .u8 (b.toNat : Int)) ∧ hexS u = hexS k ++ t ∧ p + t.length = 65
theorem DgI.room {u k p : Nat} {t : List UInt8} {cs : Array Value} (h : DgI u k p t cs) (hu : u ≤ 65535) : 1 ≤ p ∧ p ≤ 65 := by
  have h1 := hexS_len4 hu
  rw [h.2.2.1, List.length_append] at h1
  have := h.2.2.2
  omega
theorem DgI.step {u k p : Nat} {t : List UInt8} {cs : Array Value} (h : DgI u k (p + 1) t cs) (hk : 16 ≤ k) : DgI u (k / 16) p (hexD (k % 16) :: t) (cs.setIfInBounds p (.int .u8 ((hexD (k % 16)).toNat : Int))) := by
  obtain ⟨h1, h2, h3, h4⟩ := h
  refine ⟨by rw [Array.size_setIfInBounds]; exact h1, ?_, ?_, by rw [List.length_cons]; omega⟩
  · rw [set_dropQ _ _ (by omega), h2]; rfl
  · rw [h3, hexS, if_neg (by omega)]
    simp
theorem DgI.last {u k p : Nat} {t : List UInt8} {cs : Array Value} (h : DgI u k (p + 1) t cs) (hk : k < 16) : hexS u = hexD k :: t ∧ (cs.setIfInBounds p (.int .u8 ((hexD k).toNat : Int))).toList.drop p = (hexD k :: t).map (fun b => Value.int .u8 (b.toNat : Int)) ∧ p + (hexD k :: t).length = 65 := by
  obtain ⟨h1, h2, h3, h4⟩ := h
  refine ⟨?_, ?_, by rw [List.length_cons]; omega⟩
  · rw [h3, hexS, if_pos hk]; rfl
  · rw [set_dropQ _ _ (by omega), h2]; rfl
set_option maxRecDepth 100000 in
set_option maxHeartbeats 3200000 in
theorem fbits16 (u : Nat) (hu : u ≤ 65535) (w : World) (hb : Brn w) :
    Calls Tryd.prog 111 #[.slice none 0 0, .int .u64 (u : Int), .int .i64 16, .bool false, .bool false] w fun e w' => e = .returned (.tuple #[.slice none 0 0, .string (hexB u)]) ∧ Below w.heap.size w w' := by
  have HB := Lib.hid hb
  have HU := Lib.hid hu
  clear hb
  go_enter Tryd.func111, Tryd.ntmps111
  go_wp2_with fail
  refine (pow2_16 _).mono ?_
  rintro e w' ⟨rfl, rfl⟩
  go_wp2_with fail
  refine (tz_16 _ (HB.out.below (bl_alloc (bl_refl w) _))).mono ?_
  rintro e w' ⟨rfl, rfl⟩
  go_wp2_with fail
  go_loopw [1, 13] (fun v i wr => ∃ (k p : Nat) (t : List UInt8) (cs : Array Value), v = .int .u64 (k : Int) ∧ i = .int .i64 (p : Int) ∧ Own wr w.heap.size 163 cs ∧ Hid (DgI u k p t cs) ∧ k ≤ 65535 ∧ Below w.heap.size w wr) (fun v _ _ => (intOf v).toNat)
  case atStart => exact ⟨u, 65, [], _, rfl, rfl, Own.new w _ _, Lib.hid ⟨by kernel_rfl, by kernel_rfl, by simp, rfl⟩, HU.out, bl_alloc (bl_refl w) _⟩
  case round =>
    obtain ⟨k, p, t, cs, rfl, rfl, ho, hD, hk, hbr⟩ := hrel
    have hpp := hD.out.room HU.out
    obtain ⟨p', rfl⟩ : ∃ p', p = p' + 1 := ⟨p - 1, by omega⟩
    have hw1 : IntKind.i64.wrap (p' : Int) = (p' : Int) := by rw [IntKind.wrap_i64]; omega
    have hp65 : (p' : Int) < 65 := by omega
    have hlt := ho.lt
    have hfr := ho.frozen p'
    have hcs : p' < cs.size := by rw [hD.out.1]; omega
    obtain ⟨ov, hcell⟩ : ∃ ov, wr.cell? ⟨w.heap.size, p', none⟩ = some ov := ⟨cs[p'], ho.cell (Array.getElem?_eq_getElem hcs)⟩
    by_cases h16 : 16 ≤ k
    · have h16i : (16 : Int) ≤ (k : Int) := by omega
      have hband := and15 k hk
      have hix := fun W => idx36 (k % 16) (by omega) .u64 W
      have hsh : (k : Int) / 2 ^ (4 : Int).toNat = ((k / 16 : Nat) : Int) := by show (k : Int) / 16 = _; omega
      have hS := Lib.hid (hD.out.step h16)
      have ho2 := ho.set_ p' (.int .u8 ((hexD (k % 16)).toNat : Int))
      have hb2 := hbr.setCell (p := ⟨w.heap.size, p', none⟩) (Nat.le_refl _) (.int .u8 ((hexD (k % 16)).toNat : Int))
      generalize hexD (k % 16) = dg at *
      generalize (k % 16 : Nat) = km at *
      clear hcs hpp
      go_wp2
      go_roundw
      case rel => exact ⟨k / 16, p', dg :: t, _, by go_num, rfl, ho2, hS, by omega, hb2⟩
      case measure => simp [intOf]; omega
    · have h16i : ¬ (16 : Int) ≤ (k : Int) := by omega
      have hix := fun W => idx36 k (by omega) .u64 W
      have hS := Lib.hid (hD.out.last (by omega))
      have ho2 := ho.set_ p' (.int .u8 ((hexD k).toNat : Int))
      have hb2 := hbr.setCell (p := ⟨w.heap.size, p', none⟩) (Nat.le_refl _) (.int .u8 ((hexD k).toNat : Int))
      have hq : 65 - p' = (hexD k :: t).length := by have := hS.out.2.2; omega
      have hsl : ∀ W, (Instr.sliceAt 163 (.pointer (some ⟨w.heap.size, 0, none⟩)) (some (.int .i64 (p' : Int))) none none).run Tryd.prog W = .ok (.slice (some ⟨w.heap.size, p', none⟩) (hexD k :: t).length (hexD k :: t).length) W := fun W => by
        have hal : Tryd.prog.arrayLen 163 = 65 := by simp [Program.arrayLen, Tryd.underlying163]
        rw [run_sliceAt_array_l W 163 ⟨w.heap.size, 0, none⟩ (by simp [Program.arrayLen, Program.elem, Tryd.underlying163]) .i64 (p' : Int) (by omega) (by rw [hal]; omega)]
        rw [← hq]
        go_simp
        intro h
        omega
      have hcv : (convert 25 9 (.slice (some ⟨w.heap.size, p', none⟩) (hexD k :: t).length (hexD k :: t).length)).run Tryd.prog (wr.setCell ⟨w.heap.size, p', none⟩ (.int .u8 ((hexD k).toNat : Int))) = .ok (.string ⟨(hexD k :: t).toArray⟩) (wr.setCell ⟨w.heap.size, p', none⟩ (.int .u8 ((hexD k).toNat : Int))) :=
        run_convert_bytes_back (P := Tryd.prog) _ 25 9 5 ⟨w.heap.size, p', none⟩ _ (hexD k :: t) Tryd.underlying25 Tryd.underlying5 Tryd.underlying9 (fun j hj => by
          have h2 := hS.out.2.1
          have h3 := congrArg (fun l => l[j]?) h2
          simp only [List.getElem?_drop, List.getElem?_map, List.getElem?_eq_getElem hj, Option.map_some] at h3
          rw [Addr.add_lit]
          exact ho2.cell (by rw [← Array.getElem?_toList]; exact h3))
      have hR := Lib.hid (show (⟨(hexD k :: t).toArray⟩ : ByteArray) = hexB u by unfold hexB; rw [Int.toNat_natCast, hS.out.1])
      clear hS hq
      generalize hexD k :: t = tt at *
      generalize hexD k = dg at *
      clear hcs hpp ho2
      go_wp2
      go_ret2
      exact ⟨by rw [← hR.out]; rfl, hb2⟩
set_option maxRecDepth 100000 in
theorem ifmt16_any (u : Nat) (hu : u ≤ 65535) (w : World) (hb : Brn w) :
    Calls Tryd.prog 78 #[.int .u64 (u : Int), .int .i64 16] w fun e w' => e = .returned (.string (hexB u)) ∧ Below w.heap.size w w' := by
  have HC := Lib.hid (fbits16 u hu w hb)
  clear hb
  go_enter Tryd.func78, Tryd.ntmps78
  go_wp2_with fail
  refine HC.out.mono ?_
  rintro e w1 ⟨rfl, hb1⟩
  go_wp2
  go_ret
  exact ⟨rfl, hb1⟩
set_option maxRecDepth 100000 in
theorem fmt16_any (u : Nat) (hu : u ≤ 65535) (w : World) (hb : Brn w) :
    Calls Tryd.prog 43 #[.int .u64 (u : Int), .int .i64 16] w fun e w' => e = .returned (.string (hexB u)) ∧ Below w.heap.size w w' := by
  go_enter Tryd.func43, Tryd.ntmps43
  go_wp2_with fail
  refine (ifmt16_any u hu w hb).mono ?_
  rintro e w1 ⟨rfl, hb1⟩
  go_wp2
  go_ret
  exact ⟨rfl, hb1⟩
end Go.Proofs.YtecbbjdcnlocdaaDoor

/- prefix.Valid -/
namespace Go.Proofs.YtecbbjdcnlocdaaDoor
open Go.RowKit

set_option maxHeartbeats 800000 in
set_option maxRecDepth 100000 in
theorem pvalid_yes (f l : Int) (a : List Int) (w : World) (ha : IsAddr a) (hk : lenOk f l = true) :
    Calls Tryd.prog 24 #[.agg (pfx f l a)] w fun e w' => e = .returned (.bool (pfxOk f l a)) ∧ Below w.heap.size w w' := by
  have h0 := pfx_0 f l a
  have h1 := pfx_1 f l a
  have hk2 := hk
  simp only [lenOk, decide_eq_true_eq] at hk2
  have hw : widthOf f ≤ 128 := by unfold widthOf; split <;> (try split) <;> omega
  have hu := Tryd.underlying39
  have hi : (Tryd.prog.info? 39).map (·.size) = some (a.map (Value.int .u8)).length := by rw [List.length_map, ha.1]; exact size_16
  have heq : ∀ W, (binOp .eql 86 (.agg (arr (maskL l a))) (.agg (a.map (Value.int .u8)).toArray)).run Tryd.prog W = .ok (.bool (decide (maskL l a = a))) W := fun W => eql_arr 86 (maskL l a) a Tryd.underlying86 (maskL_addr l ha) ha W
  have ho := Own.new w 41 (pfx f l a)
  have hb0 := bl_alloc (bl_refl w) (.cells (pfx f l a) 41)
  go_enter Tryd.func24, Tryd.ntmps24
  go_wp2_with fail
  generalize w.alloc (.cells (pfx f l a) 41) = w1 at ho hb0 ⊢
  refine wp_region_held_drew (S := (fun W => W.cell? ⟨w.heap.size, 0, none⟩ = some (.int .i64 f) ∧ W.cell? ⟨w.heap.size, 1, none⟩ = some (.int .i64 l) ∧ W.rangeAt w.heap.size 2 (a.map (Value.int .u8)) ∧ Own W w.heap.size 41 (pfx f l a) ∧ Below w.heap.size w W)) (by kernel_rfl) (pfxS ho.drew hb0.drew) (fun hHeld => ?_)
  refine wpAnyH_take (i := 0) (v := ?_) rfl (by kernel_rfl) (by kernel_rfl) (by kernel_rfl) (fun _ _ _ h => h) (Or.inl ⟨by rfl, ?_⟩) (by assumption) ?_
  rotate_left
  · (intro W hSw; obtain ⟨s1, s2, s3, s4, s5⟩ := hSw; go_simp; try with_reducible rfl)
  simp only [Act.put, List.getElem_toArray, List.getElem_cons_zero, List.setIfInBounds_toArray, List.set_cons_zero, List.set_cons_succ]
  refine wpAnyH_take (i := 1) (v := ?_) rfl (by kernel_rfl) (by kernel_rfl) (by kernel_rfl) (fun _ _ _ h => h) (Or.inl ⟨by rfl, ?_⟩) (by assumption) ?_
  rotate_left
  · (intro W hSw; obtain ⟨s1, s2, s3, s4, s5⟩ := hSw; go_simp; try with_reducible rfl)
  simp only [Act.put, List.getElem_toArray, List.getElem_cons_zero, List.getElem_cons_succ, List.setIfInBounds_toArray, List.set_cons_zero, List.set_cons_succ]
  refine wpAnyH_take (i := 2) (v := ?_) rfl (by kernel_rfl) (by kernel_rfl) (by kernel_rfl) (fun _ _ _ h => h) (Or.inl ⟨by rfl, ?_⟩) (by assumption) ?_
  rotate_left
  · (intro W hSw; obtain ⟨s1, s2, s3, s4, s5⟩ := hSw; go_simp; try with_reducible rfl)
  simp only [Act.put, List.getElem_toArray, List.getElem_cons_zero, List.getElem_cons_succ, List.setIfInBounds_toArray, List.set_cons_zero, List.set_cons_succ]
  refine wpAnyH_take (i := 3) (v := ?_) rfl (by kernel_rfl) (by kernel_rfl) (by kernel_rfl) (fun _ _ _ h => h) (Or.inl ⟨by rfl, ?_⟩) (by assumption) ?_
  rotate_left
  · (intro W hSw; obtain ⟨s1, s2, s3, s4, s5⟩ := hSw; go_simp; try with_reducible rfl)
  simp only [Act.put, List.getElem_toArray, List.getElem_cons_zero, List.getElem_cons_succ, List.setIfInBounds_toArray, List.set_cons_zero, List.set_cons_succ]
  refine wpAnyH_ready (rs := [4]) (by kernel_rfl) (by simp) ?_
  refine AllReadyH.cons rfl (fun K hK => ?_) AllReadyH.nil
  go_simp
  refine (hasLength_any f l _).mono ?_; rw [hk]; rintro e w2 ⟨rfl, rfl⟩
  refine hK.out _ _ (pfxS ho.drew hb0.drew) (fun hHeld2 => ?_)
  clear hK K hHeld
  try simp only [Act.put, List.getElem_toArray, List.getElem_cons_zero, List.getElem_cons_succ, List.setIfInBounds_toArray, List.set_cons_zero, List.set_cons_succ]
  refine wpAnyH_take (i := 5) (v := ?_) rfl (by kernel_rfl) (by kernel_rfl) (by kernel_rfl) (fun _ _ _ h => h) (Or.inl ⟨by rfl, ?_⟩) (by assumption) ?_
  rotate_left
  · (intro W hSw; obtain ⟨s1, s2, s3, s4, s5⟩ := hSw; go_simp; try with_reducible rfl)
  simp only [Act.put, List.getElem_toArray, List.getElem_cons_zero, List.getElem_cons_succ, List.setIfInBounds_toArray, List.set_cons_zero, List.set_cons_succ]
  refine wpAnyH_take (i := 6) (v := ?_) rfl (by kernel_rfl) (by kernel_rfl) (by kernel_rfl) (fun _ _ _ h => h) (Or.inl ⟨by rfl, ?_⟩) (by assumption) ?_
  rotate_left
  · (intro W hSw; obtain ⟨s1, s2, s3, s4, s5⟩ := hSw; go_simp; try with_reducible rfl)
  simp only [Act.put, List.getElem_toArray, List.getElem_cons_zero, List.getElem_cons_succ, List.setIfInBounds_toArray, List.set_cons_zero, List.set_cons_succ]
  refine wpAnyH_take (i := 7) (v := _) rfl (by kernel_rfl) (by kernel_rfl) (by kernel_rfl) (fun _ _ _ h => h) (yieldsIf_load_mid (by rfl) _ _ rfl _ _ rfl (a.map (Value.int .u8)) _ (fun W hW => hW.2.2.1) hu rfl hi) (by assumption) ?_
  simp only [Act.put, List.getElem_toArray, List.getElem_cons_zero, List.getElem_cons_succ, List.setIfInBounds_toArray, List.set_cons_zero, List.set_cons_succ]
  refine wpAnyH_take (i := 8) (v := ?_) rfl (by kernel_rfl) (by kernel_rfl) (by kernel_rfl) (fun _ _ _ h => h) (Or.inl ⟨by rfl, ?_⟩) (by assumption) ?_
  rotate_left
  · (intro W hSw; obtain ⟨s1, s2, s3, s4, s5⟩ := hSw; go_simp; try with_reducible rfl)
  simp only [Act.put, List.getElem_toArray, List.getElem_cons_zero, List.getElem_cons_succ, List.setIfInBounds_toArray, List.set_cons_zero, List.set_cons_succ]
  refine wpAnyH_take (i := 9) (v := ?_) rfl (by kernel_rfl) (by kernel_rfl) (by kernel_rfl) (fun _ _ _ h => h) (Or.inl ⟨by rfl, ?_⟩) (by assumption) ?_
  rotate_left
  · (intro W hSw; obtain ⟨s1, s2, s3, s4, s5⟩ := hSw; go_simp; try with_reducible rfl)
  simp only [Act.put, List.getElem_toArray, List.getElem_cons_zero, List.getElem_cons_succ, List.setIfInBounds_toArray, List.set_cons_zero, List.set_cons_succ]
  refine wpAnyH_take (i := 11) (v := ?_) rfl (by kernel_rfl) (by kernel_rfl) (by kernel_rfl) (fun _ _ _ h => h) (Or.inl ⟨by rfl, ?_⟩) (by assumption) ?_
  rotate_left
  · (intro W hSw; obtain ⟨s1, s2, s3, s4, s5⟩ := hSw; go_simp; try with_reducible rfl)
  simp only [Act.put, List.getElem_toArray, List.getElem_cons_zero, List.getElem_cons_succ, List.setIfInBounds_toArray, List.set_cons_zero, List.set_cons_succ]
  refine wpAnyH_take (i := 12) (v := _) rfl (by kernel_rfl) (by kernel_rfl) (by kernel_rfl) (fun _ _ _ h => h) (yieldsIf_load_mid (by rfl) _ _ rfl _ _ rfl (a.map (Value.int .u8)) _ (fun W hW => hW.2.2.1) hu rfl hi) (by assumption) ?_
  simp only [Act.put, List.getElem_toArray, List.getElem_cons_zero, List.getElem_cons_succ, List.setIfInBounds_toArray, List.set_cons_zero, List.set_cons_succ]
  refine wpAnyH_ready (rs := [10]) (by kernel_rfl) (by simp) ?_
  refine AllReadyH.cons rfl (fun K hK => ?_) AllReadyH.nil
  go_simp
  refine (masked_any a l _ ha (by omega) (by omega)).mono ?_; rintro e w3 ⟨rfl, hb3⟩
  refine hK.out _ _ (pfxS (Own.step (W := w1.drew) ho hb3) (bl_trans hb0.drew hb3)) (fun hHeld3 => ?_)
  clear hK K hHeld2
  try simp only [Act.put, List.getElem_toArray, List.getElem_cons_zero, List.getElem_cons_succ, List.setIfInBounds_toArray, List.set_cons_zero, List.set_cons_succ]
  refine wpAnyH_take (i := 13) (v := ?_) rfl (by kernel_rfl) (by kernel_rfl) (by kernel_rfl) (fun _ _ _ h => h) (Or.inl ⟨by rfl, ?_⟩) (by assumption) ?_
  rotate_left
  · (intro W hSw; obtain ⟨s1, s2, s3, s4, s5⟩ := hSw; go_simp; try with_reducible rfl)
  simp only [Act.put, List.getElem_toArray, List.getElem_cons_zero, List.getElem_cons_succ, List.setIfInBounds_toArray, List.set_cons_zero, List.set_cons_succ]
  refine wpAnyH_take (i := 14) (v := ?_) rfl (by kernel_rfl) (by kernel_rfl) (by kernel_rfl) (fun _ _ _ h => h) (Or.inl ⟨by rfl, ?_⟩) (by assumption) ?_
  rotate_left
  · (intro W hSw; obtain ⟨s1, s2, s3, s4, s5⟩ := hSw; go_simp; try with_reducible rfl)
  simp only [Act.put, List.getElem_toArray, List.getElem_cons_zero, List.getElem_cons_succ, List.setIfInBounds_toArray, List.set_cons_zero, List.set_cons_succ]
  refine wpAnyH_take (i := 15) (v := ?_) rfl (by kernel_rfl) (by kernel_rfl) (by kernel_rfl) (fun _ _ _ h => h) (Or.inl ⟨by rfl, ?_⟩) (by assumption) ?_
  rotate_left
  · (intro W hSw; obtain ⟨s1, s2, s3, s4, s5⟩ := hSw; go_simp; try with_reducible rfl)
  simp only [Act.put, List.getElem_toArray, List.getElem_cons_zero, List.getElem_cons_succ, List.setIfInBounds_toArray, List.set_cons_zero, List.set_cons_succ]
  refine wpAnyH_done (by kernel_rfl) ?_ _
  go_wp2
  go_ret
  refine ⟨?_, hHeld3.2.2.2.2⟩
  rw [show pfxOk f l a = decide (maskL l a = a) by simp [pfxOk, hk]]; rfl
set_option maxRecDepth 100000 in
theorem pvalid_no (f l : Int) (a : List Int) (w : World) (hk : lenOk f l = false) :
    Calls Tryd.prog 24 #[.agg (pfx f l a)] w fun e w' => e = .returned (.bool (pfxOk f l a)) ∧ Below w.heap.size w w' := by
  have h0 := pfx_0 f l a
  have h1 := pfx_1 f l a
  have HK := Lib.hid hk
  have hd : ∀ W, Draws Tryd.prog 57 #[.int .i64 f, .int .i64 l] W (.bool false) := fun W => by
    rw [← hk]; exact Draws.of_same fun _ => hasLength_any f l _
  have HD := Lib.hid hd
  clear hd hk
  go_enter Tryd.func24, Tryd.ntmps24
  go_wp2_with fail
  go_quiet ((go_at_call 57; exact (HD.out _).plain _))
  go_wp2
  go_ret
  exact ⟨by rw [show pfxOk f l a = false by simp [pfxOk, HK.out]]; rfl, bl_drewN (bl_alloc (bl_refl w) _) _⟩
set_option maxRecDepth 100000 in
theorem pvalid_any (f l : Int) (a : List Int) (w : World) (ha : IsAddr a) :
    Calls Tryd.prog 24 #[.agg (pfx f l a)] w fun e w' => e = .returned (.bool (pfxOk f l a)) ∧ Below w.heap.size w w' := by
  by_cases hk : lenOk f l = true
  · exact pvalid_yes f l a w ha hk
  · exact pvalid_no f l a w (by simpa using hk)
end Go.Proofs.YtecbbjdcnlocdaaDoor

/- prefix.size, prefix.Bytes -/
namespace Go.Proofs.YtecbbjdcnlocdaaDoor
open Go.RowKit

section
variable {w W W' : World} {g : Nat} {T : TypeId} {f l : Int} {a : List Int}
theorem pfxS_own (h : W.cell? ⟨g, 0, none⟩ = some (.int .i64 f) ∧ W.cell? ⟨g, 1, none⟩ = some (.int .i64 l) ∧ W.rangeAt g 2 (a.map (Value.int .u8)) ∧ Own W g T (pfx f l a) ∧ Below w.heap.size w W) : Own W g T (pfx f l a) := h.2.2.2.1
theorem pfxS_alloc (h : W.cell? ⟨g, 0, none⟩ = some (.int .i64 f) ∧ W.cell? ⟨g, 1, none⟩ = some (.int .i64 l) ∧ W.rangeAt g 2 (a.map (Value.int .u8)) ∧ Own W g T (pfx f l a) ∧ Below w.heap.size w W) (o : Obj) :
    (W.alloc o).cell? ⟨g, 0, none⟩ = some (.int .i64 f) ∧ (W.alloc o).cell? ⟨g, 1, none⟩ = some (.int .i64 l) ∧ (W.alloc o).rangeAt g 2 (a.map (Value.int .u8)) ∧ Own (W.alloc o) g T (pfx f l a) ∧ Below w.heap.size w (W.alloc o) :=
  pfxS (h.2.2.2.1.alloc o) (bl_alloc h.2.2.2.2 o)
theorem pfxS_below (h : W.cell? ⟨g, 0, none⟩ = some (.int .i64 f) ∧ W.cell? ⟨g, 1, none⟩ = some (.int .i64 l) ∧ W.rangeAt g 2 (a.map (Value.int .u8)) ∧ Own W g T (pfx f l a) ∧ Below w.heap.size w W) (hb : Below W.heap.size W W') :
    W'.cell? ⟨g, 0, none⟩ = some (.int .i64 f) ∧ W'.cell? ⟨g, 1, none⟩ = some (.int .i64 l) ∧ W'.rangeAt g 2 (a.map (Value.int .u8)) ∧ Own W' g T (pfx f l a) ∧ Below w.heap.size w W' :=
  pfxS (h.2.2.2.1.step hb) (bl_trans h.2.2.2.2 hb)
end

theorem parts_two {W : World} {j : Nat} {T : TypeId} {A1 A2 : Option Addr} {n1 n2 c1 c2 : Nat} {xs1 xs2 : List Int} (ho : Own W j T #[.slice A1 n1 c1, .slice A2 n2 c2]) (h1 : Bytes W W.heap.size A1 n1 xs1) (h2 : Bytes W W.heap.size A2 n2 xs2) :
    Parts W W.heap.size (some ⟨j, 0, none⟩) 2 [⟨A1, n1, c1, xs1⟩, ⟨A2, n2, c2, xs2⟩] := by
  refine ⟨rfl, fun p hp => ?_, Shows.of_owned ho ho.lt⟩
  simp at hp
  rcases hp with rfl | rfl
  · exact h1
  · exact h2
set_option maxRecDepth 100000 in
/-- Cat of some parts: bytes in new memory. -/
theorem cat_own {A : Option Addr} {n c : Nat} {ps : List Part} {w : World} (hx : Parts w w.heap.size A n ps) (hn : n ≤ 1000000000) (hl : (flat ps).length ≤ 1000000000) :
    Calls Tryd.prog 41 #[.slice A n c] w fun e w' => e = .returned (.slice (some ⟨w.heap.size, 0, none⟩) (flat ps).length (flat ps).length) ∧ Own w' w.heap.size 5 ((flat ps).map (Value.int .u8)).toArray ∧ Below w.heap.size w w' := by
  refine (cat_any A n c ps w hx hn hl).mono ?_
  rintro e w' ⟨rfl, hown, hb⟩
  exact ⟨rfl, Own.of_full hown, hb⟩
set_option maxRecDepth 100000 in
theorem cat_bytes {A : Option Addr} {n c : Nat} {ps : List Part} {W : World} (hx : Parts W W.heap.size A n ps) (hn : n ≤ 1000000000) (hl : (flat ps).length ≤ 1000000000) :
    Calls Tryd.prog 41 #[.slice A n c] W fun e w' => ∃ B d, e = .returned (.slice B (flat ps).length d) ∧ Bytes w' w'.heap.size B (flat ps).length (flat ps) ∧ Below W.heap.size W w' := by
  refine (cat_any A n c ps W hx hn hl).mono ?_
  rintro e w' ⟨rfl, hown, hb⟩
  have ho := Own.of_full hown
  refine ⟨_, _, rfl, Bytes.of_owned ho ?_ ho.lt, hb⟩
  intro y hy
  obtain ⟨p, hp, hyp⟩ := List.mem_flatMap.1 hy
  exact (hx.2.1 p hp).2.1 y hyp
theorem addr_bytes {W : World} {g : Nat} {T : TypeId} {f l : Int} {a : List Int} (ha : IsAddr a) (ho : Own W g T (pfx f l a)) {k : Nat} (hk : k ≤ 16) : Bytes W W.heap.size (some ⟨g, 2, none⟩) k (a.take k) := by
  refine ⟨by rw [List.length_take, ha.1]; omega, fun x hx => ha.2 x (List.mem_of_mem_take hx), .inr ⟨g, 2, rfl, ho.lt, fun i v hv => ?_⟩⟩
  rw [List.getElem?_map] at hv
  obtain ⟨x, hx, rfl⟩ := Option.map_eq_some_iff.1 hv
  rw [List.getElem?_take] at hx
  split at hx
  · exact pfx_range ho i _ (by rw [List.getElem?_map, hx]; rfl)
  · cases hx

/-- The bytes that so many bits need. -/
def sizeOfBits (l : Int) : Int := (l + 7) / 8
set_option maxRecDepth 100000 in
theorem psize_any (l : Int) (w : World) (h0 : 0 ≤ l) (h1 : l ≤ 1000000000) : Calls Tryd.prog 54 #[.int .i64 l] w fun e w' => e = .returned (.int .i64 (sizeOfBits l)) ∧ w = w' := by
  go_enter Tryd.func54, Tryd.ntmps54
  go_wp2
  go_ret
  exact ⟨rfl, rfl⟩
/-- The form of a prefix. -/
def pfxForm (l : Int) (a : List Int) : List Int := l :: a.take (sizeOfBits l).toNat

set_option maxRecDepth 100000 in
theorem pbytes_no (f l : Int) (a : List Int) (w : World) (ha : IsAddr a) (hk : pfxOk f l a = false) :
    Calls Tryd.prog 21 #[.agg (pfx f l a)] w fun e w' => e = .returned (.tuple #[.slice none 0 0, .bool false]) ∧ Below w.heap.size w w' := by
  have hs := pfx_size (f := f) (l := l) ha.1
  have HS := Lib.hid hs
  clear hs
  go_enter Tryd.func21, Tryd.ntmps21
  go_wp2_with (refine wpList_load_row rfl 41 _ rfl w.heap.size rfl 41 (pfx f l a) (0, 0) (.struct (Tryd.prog.fieldsOf 41)) (Own.new w _ _) (by kernel_rfl) rfl (by rw [HS.out]; kernel_rfl) ?_)
  refine (pvalid_any f l a _ ha).mono ?_
  rw [hk]
  rintro e w1 ⟨rfl, hb⟩
  go_wp2
  go_ret2
  exact ⟨rfl, bl_trans (bl_alloc (bl_refl w) _) hb⟩
set_option maxHeartbeats 800000 in
set_option maxRecDepth 100000 in
theorem pbytes_own (f l : Int) (a : List Int) (w : World) (ha : IsAddr a) (hk : pfxOk f l a = true) :
    Calls Tryd.prog 21 #[.agg (pfx f l a)] w fun e w' => ∃ g, e = .returned (.tuple #[.slice (some ⟨g, 0, none⟩) (pfxForm l a).length (pfxForm l a).length, .bool true]) ∧ w.heap.size ≤ g ∧ Own w' g 5 ((pfxForm l a).map (Value.int .u8)).toArray ∧ Below w.heap.size w w' := by
  have hs := pfx_size (f := f) (l := l) ha.1
  have HS := Lib.hid hs
  clear hs
  have hk2 := hk
  simp only [pfxOk, lenOk, Bool.and_eq_true, decide_eq_true_eq] at hk2
  have hw : widthOf f ≤ 128 := by unfold widthOf; split <;> (try split) <;> omega
  have hl0 : 0 ≤ l := hk2.1.2.1
  have hl1 : l ≤ 128 := by omega
  have hz : 0 ≤ sizeOfBits l ∧ sizeOfBits l ≤ 16 := by unfold sizeOfBits; omega
  have hz0 := hz.1
  have hz1 := hz.2
  clear hk2 hz
  have ho := Own.new w 41 (pfx f l a)
  have hb0 := bl_alloc (bl_refl w) (.cells (pfx f l a) 41)
  go_enter Tryd.func21, Tryd.ntmps21
  go_wp2_with (refine wpList_load_row rfl 41 _ rfl w.heap.size rfl 41 (pfx f l a) (0, 0) (.struct (Tryd.prog.fieldsOf 41)) (Own.new w _ _) (by kernel_rfl) rfl (by rw [HS.out]; kernel_rfl) ?_)
  refine (pvalid_any f l a _ ha).mono ?_
  rw [hk]
  rintro e w1 ⟨rfl, hb⟩
  have hwr : IntKind.u8.wrap l = l := by rw [IntKind.wrap_u8']; omega
  have hfl : (flat [(⟨some ⟨w1.heap.size, 0, none⟩, 1, 1, [l]⟩ : Part), ⟨some ⟨w.heap.size, 2, none⟩, (sizeOfBits l).toNat, 16, a.take (sizeOfBits l).toNat⟩]).length ≤ 1000000000 := by
    simp [flat]; omega
  have hff := Lib.hid (show flat [(⟨some ⟨w1.heap.size, 0, none⟩, 1, 1, [l]⟩ : Part), ⟨some ⟨w.heap.size, 2, none⟩, (sizeOfBits l).toNat, 16, a.take (sizeOfBits l).toNat⟩] = pfxForm l a by simp [flat, pfxForm])
  have ho1 := ho.step hb
  have hb1 := bl_trans hb0 hb
  clear ho hb0 hb hk
  have hc : ∀ W : World, W = ((w1.alloc (.cells #[.int .u8 l] 5)).alloc (.cells #[.slice (some ⟨w1.heap.size, 0, none⟩) 1 1, .slice (some ⟨w.heap.size, 2, none⟩) (sizeOfBits l).toNat 16] 25)).drew →
      Parts W W.heap.size (some ⟨w1.heap.size + 1, 0, none⟩) 2 [⟨some ⟨w1.heap.size, 0, none⟩, 1, 1, [l]⟩, ⟨some ⟨w.heap.size, 2, none⟩, (sizeOfBits l).toNat, 16, a.take (sizeOfBits l).toNat⟩] := by
    rintro W rfl
    have o1 := (Own.new w1 5 #[.int .u8 l]).alloc (.cells #[.slice (some ⟨w1.heap.size, 0, none⟩) 1 1, .slice (some ⟨w.heap.size, 2, none⟩) (sizeOfBits l).toNat 16] 25)
    have o2 := Own.new (w1.alloc (.cells #[.int .u8 l] 5)) 25 #[.slice (some ⟨w1.heap.size, 0, none⟩) 1 1, .slice (some ⟨w.heap.size, 2, none⟩) (sizeOfBits l).toNat 16]
    have o3 := (ho1.alloc (.cells #[.int .u8 l] 5)).alloc (.cells #[.slice (some ⟨w1.heap.size, 0, none⟩) 1 1, .slice (some ⟨w.heap.size, 2, none⟩) (sizeOfBits l).toNat 16] 25)
    have e : (w1.alloc (.cells #[.int .u8 l] 5)).heap.size = w1.heap.size + 1 := by simp
    rw [e] at o2
    exact parts_two o2.drew (Bytes.of_owned (xs := [l]) o1.drew (by intro x hx; simp at hx; omega) o1.drew.lt) (addr_bytes ha o3.drew (by omega))
  have HC := Lib.hid hc
  clear hc
  go_wp2_with fail
  go_region_held3 (fun W => W.cell? ⟨w.heap.size, 0, none⟩ = some (.int .i64 f) ∧ W.cell? ⟨w.heap.size, 1, none⟩ = some (.int .i64 l) ∧ W.rangeAt w.heap.size 2 (a.map (Value.int .u8)) ∧ Own W w.heap.size 41 (pfx f l a) ∧ Below w.heap.size w W) (first | exact pfxS ho1.drew hb1.drew | assumption | exact pfxS_alloc (by assumption) _ | exact pfxS_below (by assumption) (by assumption)) (first | (go_at_call 54; refine (psize_any l _ (by omega) (by omega)).mono ?_; rintro e w' ⟨rfl, rfl⟩) | (go_at_call 41; refine (cat_own (HC.out _ rfl) (by decide) hfl).mono ?_; rintro e w3 ⟨rfl, hB, hb3⟩))
  all_goals
    rw [hff.out] at hB ⊢
    have hbw : Below w.heap.size w w3 := by
      rename_i hH
      exact hH.2.2.2.2
    go_wp2
    go_ret2
    exact ⟨_, rfl, by have := hb1.size; omega, by simpa using hB, hbw⟩
theorem pfxForm_range {l : Int} {a : List Int} (ha : IsAddr a) (h0 : 0 ≤ l) (h1 : l ≤ 128) : ∀ x ∈ pfxForm l a, 0 ≤ x ∧ x ≤ 255 := by
  intro x hx
  rcases List.mem_cons.1 hx with rfl | hx
  · omega
  · exact ha.2 x (List.mem_of_mem_take hx)
theorem pfxOk_range {f l : Int} {a : List Int} (hk : pfxOk f l a = true) : 0 ≤ l ∧ l ≤ 128 := by
  simp only [pfxOk, lenOk, Bool.and_eq_true, decide_eq_true_eq] at hk
  have hw : widthOf f ≤ 128 := by unfold widthOf; split <;> (try split) <;> omega
  omega
set_option maxRecDepth 100000 in
theorem pbytes_yes (f l : Int) (a : List Int) (w : World) (ha : IsAddr a) (hk : pfxOk f l a = true) :
    Calls Tryd.prog 21 #[.agg (pfx f l a)] w fun e w' => ∃ A c, e = .returned (.tuple #[.slice A (pfxForm l a).length c, .bool true]) ∧ Bytes w' w'.heap.size A (pfxForm l a).length (pfxForm l a) ∧ Below w.heap.size w w' := by
  refine (pbytes_own f l a w ha hk).mono ?_
  rintro e w' ⟨g, rfl, _, ho, hb⟩
  have hr := pfxOk_range hk
  exact ⟨_, _, rfl, Bytes.of_owned ho (pfxForm_range ha hr.1 hr.2) ho.lt, hb⟩
end Go.Proofs.YtecbbjdcnlocdaaDoor

/- peerageref02.Bytes -/
namespace Go.Proofs.YtecbbjdcnlocdaaDoor
open Go.RowKit

set_option maxRecDepth 100000 in
theorem rpbytes_no (f l : Int) (a : List Int) (w : World) (ha : IsAddr a) (hk : pfxOk f l a = false) :
    Calls Tryd.prog 22 #[.agg (pfx f l a)] w fun e w' => e = .returned (.tuple #[.slice none 0 0, .bool false]) ∧ Below w.heap.size w w' := by
  have hs := pfx_size (f := f) (l := l) ha.1
  have HS := Lib.hid hs
  clear hs
  go_enter Tryd.func22, Tryd.ntmps22
  go_wp2_with (refine wpList_load_row rfl 41 _ rfl w.heap.size rfl 41 (pfx f l a) (0, 0) (.struct (Tryd.prog.fieldsOf 41)) (Own.new w _ _) (by kernel_rfl) rfl (by rw [HS.out]; kernel_rfl) ?_)
  refine (rpvalid_any f l a _ ha).mono ?_
  rw [hk]
  rintro e w1 ⟨rfl, hb⟩
  go_wp2
  go_ret2
  exact ⟨rfl, bl_trans (bl_alloc (bl_refl w) _) hb⟩

theorem own_blk {w : World} {base g : Nat} {e t : TypeId} {size n : Nat} {v : Value} {xs : List Value} {cs : Array Value} (h : w.ownsRow base e size v n xs) (ho : Own w g t cs) (hne : e ≠ t) : v.ownBlock ≠ some g := by
  rcases h.2 with ⟨rfl, _⟩ | ⟨g', cap, cur, rfl, _, hg, _⟩
  · simp [Value.ownBlock]
  · intro he
    have : g' = g := by simpa [Value.ownBlock] using he
    subst this
    unfold Own at ho
    rw [hg] at ho
    injection ho with ho
    injection ho with _ h2 _
    exact hne h2
theorem form_step {l : Int} {a : List Int} {k : Nat} (ha : a.length = 16) (hk : k < 16) : (l :: a.take k) ++ [nth a k] = l :: a.take (k + 1) := by
  rw [take_nth (by omega)]; rfl

set_option maxHeartbeats 800000 in
set_option maxRecDepth 100000 in
theorem rpbytes_yes (f l : Int) (a : List Int) (w : World) (ha : IsAddr a) (hk : pfxOk f l a = true) :
    Calls Tryd.prog 22 #[.agg (pfx f l a)] w fun e w' => ∃ v, e = .returned (.tuple #[v, .bool true]) ∧ w'.ownsRow w.heap.size 5 1 v (pfxForm l a).length ((pfxForm l a).map (Value.int .u8)) ∧ Below w.heap.size w w' := by
  have hs := pfx_size (f := f) (l := l) ha.1
  have HS := Lib.hid hs
  clear hs
  have hk2 := hk
  simp only [pfxOk, lenOk, Bool.and_eq_true, decide_eq_true_eq] at hk2
  have hw : widthOf f ≤ 128 := by unfold widthOf; split <;> (try split) <;> omega
  have hl0 : 0 ≤ l := hk2.1.2.1
  have hl1 : l ≤ 128 := by omega
  have hz : 0 ≤ (l + 7) / 8 ∧ (l + 7) / 8 ≤ 16 := by omega
  have hz0 := hz.1
  have hz1 := hz.2
  have hwr : IntKind.u8.wrap l = l := by rw [IntKind.wrap_u8']; omega
  clear hk2 hz
  have ho := Own.new w 41 (pfx f l a)
  have hb0 := bl_alloc (bl_refl w) (.cells (pfx f l a) 41)
  go_enter Tryd.func22, Tryd.ntmps22
  go_wp2_with (refine wpList_load_row rfl 41 _ rfl w.heap.size rfl 41 (pfx f l a) (0, 0) (.struct (Tryd.prog.fieldsOf 41)) (Own.new w _ _) (by kernel_rfl) rfl (by rw [HS.out]; kernel_rfl) ?_)
  refine (rpvalid_any f l a _ ha).mono ?_
  rw [hk]
  rintro e w1 ⟨rfl, hb⟩
  have ho1 := ho.step hb
  have hb1 := bl_trans hb0 hb
  have hc1 := ho1.cell (pfx_1 f l a)
  have hown1 : (w1.alloc (.cells #[.int .u8 l] 5)).ownsRow w.heap.size 5 1 (.slice (some ⟨w1.heap.size, 0, none⟩) 1 1) 1 [.int .u8 l] := World.ownsRow_lit w1 #[.int .u8 l] 1 hb1.size (by unfold maxLen; omega) rfl
  have ho2 := ho1.alloc (.cells #[.int .u8 l] 5)
  have hb2 := bl_alloc hb1 (.cells #[.int .u8 l] 5)
  have hlt1 := ho1.lt
  clear ho hb0 hb hk
  go_wp2
  go_loopw [4, 5] (fun v i wr => ∃ k : Nat, (k : Int) ≤ (l + 7) / 8 ∧ i = .int .i64 k ∧ wr.ownsRow w.heap.size 5 1 v (1 + k) ((l :: a.take k).map (Value.int .u8)) ∧ Own wr w.heap.size 41 (pfx f l a) ∧ Below w.heap.size w wr) (fun _ i _ => 16 - (intOf i).toNat)
  case atStart => exact ⟨0, by omega, rfl, hown1, ho2, hb2⟩
  case round =>
    obtain ⟨k, hkz, rfl, hown, hor, hbr⟩ := hrel
    clear ho1 hb1 hc1 hown1 ho2 hb2 hlt1
    have hc1 := hor.cell (pfx_1 f l a)
    have hbl := hor.lt
    by_cases hlt : (k : Int) < (l + 7) / 8
    · have hk16 : k < 16 := by omega
      have hcell := hor.cell ((pfx_at f l a k).trans (ha.at_ hk16).1)
      have hr := (ha.at_ hk16).2
      have hfs := Lib.hid (form_step (l := l) ha.1 hk16)
      have hbb := hbr.size
      go_wp2_with (at_builtin; refine wpList_append_grow _ rfl _ _ rfl sl_bytes w.heap.size _ _ _ rfl (hown.alloc _) (wr.heap.size + 1) (some ⟨wr.heap.size, 0, none⟩) 1 1 [_] rfl rfl (Shows.of_owned (Own.new _ _ _) (by omega)) (one1 rfl) (by unfold maxLen; omega) (by omega) (by simp; omega) ?_; intro v1 w2 hown2 hgrow2)
      have hb2 : Below w.heap.size w w2 := (hbr.alloc hbb _).grown hgrow2 (by simp; omega) (own_base hown)
      have hor2 : Own w2 w.heap.size 41 (pfx f l a) := (hor.alloc _).grown hgrow2 (by intro e; have := (hown.lt _ e.symm); have h3 := own_blk hown hor (by decide); exact h3 e.symm)
      go_roundw
      case rel =>
        refine ⟨k + 1, by omega, by go_num, ?_, hor2, hb2⟩
        rw [← hfs.out, List.map_append]
        exact hown2
      case measure => simp [intOf]; omega
    · go_wp2
      go_ret2
      refine ⟨_, rfl, ?_, hbr⟩
      have e1 : k = (sizeOfBits l).toNat := by unfold sizeOfBits; omega
      have e2 : (pfxForm l a).length = 1 + k := by unfold pfxForm; rw [← e1]; simp [ha.1]; omega
      rw [e2]
      unfold pfxForm
      rw [← e1]
      exact hown
end Go.Proofs.YtecbbjdcnlocdaaDoor

/- prefix.Text at prefixes of family 1 -/
namespace Go.Proofs.YtecbbjdcnlocdaaDoor
open Go.RowKit Go.Sort

set_option maxRecDepth 100000 in
theorem sl_strs : SliceOf Tryd.prog 67 9 1 16 := SliceOf.mk Tryd.underlying67 (z := .string ⟨#[]⟩) (by kernel_rfl) rfl (by decide)
def wordsV (xs : List ByteArray) : List Value := xs.map Value.string
def words10 (a : List Int) (k : Nat) : List ByteArray := (a.take k).map decB
theorem words10_len {a : List Int} {k : Nat} (h : k ≤ a.length) : (words10 a k).length = k := by simp [words10]; omega
theorem words10_step {a : List Int} {k : Nat} (hk : k < a.length) : words10 a k ++ [decB (nth a k)] = words10 a (k + 1) := by
  unfold words10
  rw [List.take_succ_eq_append_getElem hk, List.map_append]
  simp [nth, List.getD_eq_getElem?_getD, hk]
set_option maxRecDepth 100000 in
set_option maxHeartbeats 800000 in
theorem ptext4_addr (l : Int) (a : List Int) (w : World) (ha : IsAddr a) (ht : Tens w) :
    Calls Tryd.prog 55 #[.agg (pfx 1 l a)] w fun e w' => e = .returned (.string (joinB (words10 a 4) [46])) ∧ Below w.heap.size w w' := by
  have HS := Lib.hid (pfx_size (f := 1) (l := l) ha.1)
  have ho := Own.new w 41 (pfx 1 l a)
  have hb0 := bl_alloc (bl_refl w) (.cells (pfx 1 l a) 41)
  have c0 := ho.cell (pfx_0 1 l a)
  have hown0 := World.ownsRow_nil (w.alloc (.cells (pfx 1 l a) 41)) w.heap.size 9 1
  have hlt0 := ho.lt
  go_enter Tryd.func55, Tryd.ntmps55
  go_wp2
  go_loopw [3, 14] (fun v i wr => ∃ k : Nat, k ≤ 4 ∧ i = .int .i64 k ∧ wr.ownsRow w.heap.size 9 1 v k (wordsV (words10 a k)) ∧ Own wr w.heap.size 41 (pfx 1 l a) ∧ Below w.heap.size w wr) (fun _ i _ => 4 - (intOf i).toNat)
  case atStart => exact ⟨0, by omega, rfl, hown0, ho, hb0⟩
  case round =>
    obtain ⟨k, hkz, rfl, hown, hor, hbr⟩ := hrel
    clear ho hb0 c0 hown0 hlt0
    by_cases hlt : k < 4
    · have hk16 : k < 16 := by omega
      have hcell := hor.cell ((pfx_at 1 l a k).trans (ha.at_ hk16).1)
      have hr := (ha.at_ hk16).2
      have hfs := Lib.hid (words10_step (a := a) (k := k) (by rw [ha.1]; exact hk16))
      have htr := ht.below hbr
      go_wp2_with fail
      refine (itoa_any (nth a k) hr.1 (by omega) _ htr).mono ?_
      rintro e w1 ⟨rfl, hb1⟩
      have hown1 := hown.kept (only_of_below hb1 none) (Classical.em _)
      have hor1 := hor.step hb1
      have hbr1 := bl_trans hbr hb1
      have hbb := hbr1.size
      clear hown hor hbr hb1 hcell
      go_wp2_with (at_builtin; refine wpList_append_grow _ rfl _ _ rfl sl_strs w.heap.size _ _ _ rfl (hown1.alloc _) (w1.heap.size + 1) (some ⟨w1.heap.size, 0, none⟩) 1 1 [_] rfl rfl (Shows.of_owned (Own.new _ _ _) (by omega)) (one1 rfl) (by unfold maxLen; omega) (by omega) (by simp; omega) ?_; intro v1 w2 hown2 hgrow2)
      have hb2 : Below w.heap.size w w2 := (hbr1.alloc hbb _).grown hgrow2 (by simp; omega) (own_base hown1)
      have hor2 : Own w2 w.heap.size 41 (pfx 1 l a) := (hor1.alloc _).grown hgrow2 (by intro e; have h3 := own_blk hown1 hor1 (by decide); exact h3 e.symm)
      go_roundw
      case rel =>
        refine ⟨k + 1, by omega, by go_num, ?_, hor2, hb2⟩
        unfold wordsV
        rw [← hfs.out, List.map_append]
        exact hown2
      case measure => simp [intOf]; omega
    · obtain rfl : k = 4 := by omega
      have hl := words10_len (a := a) (k := 4) (by rw [ha.1]; omega)
      have HW := Lib.hid (show wr.ownsRow w.heap.size 9 1 _ (words10 a 4).length (wordsV (words10 a 4)) by rw [hl]; exact hown)
      clear hown
      go_wp2_with fail
      refine (join_row 19 ⟨#[46]⟩ HW.out (by rw [hl]; omega) ?_ (by omega) (by decide)).mono ?_
      · intro x hx
        obtain ⟨y, hy, rfl⟩ := List.mem_map.1 hx
        have := ha.2 y (List.mem_of_mem_take hy)
        exact dec_len (by omega)
      · rintro e w2 ⟨rfl, hb2⟩
        have hb3 := bl_trans hbr hb2
        go_wp2
        go_ret
        exact ⟨rfl, hb3⟩

/-- The text of a prefix of family 1. -/
def ptext4 (l : Int) (a : List Int) : ByteArray := joinB (words10 a 4) [46] ++ ⟨#[47]⟩ ++ decB l
set_option maxRecDepth 100000 in
set_option maxHeartbeats 800000 in
theorem ptext4_yes (l : Int) (a : List Int) (w : World) (ha : IsAddr a) (ht : Tens w) (hk : pfxOk 1 l a = true) :
    Calls Tryd.prog 23 #[.agg (pfx 1 l a)] w fun e w' => e = .returned (.string (ptext4 l a)) ∧ Below w.heap.size w w' := by
  have HS := Lib.hid (pfx_size (f := 1) (l := l) ha.1)
  have hl := pfxOk_range hk
  have HK := Lib.hid hk
  have ho := Own.new w 41 (pfx 1 l a)
  have hb0 := bl_alloc (bl_refl w) (.cells (pfx 1 l a) 41)
  clear hk
  go_enter Tryd.func23, Tryd.ntmps23
  go_wp2_with (refine wpList_load_row rfl 41 _ rfl w.heap.size rfl 41 (pfx 1 l a) (0, 0) (.struct (Tryd.prog.fieldsOf 41)) (Own.new w _ _) (by kernel_rfl) rfl (by rw [HS.out]; kernel_rfl) ?_)
  refine (pvalid_any 1 l a _ ha).mono ?_
  rw [HK.out]
  rintro e w1 ⟨rfl, hb1⟩
  have ho1 := ho.step hb1
  have hb2 := bl_trans hb0 hb1
  have ht1 := ht.below hb2
  clear ho hb0 hb1
  go_wp2_with fail
  refine wp_region_quiet_below (by kernel_rfl) (by kernel_rfl) ?_
  have HC := Lib.hid (rg_of (w := w1) (fun W hW => ptext4_addr l a W ha (ht1.below hW)))
  have HD := Lib.hid (rg_of (w := w1) (fun W hW => itoa_any l hl.1 (by omega) W (ht1.below hW)))
  have c1 := cell_regrown (ho1.cell (pfx_1 1 l a))
  have s1 := joinB_size (k := 19) (s := 1) (xs := words10 a 4) (sep := [46]) (by intro x hx; obtain ⟨y, hy, rfl⟩ := List.mem_map.1 hx; have := ha.2 y (List.mem_of_mem_take hy); exact decB_size (by omega)) (by decide)
  rw [words10_len (by rw [ha.1]; omega)] at s1
  have s2 := decB_size (n := l) (by omega)
  have n1 : ¬ 9223372036854775807 < (joinB (words10 a 4) [46]).size + 1 := by omega
  have n2 : ¬ 9223372036854775807 < (joinB (words10 a 4) [46]).size + 1 + (decB l).size := by omega
  refine wpQuiet_load_row (by rfl) 41 _ rfl w.heap.size rfl 41 (pfx 1 l a) (.struct (Tryd.prog.fieldsOf 41)) ho1.rg (by kernel_rfl) rfl (by rw [HS.out]; kernel_rfl) ?_
  go_simp
  repeat (go_big_quiet_step (first | exact HC.out _ _ | exact HD.out _ _))
  refine wpQuiet_nil ?_
  rintro ⟨dq, osq⟩
  have hb3 := bl_trans hb2 (below_regrown w1 dq osq)
  generalize grow (redrawn w1 dq) osq = w2 at *
  go_wp2
  go_ret
  exact ⟨rfl, hb3⟩
end Go.Proofs.YtecbbjdcnlocdaaDoor

/- prefix.Text at every prefix -/
namespace Go.Proofs.YtecbbjdcnlocdaaDoor
open Go.RowKit Go.Sort
theorem or8 (x y : Int) (hx : 0 ≤ x ∧ x ≤ 255) (hy : 0 ≤ y ∧ y ≤ 255) : bits BinOp.or IntKind.u64 (x * 256) y = x * 256 + y := by
  obtain ⟨n, rfl⟩ := Int.eq_ofNat_of_zero_le hx.1
  obtain ⟨m, rfl⟩ := Int.eq_ofNat_of_zero_le hy.1
  have e0 : ((n : Int) * 256) = ((n * 256 : Nat) : Int) := by simp
  rw [e0]
  show IntKind.u64.wrap ((BitVec.ofInt 64 ((n * 256 : Nat) : Int) ||| BitVec.ofInt 64 (m : Int)).toNat : Int) = _
  have e1 : (BitVec.ofInt 64 ((n * 256 : Nat) : Int)).toNat = n * 256 := by
    rw [BitVec.ofInt_natCast, BitVec.toNat_ofNat]; exact Nat.mod_eq_of_lt (by omega)
  have e2 : (BitVec.ofInt 64 (m : Int)).toNat = m := by
    rw [BitVec.ofInt_natCast, BitVec.toNat_ofNat]; exact Nat.mod_eq_of_lt (by omega)
  have e3 : n * 256 ||| m = n * 256 + m := by
    have := Nat.shiftLeft_add_eq_or_of_lt (b := m) (i := 8) (by omega) n
    rw [Nat.shiftLeft_eq] at this
    exact this.symm
  rw [BitVec.toNat_or, e1, e2, e3, IntKind.wrap_u64]
  omega
/-- The words of an address of family 2. -/
def word16 (a : List Int) (i : Nat) : Nat := (nth a (2 * i) * 256 + nth a (2 * i + 1)).toNat
def words16 (a : List Int) (k : Nat) : List ByteArray := (List.range k).map fun i => hexB (word16 a i)
theorem words16_len (a : List Int) (k : Nat) : (words16 a k).length = k := by simp [words16]
theorem words16_step (a : List Int) (k : Nat) : words16 a (k + 1) = words16 a k ++ [hexB (word16 a k)] := by
  unfold words16
  rw [List.range_succ, List.map_append]; rfl
theorem word16_le {a : List Int} (ha : IsAddr a) {i : Nat} (hi : i < 8) : word16 a i ≤ 65535 ∧ (word16 a i : Int) = nth a (2 * i) * 256 + nth a (2 * i + 1) := by
  have h1 := (ha.at_ (i := 2 * i) (by omega)).2
  have h2 := (ha.at_ (i := 2 * i + 1) (by omega)).2
  unfold word16
  omega
set_option maxRecDepth 100000 in
set_option maxHeartbeats 1600000 in
theorem ptext6_addr (f l : Int) (hf : ¬ f = 1) (a : List Int) (w : World) (ha : IsAddr a) (hb : Brn w) :
    Calls Tryd.prog 55 #[.agg (pfx f l a)] w fun e w' => e = .returned (.string (joinB (words16 a 8) [58])) ∧ Below w.heap.size w w' := by
  have HS := Lib.hid (pfx_size (f := f) (l := l) ha.1)
  have ho := Own.new w 41 (pfx f l a)
  have hb0 := bl_alloc (bl_refl w) (.cells (pfx f l a) 41)
  have c0 := ho.cell (pfx_0 f l a)
  have hf1 : (f == 1) = false := by simpa using hf
  have hown0 := World.ownsRow_nil (w.alloc (.cells (pfx f l a) 41)) w.heap.size 9 1
  have hlt0 := ho.lt
  have HB := Lib.hid hb
  clear hb hf
  go_enter Tryd.func55, Tryd.ntmps55
  go_wp2
  go_loopw [3, 6] (fun v i wr => ∃ k : Nat, k ≤ 8 ∧ i = .int .i64 ((2 * k : Nat) : Int) ∧ wr.ownsRow w.heap.size 9 1 v k (wordsV (words16 a k)) ∧ Own wr w.heap.size 41 (pfx f l a) ∧ Below w.heap.size w wr) (fun _ i _ => 16 - (intOf i).toNat)
  case atStart => exact ⟨0, by omega, rfl, hown0, ho, hb0⟩
  case round =>
    obtain ⟨k, hkz, rfl, hown, hor, hbr⟩ := hrel
    clear ho hb0 c0 hown0 hlt0
    by_cases hlt : k < 8
    · have hfs := Lib.hid (words16_step a k)
      have hwl := word16_le ha hlt
      have hr1 := (ha.at_ (i := 2 * k) (by omega)).2
      have hr2 := (ha.at_ (i := 2 * k + 1) (by omega)).2
      have hor8 := or8 _ _ hr1 hr2
      have c1 := cell_regrown (hor.cell ((pfx_at f l a (2 * k)).trans (ha.at_ (i := 2 * k) (by omega)).1))
      have c2 := cell_regrown (hor.cell ((pfx_at f l a (2 * k + 1)).trans (ha.at_ (i := 2 * k + 1) (by omega)).1))
      have HW := Lib.hid hwl
      rw [← hwl.2] at hor8
      generalize word16 a k = u at *
      generalize nth a (2 * k) = x at *
      generalize nth a (2 * k + 1) = y at *
      have hX : IntKind.u64.wrap (x * 256) = x * 256 := by rw [IntKind.wrap_u64]; omega
      obtain ⟨X8, hX8⟩ : ∃ X8 : Int, X8 = x * 256 := ⟨_, rfl⟩
      rw [← hX8] at hor8
      have hwX : IntKind.u64.wrap (x * 256) = X8 := by rw [hX, hX8]
      have hwx : IntKind.u64.wrap x = x := by rw [IntKind.wrap_u64]; omega
      have hwy : IntKind.u64.wrap y = y := by rw [IntKind.wrap_u64]; omega
      obtain ⟨q, hq⟩ : ∃ q : Nat, q = 2 * k := ⟨_, rfl⟩
      rw [← hq] at c1 c2 ⊢
      have HQ := Lib.hid hq
      have hq16 : q + 1 < 16 := by omega
      have hwq : IntKind.i64.wrap ((q : Int) + 1) = (q : Int) + 1 := by rw [IntKind.wrap_i64]; omega
      have hwq2 : IntKind.i64.wrap ((q : Int) + 2) = (q : Int) + 2 := by rw [IntKind.wrap_i64]; omega
      have hq1 : (q : Int) < 16 := by omega
      have hq2 : (q : Int) + 1 < 16 := by omega
      clear hX hX8 hq hwl
      go_wp2_with fail
      refine wp_region_quiet_below (by kernel_rfl) (by kernel_rfl) ?_
      repeat (go_big_quiet_step (fail))
      refine wpQuiet_nil ?_
      first | rintro _ ⟨⟨dq, osq⟩, rfl⟩ | rintro ⟨dq, osq⟩
      have hbX := below_regrown wr dq osq
      have hownX := hown.kept (only_of_below hbX none) (Classical.em _)
      have horX := hor.step hbX
      have hbrX := bl_trans hbr hbX
      generalize grow (redrawn wr dq) osq = w0 at *
      clear hown hor hbr hbX c1 c2
      go_wp2_with fail
      refine (fmt16_any u HW.out.1 _ (HB.out.below hbrX)).mono ?_
      rintro e w1 ⟨rfl, hb1⟩
      have hown1 := hownX.kept (only_of_below hb1 none) (Classical.em _)
      have hor1 := horX.step hb1
      have hbr1 := bl_trans hbrX hb1
      have hbb := hbr1.size
      clear hownX horX hbrX hb1
      go_wp2_with (at_builtin; refine wpList_append_grow _ rfl _ _ rfl sl_strs w.heap.size _ _ _ rfl (hown1.alloc _) (w1.heap.size + 1) (some ⟨w1.heap.size, 0, none⟩) 1 1 [_] rfl rfl (Shows.of_owned (Own.new _ _ _) (by omega)) (one1 rfl) (by unfold maxLen; omega) (by omega) (by simp; omega) ?_; intro v1 w2 hown2 hgrow2)
      have hb2 : Below w.heap.size w w2 := (hbr1.alloc hbb _).grown hgrow2 (by simp; omega) (own_base hown1)
      have hor2 : Own w2 w.heap.size 41 (pfx f l a) := (hor1.alloc _).grown hgrow2 (by intro e; have h3 := own_blk hown1 hor1 (by decide); exact h3 e.symm)
      go_roundw
      case rel =>
        refine ⟨k + 1, by omega, by have := HQ.out; go_num, ?_, hor2, hb2⟩
        unfold wordsV
        rw [hfs.out, List.map_append]
        exact hown2
      case measure => have := HQ.out; simp [intOf]; omega
    · obtain rfl : k = 8 := by omega
      have hl := words16_len a 8
      have HW := Lib.hid (show wr.ownsRow w.heap.size 9 1 _ (words16 a 8).length (wordsV (words16 a 8)) by rw [hl]; exact hown)
      clear hown
      go_wp2_with fail
      refine (join_row 4 ⟨#[58]⟩ HW.out (by rw [hl]; omega) ?_ (by omega) (by decide)).mono ?_
      · intro x hx
        obtain ⟨i, hi, rfl⟩ := List.mem_map.1 hx
        have := hexB_size (n := (word16 a i : Int)) (by have := (word16_le ha (List.mem_range.1 hi)).1; omega)
        rwa [Array.length_toList]
      · rintro e w2 ⟨rfl, hb2⟩
        have hb3 := bl_trans hbr hb2
        go_wp2
        go_ret
        exact ⟨rfl, hb3⟩
/-- The text of a prefix of family 2. -/
def ptext6 (l : Int) (a : List Int) : ByteArray := joinB (words16 a 8) [58] ++ ⟨#[47]⟩ ++ decB l
/-- The text of a prefix. -/
def ptxt (f l : Int) (a : List Int) : ByteArray := if f = 1 then ptext4 l a else ptext6 l a
set_option maxRecDepth 100000 in
set_option maxHeartbeats 800000 in
theorem ptext6_yes (f l : Int) (hf : ¬ f = 1) (a : List Int) (w : World) (ha : IsAddr a) (ht : Tens w) (hb : Brn w) (hk : pfxOk f l a = true) :
    Calls Tryd.prog 23 #[.agg (pfx f l a)] w fun e w' => e = .returned (.string (ptext6 l a)) ∧ Below w.heap.size w w' := by
  have HS := Lib.hid (pfx_size (f := f) (l := l) ha.1)
  have hl := pfxOk_range hk
  have HK := Lib.hid hk
  have ho := Own.new w 41 (pfx f l a)
  have hb0 := bl_alloc (bl_refl w) (.cells (pfx f l a) 41)
  have HF := Lib.hid hf
  clear hk hf
  go_enter Tryd.func23, Tryd.ntmps23
  go_wp2_with (refine wpList_load_row rfl 41 _ rfl w.heap.size rfl 41 (pfx f l a) (0, 0) (.struct (Tryd.prog.fieldsOf 41)) (Own.new w _ _) (by kernel_rfl) rfl (by rw [HS.out]; kernel_rfl) ?_)
  refine (pvalid_any f l a _ ha).mono ?_
  rw [HK.out]
  rintro e w1 ⟨rfl, hb1⟩
  have ho1 := ho.step hb1
  have hb2 := bl_trans hb0 hb1
  have ht1 := ht.below hb2
  have hbn1 := hb.below hb2
  clear ho hb0 hb1
  go_wp2_with fail
  refine wp_region_quiet_below (by kernel_rfl) (by kernel_rfl) ?_
  have HC := Lib.hid (rg_of (w := w1) (fun W hW => ptext6_addr f l HF.out a W ha (hbn1.below hW)))
  have HD := Lib.hid (rg_of (w := w1) (fun W hW => itoa_any l hl.1 (by omega) W (ht1.below hW)))
  have c1 := cell_regrown (ho1.cell (pfx_1 f l a))
  have s1 := joinB_size (k := 4) (s := 1) (xs := words16 a 8) (sep := [58]) (by intro x hx; obtain ⟨i, hi, rfl⟩ := List.mem_map.1 hx; exact hexB_size (by have := (word16_le ha (List.mem_range.1 hi)).1; omega)) (by decide)
  rw [words16_len] at s1
  have s2 := decB_size (n := l) (by omega)
  have n1 : ¬ 9223372036854775807 < (joinB (words16 a 8) [58]).size + 1 := by omega
  have n2 : ¬ 9223372036854775807 < (joinB (words16 a 8) [58]).size + 1 + (decB l).size := by omega
  refine wpQuiet_load_row (by rfl) 41 _ rfl w.heap.size rfl 41 (pfx f l a) (.struct (Tryd.prog.fieldsOf 41)) ho1.rg (by kernel_rfl) rfl (by rw [HS.out]; kernel_rfl) ?_
  go_simp
  repeat (go_big_quiet_step (first | exact HC.out _ _ | exact HD.out _ _))
  refine wpQuiet_nil ?_
  rintro ⟨dq, osq⟩
  have hb3 := bl_trans hb2 (below_regrown w1 dq osq)
  generalize grow (redrawn w1 dq) osq = w2 at *
  go_wp2
  go_ret
  exact ⟨rfl, hb3⟩
set_option maxRecDepth 100000 in
theorem ptext_yes (f l : Int) (a : List Int) (w : World) (ha : IsAddr a) (ht : Tens w) (hb : Brn w) (hk : pfxOk f l a = true) :
    Calls Tryd.prog 23 #[.agg (pfx f l a)] w fun e w' => e = .returned (.string (ptxt f l a)) ∧ Below w.heap.size w w' := by
  by_cases hf : f = 1
  · subst hf
    have e : ptxt 1 l a = ptext4 l a := if_pos rfl
    rw [e]
    exact ptext4_yes l a w ha ht hk
  · have e : ptxt f l a = ptext6 l a := if_neg hf
    rw [e]
    exact ptext6_yes f l hf a w ha ht hb hk
set_option maxRecDepth 100000 in
theorem ptext_no (f l : Int) (a : List Int) (w : World) (ha : IsAddr a) (hk : pfxOk f l a = false) :
    Calls Tryd.prog 23 #[.agg (pfx f l a)] w fun e w' => e = .returned (.string ⟨#[]⟩) ∧ Below w.heap.size w w' := by
  have HS := Lib.hid (pfx_size (f := f) (l := l) ha.1)
  have HK := Lib.hid hk
  have hb0 := bl_alloc (bl_refl w) (.cells (pfx f l a) 41)
  clear hk
  go_enter Tryd.func23, Tryd.ntmps23
  go_wp2_with (refine wpList_load_row rfl 41 _ rfl w.heap.size rfl 41 (pfx f l a) (0, 0) (.struct (Tryd.prog.fieldsOf 41)) (Own.new w _ _) (by kernel_rfl) rfl (by rw [HS.out]; kernel_rfl) ?_)
  refine (pvalid_any f l a _ ha).mono ?_
  rw [HK.out]
  rintro e w1 ⟨rfl, hb1⟩
  have hb2 := bl_trans hb0 hb1
  go_wp2
  go_ret
  exact ⟨rfl, hb2⟩
/-- The text that a prefix has, or none. -/
def ptxtO (f l : Int) (a : List Int) : ByteArray := if pfxOk f l a = true then ptxt f l a else ⟨#[]⟩
set_option maxRecDepth 100000 in
theorem ptext_any (f l : Int) (a : List Int) (w : World) (ha : IsAddr a) (ht : Tens w) (hb : Brn w) :
    Calls Tryd.prog 23 #[.agg (pfx f l a)] w fun e w' => e = .returned (.string (ptxtO f l a)) ∧ Below w.heap.size w w' := by
  unfold ptxtO
  cases hk : pfxOk f l a with
  | true => exact ptext_yes f l a w ha ht hb hk
  | false => exact ptext_no f l a w ha hk
end Go.Proofs.YtecbbjdcnlocdaaDoor

/- basic.Address and its reference -/
namespace Go.Proofs.YtecbbjdcnlocdaaDoor
open Go.RowKit Go.Sort

set_option maxRecDepth 100000 in
theorem sl_strA : SliceOf Tryd.prog 67 9 1 16 := SliceOf.mk Tryd.underlying67 (z := .string ⟨#[]⟩) (by kernel_rfl) rfl (by decide)
/-- The first words of an address. -/
def wAdr (a : List Int) (k : Nat) : List ByteArray := (a.take k).map decB
theorem wAdr_len {a : List Int} {k : Nat} (h : k ≤ a.length) : (wAdr a k).length = k := by simp [wAdr]; omega
theorem wAdr_step {a : List Int} {k : Nat} (hk : k < a.length) : wAdr a (k + 1) = wAdr a k ++ [decB (nth a k)] := by
  unfold wAdr
  rw [take_nth hk, List.map_append]
  rfl
/-- The text of an address. -/
def adrB (n : Int) : ByteArray := joinB (wAdr (digitsOf 4 n) 4) [46]
theorem adr_range (n : Int) {k : Nat} (hk : k < 4) : 0 ≤ nth (digitsOf 4 n) k ∧ nth (digitsOf 4 n) k ≤ 255 := digitsOf_range 4 n _ (nth_mem (by rw [digitsOf_len]; exact hk))
/-- The first words of an address, with dots. -/
def jAdr (D : List Int) (k : Nat) : ByteArray := joinB (wAdr D k) [46]
theorem jAdr_zero (D : List Int) : jAdr D 0 = ⟨#[]⟩ := rfl
theorem lib_join_snoc (sep : List UInt8) : ∀ (xs : List (List UInt8)) (y : List UInt8), xs ≠ [] → Lib.join (xs ++ [y]) sep = Lib.join xs sep ++ sep ++ y
  | [], _, h => absurd rfl h
  | [x], y, _ => by simp [Lib.join]
  | x :: z :: r, y, _ => by
    have := lib_join_snoc sep (z :: r) y (by simp)
    simp [Lib.join] at this ⊢
    rw [this]
theorem jAdr_one {D : List Int} (h : 0 < D.length) : jAdr D 1 = ⟨#[]⟩ ++ decB (nth D 0) := by
  unfold jAdr joinB
  rw [wAdr_step h]
  apply ByteArray.ext
  simp [wAdr, Lib.join_one]
theorem jAdr_step {D : List Int} {k : Nat} (h : k < D.length) (h1 : 1 ≤ k) : jAdr D (k + 1) = jAdr D k ++ ⟨#[46]⟩ ++ decB (nth D k) := by
  unfold jAdr joinB
  rw [wAdr_step h, List.map_append]
  have hne : (wAdr D k).map (fun x : ByteArray => x.data.toList) ≠ [] := by
    intro e
    have := congrArg List.length e
    rw [List.length_map, wAdr_len (by omega)] at this
    simp at this
    omega
  rw [show [decB (nth D k)].map (fun x : ByteArray => x.data.toList) = [(decB (nth D k)).data.toList] from rfl, lib_join_snoc _ _ _ hne]
  apply ByteArray.ext
  simp
theorem jAdr_size {D : List Int} (hr : ∀ x ∈ D, 0 ≤ x ∧ x ≤ 255) {k : Nat} (hk : k ≤ 4) : (jAdr D k).size ≤ 80 := by
  have h := joinB_size (k := 19) (s := 1) (xs := wAdr D k) (sep := [46]) (by
    intro x hx
    obtain ⟨y, hy, rfl⟩ := List.mem_map.1 hx
    have := hr y (List.mem_of_mem_take hy)
    exact decB_size (by omega)) (by simp)
  have hl : (wAdr D k).length ≤ 4 := by unfold wAdr; rw [List.length_map, List.length_take]; omega
  unfold jAdr
  have := Nat.mul_le_mul (Nat.le_refl 20) hl
  omega
end Go.Proofs.YtecbbjdcnlocdaaDoor

/- peerageref02.Text at every prefix -/
namespace Go.Proofs.YtecbbjdcnlocdaaDoor
open Go.RowKit Go.Sort
theorem joinP_snoc (xs : List ByteArray) (y : ByteArray) (d : UInt8) (h : xs ≠ []) : joinB (xs ++ [y]) [d] = joinB xs [d] ++ ⟨#[d]⟩ ++ y := by
  unfold joinB
  rw [List.map_append]
  have hne : xs.map (fun x : ByteArray => x.data.toList) ≠ [] := by simpa using h
  rw [show [y].map (fun x : ByteArray => x.data.toList) = [y.data.toList] from rfl, lib_join_snoc _ _ _ hne]
  apply ByteArray.ext
  simp
theorem joinP_one (y : ByteArray) (d : UInt8) : joinB [y] [d] = y := by
  unfold joinB
  apply ByteArray.ext
  simp [Lib.join_one]
theorem w10_first {a : List Int} (h : 0 < a.length) : joinB (words10 a (0 + 1)) [46] = decB (nth a 0) := by
  rw [← words10_step h]
  have e : words10 a 0 = [] := by unfold words10; rfl
  rw [e, List.nil_append, joinP_one]
theorem w10_next {a : List Int} {k : Nat} (h : k < a.length) (h1 : 0 < k) : joinB (words10 a (k + 1)) [46] = joinB (words10 a k) [46] ++ ⟨#[46]⟩ ++ decB (nth a k) := by
  rw [← words10_step h, joinP_snoc _ _ _ (by
    intro e
    have := congrArg List.length e
    rw [words10_len (by omega)] at this
    have h3 : k = 0 := this
    omega)]
theorem w16_first (a : List Int) : joinB (words16 a (0 + 1)) [58] = hexB (word16 a 0) := by
  rw [words16_step]
  have e : words16 a 0 = [] := rfl
  rw [e, List.nil_append, joinP_one]
theorem w16_next (a : List Int) {k : Nat} (h1 : 0 < k) : joinB (words16 a (k + 1)) [58] = joinB (words16 a k) [58] ++ ⟨#[58]⟩ ++ hexB (word16 a k) := by
  rw [words16_step, joinP_snoc _ _ _ (by
    intro e
    have := congrArg List.length e
    rw [words16_len] at this
    have h3 : k = 0 := this
    omega)]
theorem w10_size {a : List Int} (ha : IsAddr a) {k : Nat} (hk : k ≤ 4) : (joinB (words10 a k) [46]).size ≤ 80 := by
  have s1 := joinB_size (k := 19) (s := 1) (xs := words10 a k) (sep := [46]) (by intro x hx; obtain ⟨y, hy, rfl⟩ := List.mem_map.1 hx; have := ha.2 y (List.mem_of_mem_take hy); exact decB_size (by omega)) (by decide)
  rw [words10_len (by rw [ha.1]; omega)] at s1
  omega
theorem w16_size {a : List Int} (ha : IsAddr a) {k : Nat} (hk : k ≤ 8) : (joinB (words16 a k) [58]).size ≤ 80 := by
  have s1 := joinB_size (k := 4) (s := 1) (xs := words16 a k) (sep := [58]) (by intro x hx; obtain ⟨i, hi, rfl⟩ := List.mem_map.1 hx; exact hexB_size (by have := (word16_le ha (i := i) (by have := List.mem_range.1 hi; omega)).1; omega)) (by decide)
  rw [words16_len] at s1
  omega
theorem ba_nilP (b : ByteArray) : (⟨#[]⟩ : ByteArray) ++ b = b := by apply ByteArray.ext; simp
set_option maxRecDepth 100000 in
set_option maxHeartbeats 3200000 in
theorem rptext4 (l : Int) (a : List Int) (w : World) (ha : IsAddr a) (hk : pfxOk 1 l a = true) :
    Calls Tryd.prog 26 #[.agg (pfx 1 l a)] w fun e w' => e = .returned (.string (ptext4 l a)) ∧ Below w.heap.size w w' := by
  have HS := Lib.hid (pfx_size (f := 1) (l := l) ha.1)
  have hl := pfxOk_range hk
  have HK := Lib.hid hk
  have ho := Own.new w 41 (pfx 1 l a)
  have hb0 := bl_alloc (bl_refl w) (.cells (pfx 1 l a) 41)
  clear hk
  go_enter Tryd.func26, Tryd.ntmps26
  go_wp2_with (refine wpList_load_row rfl 41 _ rfl w.heap.size rfl 41 (pfx 1 l a) (0, 0) (.struct (Tryd.prog.fieldsOf 41)) (Own.new w _ _) (by kernel_rfl) rfl (by rw [HS.out]; kernel_rfl) ?_)
  refine (rpvalid_any 1 l a _ ha).mono ?_
  rw [HK.out]
  rintro e w1 ⟨rfl, hb1⟩
  have ho1 := ho.step hb1
  have hb2 := bl_trans hb0 hb1
  have c0 := ho1.cell (pfx_0 1 l a)
  clear ho hb0 hb1
  go_wp2_with fail
  go_loopw [3, 4] (fun v i wr => ∃ k : Nat, k ≤ 4 ∧ i = .int .i64 (k : Int) ∧ v = .string (joinB (words10 a k) [46]) ∧ Own wr w.heap.size 41 (pfx 1 l a) ∧ Below w.heap.size w wr) (fun _ i _ => 4 - (intOf i).toNat)
  case atStart => exact ⟨0, by omega, rfl, rfl, ho1, hb2⟩
  case round =>
    obtain ⟨k, hk4, rfl, rfl, hor, hbr⟩ := hrel
    clear ho1 hb2 c0
    by_cases hlt : k < 4
    · have hcell := hor.cell ((pfx_at 1 l a k).trans (ha.at_ (i := k) (by omega)).1)
      have hr := (ha.at_ (i := k) (by omega)).2
      have hwr : IntKind.i64.wrap (nth a k) = nth a k := by rw [IntKind.wrap_i64]; omega
      have hz := w10_size ha (k := k) (by omega)
      have hdz := decB_size (n := nth a k) (by omega)
      have hkl : k < a.length := by rw [ha.1]; omega
      have h0 := Lib.hid (fun (h : k = 0) => (show joinB (words10 a (k + 1)) [46] = decB (nth a k) by subst h; exact w10_first hkl))
      have h1 := Lib.hid (fun (h : 0 < k) => w10_next hkl h)
      have h00 := Lib.hid (fun (h : k = 0) => (show joinB (words10 a k) [46] = ⟨#[]⟩ by subst h; rfl))
      generalize joinB (words10 a k) [46] = J at *
      have hF := Lib.hid (fun W => rdigits10_any (nth a k) hr.1 (by omega) W)
      generalize nth a k = x at *
      generalize decB x = dx at *
      rcases Nat.eq_zero_or_pos k with hk0 | hk0
      · have hS := Lib.hid (show joinB (words10 a (k + 1)) [46] = J ++ dx by rw [h0.out hk0, h00.out hk0, ba_nilP])
        have d : decide ((0 : Int) < (k : Int)) = false := by simp; omega
        have d2 : ¬ 0 < k := by omega
        have n1 : ¬ 9223372036854775807 < J.size + dx.size := by omega
        clear hk0
        go_wp2_with fail
        refine (hF.out _).mono ?_
        rintro e w2 ⟨rfl, hb2⟩
        have hor2 := hor.step hb2
        have hbr2 := bl_trans hbr hb2
        go_wp2
        go_roundw
        case rel => exact ⟨k + 1, by omega, by go_num, congrArg Value.string hS.out.symm, hor2, hbr2⟩
        case measure => simp [intOf]; omega
      · have hS := Lib.hid (h1.out hk0)
        have d : decide ((0 : Int) < (k : Int)) = true := by simp; omega
        have n0 : ¬ 9223372036854775807 < J.size + 1 := by omega
        have n1 : ¬ 9223372036854775807 < J.size + 1 + dx.size := by omega
        go_wp2_with fail
        refine (hF.out _).mono ?_
        rintro e w2 ⟨rfl, hb2⟩
        have hor2 := hor.step hb2
        have hbr2 := bl_trans hbr hb2
        go_wp2
        go_roundw
        case rel => exact ⟨k + 1, by omega, by go_num, congrArg Value.string hS.out.symm, hor2, hbr2⟩
        case measure => simp [intOf]; omega
    · obtain rfl : k = 4 := by omega
      have hz := w10_size ha (k := 4) (by omega)
      have hdz := decB_size (n := l) (by omega)
      have hO : Hid (ptext4 l a = joinB (words10 a 4) [46] ++ ⟨#[47]⟩ ++ decB l) := Lib.hid rfl
      have hF := Lib.hid (fun W => rdigits10_any l hl.1 (by omega) W)
      have hcl := hor.cell (pfx_1 1 l a)
      generalize joinB (words10 a 4) [46] = J at *
      generalize decB l = dl at *
      have n0 : ¬ 9223372036854775807 < J.size + 1 := by omega
      have n1 : ¬ 9223372036854775807 < J.size + 1 + dl.size := by omega
      go_wp2_with fail
      refine (hF.out _).mono ?_
      rintro e w2 ⟨rfl, hb2⟩
      have hbr2 := bl_trans hbr hb2
      go_wp2
      go_ret
      exact ⟨by rw [hO.out]; rfl, hbr2⟩
set_option maxRecDepth 100000 in
set_option maxHeartbeats 3200000 in
theorem rptext6 (f l : Int) (hf : ¬ f = 1) (a : List Int) (w : World) (ha : IsAddr a) (hk : pfxOk f l a = true) :
    Calls Tryd.prog 26 #[.agg (pfx f l a)] w fun e w' => e = .returned (.string (ptext6 l a)) ∧ Below w.heap.size w w' := by
  have HS := Lib.hid (pfx_size (f := f) (l := l) ha.1)
  have hl := pfxOk_range hk
  have HK := Lib.hid hk
  have hf1 : (f == 1) = false := by simpa using hf
  have ho := Own.new w 41 (pfx f l a)
  have hb0 := bl_alloc (bl_refl w) (.cells (pfx f l a) 41)
  clear hk hf
  go_enter Tryd.func26, Tryd.ntmps26
  go_wp2_with (refine wpList_load_row rfl 41 _ rfl w.heap.size rfl 41 (pfx f l a) (0, 0) (.struct (Tryd.prog.fieldsOf 41)) (Own.new w _ _) (by kernel_rfl) rfl (by rw [HS.out]; kernel_rfl) ?_)
  refine (rpvalid_any f l a _ ha).mono ?_
  rw [HK.out]
  rintro e w1 ⟨rfl, hb1⟩
  have ho1 := ho.step hb1
  have hb2 := bl_trans hb0 hb1
  have c0 := ho1.cell (pfx_0 f l a)
  clear ho hb0 hb1
  go_wp2_with fail
  go_loopw [3, 5] (fun v i wr => ∃ k : Nat, k ≤ 8 ∧ i = .int .i64 ((2 * k : Nat) : Int) ∧ v = .string (joinB (words16 a k) [58]) ∧ Own wr w.heap.size 41 (pfx f l a) ∧ Below w.heap.size w wr) (fun _ i _ => 16 - (intOf i).toNat)
  case atStart => exact ⟨0, by omega, rfl, rfl, ho1, hb2⟩
  case round =>
    obtain ⟨k, hk8, rfl, rfl, hor, hbr⟩ := hrel
    clear ho1 hb2 c0
    by_cases hlt : k < 8
    · have c1 := cell_regrown (hor.cell ((pfx_at f l a (2 * k)).trans (ha.at_ (i := 2 * k) (by omega)).1))
      have c2 := cell_regrown (hor.cell ((pfx_at f l a (2 * k + 1)).trans (ha.at_ (i := 2 * k + 1) (by omega)).1))
      have hr1 := (ha.at_ (i := 2 * k) (by omega)).2
      have hr2 := (ha.at_ (i := 2 * k + 1) (by omega)).2
      have hwl := word16_le ha hlt
      have hz := w16_size ha (k := k) (by omega)
      have h0 := Lib.hid (fun (h : k = 0) => (show joinB (words16 a (k + 1)) [58] = hexB (word16 a k) by subst h; exact w16_first a))
      have h1 := Lib.hid (fun (h : 0 < k) => w16_next a h)
      have h00 := Lib.hid (fun (h : k = 0) => (show joinB (words16 a k) [58] = ⟨#[]⟩ by subst h; rfl))
      generalize joinB (words16 a k) [58] = J at *
      have hwl2 := hwl.2
      have hdz := hexB_size (n := (word16 a k : Int)) (by omega)
      have hF := Lib.hid (rg_of (w := wr) (fun W _ => rdigits16_any (word16 a k : Int) (by omega) (by omega) W))
      generalize word16 a k = u at *
      generalize hexB (u : Int) = dx at *
      generalize nth a (2 * k) = x at *
      generalize nth a (2 * k + 1) = y at *
      obtain ⟨q, hq⟩ : ∃ q : Nat, q = 2 * k := ⟨_, rfl⟩
      rw [← hq] at c1 c2 ⊢
      have HQ := Lib.hid hq
      have hwx : IntKind.i64.wrap x = x := by rw [IntKind.wrap_i64]; omega
      have hwy : IntKind.i64.wrap y = y := by rw [IntKind.wrap_i64]; omega
      obtain ⟨X8, hX8⟩ : ∃ X8 : Int, X8 = x * 256 := ⟨_, rfl⟩
      have hwX : IntKind.i64.wrap (x * 256) = X8 := by rw [hX8, IntKind.wrap_i64]; omega
      have hwS : IntKind.i64.wrap (X8 + y) = (u : Int) := by rw [hX8, IntKind.wrap_i64]; omega
      have hwq : IntKind.i64.wrap ((q : Int) + 1) = (q : Int) + 1 := by rw [IntKind.wrap_i64]; omega
      have hwq2 : IntKind.i64.wrap ((q : Int) + 2) = (q : Int) + 2 := by rw [IntKind.wrap_i64]; omega
      have hq1 : (q : Int) < 16 := by omega
      have hq2 : (q : Int) + 1 < 16 := by omega
      clear hX8 hwl2 hwl
      rcases Nat.eq_zero_or_pos k with hk0 | hk0
      · have hS := Lib.hid (show joinB (words16 a (k + 1)) [58] = J ++ dx by rw [h0.out hk0, h00.out hk0, ba_nilP])
        have d : decide ((0 : Int) < (q : Int)) = false := by simp; omega
        have d2 : ¬ 0 < q := by omega
        have n1 : ¬ 9223372036854775807 < J.size + dx.size := by omega
        clear hk0 hq
        go_wp2_with fail
        refine wp_region_quiet_below (by kernel_rfl) (by kernel_rfl) ?_
        repeat (go_big_quiet_step (with_reducible first | exact hF.out _ _))
        refine wpQuiet_nil ?_
        first | rintro _ ⟨⟨dq, osq⟩, rfl⟩ | rintro ⟨dq, osq⟩
        have hbX := below_regrown wr dq osq
        have hor2 := hor.step hbX
        have hbr2 := bl_trans hbr hbX
        generalize grow (redrawn wr dq) osq = w2 at *
        go_wp2
        go_roundw
        case rel => exact ⟨k + 1, by omega, by have := HQ.out; go_num, congrArg Value.string hS.out.symm, hor2, hbr2⟩
        case measure => have := HQ.out; simp [intOf]; omega
      · have hS := Lib.hid (h1.out hk0)
        have d : decide ((0 : Int) < (q : Int)) = true := by simp; omega
        have d2 : 0 < q := by omega
        have n0 : ¬ 9223372036854775807 < J.size + 1 := by omega
        have n1 : ¬ 9223372036854775807 < J.size + 1 + dx.size := by omega
        clear hk0 hq
        go_wp2_with fail
        refine wp_region_quiet_below (by kernel_rfl) (by kernel_rfl) ?_
        repeat (go_big_quiet_step (with_reducible first | exact hF.out _ _))
        refine wpQuiet_nil ?_
        first | rintro _ ⟨⟨dq, osq⟩, rfl⟩ | rintro ⟨dq, osq⟩
        have hbX := below_regrown wr dq osq
        have hor2 := hor.step hbX
        have hbr2 := bl_trans hbr hbX
        generalize grow (redrawn wr dq) osq = w2 at *
        go_wp2
        go_roundw
        case rel => exact ⟨k + 1, by omega, by have := HQ.out; go_num, congrArg Value.string hS.out.symm, hor2, hbr2⟩
        case measure => have := HQ.out; simp [intOf]; omega
    · obtain rfl : k = 8 := by omega
      have hz := w16_size ha (k := 8) (by omega)
      have hdz := decB_size (n := l) (by omega)
      have hO : Hid (ptext6 l a = joinB (words16 a 8) [58] ++ ⟨#[47]⟩ ++ decB l) := Lib.hid rfl
      have hF := Lib.hid (fun W => rdigits10_any l hl.1 (by omega) W)
      have hcl := hor.cell (pfx_1 f l a)
      generalize joinB (words16 a 8) [58] = J at *
      generalize decB l = dl at *
      have n0 : ¬ 9223372036854775807 < J.size + 1 := by omega
      have n1 : ¬ 9223372036854775807 < J.size + 1 + dl.size := by omega
      go_wp2_with fail
      refine (hF.out _).mono ?_
      rintro e w2 ⟨rfl, hb2⟩
      have hbr2 := bl_trans hbr hb2
      go_wp2
      go_ret
      exact ⟨by rw [hO.out]; rfl, hbr2⟩
set_option maxRecDepth 100000 in
theorem rptext_no (f l : Int) (a : List Int) (w : World) (ha : IsAddr a) (hk : pfxOk f l a = false) :
    Calls Tryd.prog 26 #[.agg (pfx f l a)] w fun e w' => e = .returned (.string ⟨#[]⟩) ∧ Below w.heap.size w w' := by
  have HS := Lib.hid (pfx_size (f := f) (l := l) ha.1)
  have HK := Lib.hid hk
  have hb0 := bl_alloc (bl_refl w) (.cells (pfx f l a) 41)
  clear hk
  go_enter Tryd.func26, Tryd.ntmps26
  go_wp2_with (refine wpList_load_row rfl 41 _ rfl w.heap.size rfl 41 (pfx f l a) (0, 0) (.struct (Tryd.prog.fieldsOf 41)) (Own.new w _ _) (by kernel_rfl) rfl (by rw [HS.out]; kernel_rfl) ?_)
  refine (rpvalid_any f l a _ ha).mono ?_
  rw [HK.out]
  rintro e w1 ⟨rfl, hb1⟩
  have hb2 := bl_trans hb0 hb1
  go_wp2
  go_ret
  exact ⟨rfl, hb2⟩
set_option maxRecDepth 100000 in
theorem rptext_any (f l : Int) (a : List Int) (w : World) (ha : IsAddr a) :
    Calls Tryd.prog 26 #[.agg (pfx f l a)] w fun e w' => e = .returned (.string (ptxtO f l a)) ∧ Below w.heap.size w w' := by
  unfold ptxtO ptxt
  cases hk : pfxOk f l a with
  | true =>
    by_cases hf : f = 1
    · subst hf
      exact rptext4 l a w ha hk
    · rw [if_pos rfl, if_neg hf]
      exact rptext6 f l hf a w ha hk
  | false => exact rptext_no f l a w ha hk
end Go.Proofs.YtecbbjdcnlocdaaDoor

/- prefix.Make -/
namespace Go.Proofs.YtecbbjdcnlocdaaDoor
open Go.RowKit

theorem wpList_build_to {P : Program} {ops : Array Oper} {rest : List Oper} {o : Oper} {a : Act} {w : World} {Q : Exit → Act → World → Prop} (hg : o.guard = none) (t : TypeId) (parts : Array (Nat × Operand)) (ho : o.op = .build t parts) (cs : Array Value)
    (hf : P.built t (parts.map fun (i, x) => (i, a.eval x)).toList = some cs) (h : wpList P ops Q rest (a.put o.dst (.agg cs)) w) : wpList P ops Q (o :: rest) a w :=
  wpList_build hg t parts ho (by rw [hf]; rfl) (by rw [hf]; exact h)
theorem list16 {m : List Int} (h : m.length = 16) : ∃ x0 x1 x2 x3 x4 x5 x6 x7 x8 x9 x10 x11 x12 x13 x14 x15, m = [x0, x1, x2, x3, x4, x5, x6, x7, x8, x9, x10, x11, x12, x13, x14, x15] := by
  match m, h with
  | [x0, x1, x2, x3, x4, x5, x6, x7, x8, x9, x10, x11, x12, x13, x14, x15], _ => exact ⟨x0, x1, x2, x3, x4, x5, x6, x7, x8, x9, x10, x11, x12, x13, x14, x15, rfl⟩
set_option maxRecDepth 100000 in
theorem built_pfx (f l : Int) {m : List Int} (h : m.length = 16) : Tryd.prog.built 41 [(0, .int .i64 f), (1, .int .i64 l), (2, .agg (arr m))] = some (pfx f l m) := by
  obtain ⟨x0, x1, x2, x3, x4, x5, x6, x7, x8, x9, x10, x11, x12, x13, x14, x15, rfl⟩ := list16 h
  kernel_rfl

def zero16 : List Int := List.replicate 16 0
theorem zero16_addr : IsAddr zero16 := ⟨rfl, by intro x hx; have := List.eq_of_mem_replicate hx; omega⟩
def padTo (xs : List Int) : List Int := xs ++ List.replicate (16 - xs.length) 0
theorem padTo_addr {xs : List Int} (h : xs.length ≤ 16) (hr : ∀ x ∈ xs, 0 ≤ x ∧ x ≤ 255) : IsAddr (padTo xs) := by
  refine ⟨by simp [padTo]; omega, ?_⟩
  intro x hx
  rcases List.mem_append.1 hx with hx | hx
  · exact hr x hx
  · have := List.eq_of_mem_replicate hx; omega
theorem splice_pad (xs : List Int) : splice (zero16.map (Value.int .u8)) 0 (xs.map (Value.int .u8)) = (padTo xs).map (Value.int .u8) := by
  unfold splice padTo zero16
  rw [List.map_append, List.map_replicate, List.map_replicate, List.drop_replicate, List.take_zero, List.nil_append, List.length_map, Nat.zero_add]

theorem arr_zero : arr zero16 = #[.int .u8 0, .int .u8 0, .int .u8 0, .int .u8 0, .int .u8 0, .int .u8 0, .int .u8 0, .int .u8 0, .int .u8 0, .int .u8 0, .int .u8 0, .int .u8 0, .int .u8 0, .int .u8 0, .int .u8 0, .int .u8 0] := rfl
theorem pfx_zero : pfx 0 0 zero16 = #[.int .i64 0, .int .i64 0, .int .u8 0, .int .u8 0, .int .u8 0, .int .u8 0, .int .u8 0, .int .u8 0, .int .u8 0, .int .u8 0, .int .u8 0, .int .u8 0, .int .u8 0, .int .u8 0, .int .u8 0, .int .u8 0, .int .u8 0, .int .u8 0] := by
  unfold pfx
  rw [arr_zero]
  rfl

def makeOk (f l : Int) (n : Nat) : Bool := lenOk f l && decide ((n : Int) ≤ widthOf f / 8)
theorem width_ge (f : Int) : 0 ≤ widthOf f ∧ widthOf f ≤ 128 := by unfold widthOf; split <;> (try split) <;> omega

theorem pfx_one (f l : Int) (a : List Int) : (pfx f l a).all (·.oneCell') = true := by
  unfold pfx
  rw [Array.all_append, arr_one, Bool.and_true, Array.all_eq_true_iff_forall_mem]
  intro x hx
  simp only [List.mem_toArray, List.mem_cons, List.not_mem_nil, or_false] at hx
  rcases hx with rfl | rfl <;> simp [Value.oneCell']
theorem results_cell_tmp {P : Program} {fn : Func} {p t : Tmp} {ty : TypeId} (h : fn.results = #[.cell p ty, .tmp t]) (tmps : Array Value) (w : World) (g : Nat) (T : TypeId) (cs : Array Value) (d : TypeDesc)
    (hp : tmps.getD p undef = .pointer (some ⟨g, 0, none⟩)) (hg : Own w g T cs) (hu : P.underlying ty = some d) (hd : (match d with | .struct _ | .array _ _ => true | _ => false) = true) (hi : (P.info? ty).map (·.size) = some cs.size) :
    (results fn tmps).run P w = .ok (.tuple #[.agg cs, tmps.getD t undef]) w := by
  have hp' : tmps[p]?.getD undef = .pointer (some ⟨g, 0, none⟩) := by simpa using hp
  simp [results, h, hp', asAddr, run_loadVar_row w g T ty cs (0, 0) d hg hu hd hi]
set_option maxRecDepth 100000 in
theorem pfx_desc : Tryd.prog.underlying 41 = some (.struct (Tryd.prog.fieldsOf 41)) := by kernel_rfl
set_option maxRecDepth 100000 in
theorem pfx_info {f l : Int} {a : List Int} (h : a.length = 16) : (Tryd.prog.info? 41).map (·.size) = some (pfx f l a).size := by rw [pfx_size h]; kernel_rfl

set_option maxHeartbeats 400000 in
set_option maxRecDepth 100000 in
theorem pmake_no (f l : Int) (A : Option Addr) (n c : Nat) (w : World) (_hn : n ≤ 1000000000) (hk : makeOk f l n = false) :
    Calls Tryd.prog 63 #[.int .i64 f, .int .i64 l, .slice A n c] w fun e w' => e = .returned (.tuple #[.agg (pfx 0 0 zero16), .bool false]) ∧ Below w.heap.size w w' := by
  have hw := width_ge f
  have hw0 := hw.1
  have hw1 := hw.2
  have hz18 : #[.int .i64 0, .int .i64 0, .int .u8 0, .int .u8 0, .int .u8 0, .int .u8 0, .int .u8 0, .int .u8 0, .int .u8 0, .int .u8 0, .int .u8 0, .int .u8 0, .int .u8 0, .int .u8 0, .int .u8 0, .int .u8 0, .int .u8 0, .int .u8 0] = pfx 0 0 zero16 := pfx_zero.symm
  have ho := Own.new w 41 (pfx 0 0 zero16)
  by_cases hl : lenOk f l = true
  · have hlt : widthOf f / 8 < (n : Int) := by simp [makeOk, hl] at hk; omega
    have HL := Lib.hid hl
    clear hl hk hw
    go_enter Tryd.func63, Tryd.ntmps63
    go_wp2_with fail
    refine (hasLength_any f l _).mono ?_
    rw [HL.out]
    rintro e w' ⟨rfl, rfl⟩
    go_wp2_with fail
    refine (width_any f _).mono ?_
    rintro e w' ⟨rfl, rfl⟩
    go_wp2_with (refine wpList_store_row rfl 41 _ _ rfl w.heap.size (pfx 0 0 zero16) rfl rfl 41 (pfx 0 0 zero16) ho (pfx_info rfl) rfl (pfx_one 0 0 zero16) ?_)
    have hfin := ho.setRow (cs' := pfx 0 0 zero16)
    exact bodyPost_ret (results_cell_tmp rfl _ _ w.heap.size 41 (pfx 0 0 zero16) _ rfl hfin pfx_desc rfl (pfx_info rfl)) rfl ⟨rfl, bl_setRow (bl_alloc (bl_refl w) _) (Nat.le_refl _)⟩
  · have hl' : lenOk f l = false := by simpa using hl
    have HL := Lib.hid hl'
    clear hl hk hl' hw
    go_enter Tryd.func63, Tryd.ntmps63
    go_wp2_with fail
    refine (hasLength_any f l _).mono ?_
    rw [HL.out]
    rintro e w' ⟨rfl, rfl⟩
    go_wp2_with (refine wpList_store_row rfl 41 _ _ rfl w.heap.size (pfx 0 0 zero16) rfl rfl 41 (pfx 0 0 zero16) ho (pfx_info rfl) rfl (pfx_one 0 0 zero16) ?_)
    have hfin := ho.setRow (cs' := pfx 0 0 zero16)
    exact bodyPost_ret (results_cell_tmp rfl _ _ w.heap.size 41 (pfx 0 0 zero16) _ rfl hfin pfx_desc rfl (pfx_info rfl)) rfl ⟨rfl, bl_setRow (bl_alloc (bl_refl w) _) (Nat.le_refl _)⟩

set_option maxHeartbeats 400000 in
set_option maxRecDepth 100000 in
theorem pmake_yes (f l : Int) (A : Option Addr) (n c : Nat) (xs : List Int) (w : World) (hx : Bytes w w.heap.size A n xs) (hk : makeOk f l n = true) :
    Calls Tryd.prog 63 #[.int .i64 f, .int .i64 l, .slice A n c] w fun e w' => e = .returned (.tuple #[.agg (pfx f l (maskL l (padTo xs))), .bool true]) ∧ Below w.heap.size w w' := by
  have hw := width_ge f
  simp only [makeOk, lenOk, Bool.and_eq_true, decide_eq_true_eq] at hk
  have hl : lenOk f l = true := by simp [lenOk, hk.1]
  have hnle : ¬ widthOf f / 8 < (n : Int) := by omega
  have hn16 : n ≤ 16 := by omega
  have hl0 : 0 ≤ l := hk.1.2.1
  have hl1 : l ≤ 128 := by omega
  have hw0 := hw.1
  have hw1 := hw.2
  have HL := Lib.hid hl
  have hxl := Lib.hid hx.1
  have hpa := padTo_addr (xs := xs) (by rw [← hx.1]; exact hn16) hx.2.1
  have hma := maskL_addr l hpa
  clear hl hk hw
  have hz18 : #[.int .i64 0, .int .i64 0, .int .u8 0, .int .u8 0, .int .u8 0, .int .u8 0, .int .u8 0, .int .u8 0, .int .u8 0, .int .u8 0, .int .u8 0, .int .u8 0, .int .u8 0, .int .u8 0, .int .u8 0, .int .u8 0, .int .u8 0, .int .u8 0] = pfx 0 0 zero16 := pfx_zero.symm
  have hz16 : #[.int .u8 0, .int .u8 0, .int .u8 0, .int .u8 0, .int .u8 0, .int .u8 0, .int .u8 0, .int .u8 0, .int .u8 0, .int .u8 0, .int .u8 0, .int .u8 0, .int .u8 0, .int .u8 0, .int .u8 0, .int .u8 0] = arr zero16 := arr_zero.symm
  have hb1 := bl_alloc (bl_alloc (bl_refl w) (.cells (pfx 0 0 zero16) 41)) (.cells (arr zero16) 86)
  have oz := Own.new (w.alloc (.cells (pfx 0 0 zero16) 41)) 86 (arr zero16)
  have op := (Own.new w 41 (pfx 0 0 zero16)).alloc (.cells (arr zero16) 86)
  have hx1 := (hx.below hb1)
  have hsz : (w.alloc (.cells (pfx 0 0 zero16) 41)).heap.size = w.heap.size + 1 := by simp
  rw [hsz] at oz
  have hbk : Below (w.heap.size + 1) (w.alloc (.cells (pfx 0 0 zero16) 41)) ((w.alloc (.cells (pfx 0 0 zero16) 41)).alloc (.cells (arr zero16) 86)) := (Below.refl _ _).alloc (by rw [hsz]; exact Nat.le_refl _) _
  have hbn := Lib.hid (built_pfx f l hma.1)
  clear hsz
  go_enter Tryd.func63, Tryd.ntmps63
  go_wp2_with fail
  refine (hasLength_any f l _).mono ?_
  rw [HL.out]
  rintro e w' ⟨rfl, rfl⟩
  go_wp2_with fail
  refine (width_any f _).mono ?_
  rintro e w' ⟨rfl, rfl⟩
  go_wp2_with (refine wpList_copy_splice rfl _ _ 25 25 rfl 5 Tryd.underlying25 (by kernel_rfl) _ _ _ _ _ _ rfl rfl (w.heap.size + 1) 0 (zero16.map (Value.int .u8)) 86 oz (xs.map (Value.int .u8)) ?c0 ?c1 ?c2 ints1 (w.heap.size + 1) (w.alloc (.cells (pfx 0 0 zero16) 41)) hbk (Nat.le_refl _) ?_)
  case c0 => rw [List.length_map, ← hxl.out]; exact (Nat.min_eq_left hn16).symm
  case c2 => rw [List.length_map, List.length_map, ← hxl.out]; exact (by omega : 0 + n ≤ 16)
  case c1 =>
    intro hpos
    rcases hx1.2.2 with h0 | ⟨b, o, rfl, _, hc⟩
    · have : xs = [] := by simpa using h0
      rw [this] at hpos; simp at hpos
    · exact ⟨_, rfl, fun j v hv => by
        rw [Addr.add_lit]
        exact hc j _ (by rw [List.getElem?_map, hv]; rfl)⟩
  intro w2 hw2 hb2
  have oz2 : Own w2 (w.heap.size + 1) 86 (arr (padTo xs)) := by
    have h := hw2.out
    rw [splice_pad] at h
    exact h
  have op1 : Own w2 w.heap.size 41 (pfx 0 0 zero16) := (Own.new w 41 (pfx 0 0 zero16)).below hb2 (Nat.lt_succ_self _)
  have hbw : Below w.heap.size w w2 := (bl_alloc (bl_refl w) (.cells (pfx 0 0 zero16) 41)).trans (hb2.mono (Nat.le_succ _))
  clear hw2 hb2 oz op hbk hb1 hx1 hz18 hz16
  go_wp2_with (refine wpList_load_row rfl 86 _ rfl (w.heap.size + 1) rfl 86 (arr (padTo xs)) (0, 0) (.array 16 5) oz2 Tryd.underlying86 rfl (by rw [arr_size, hpa.1]; exact size_addr) ?_)
  refine (masked_any (padTo xs) l _ hpa hl0 hl1).mono ?_
  rintro e w3 ⟨rfl, hb3⟩
  have op3 := op1.step hb3
  have hbw3 := bl_trans hbw hb3
  have hi3 := Lib.hid (pfx_info (f := f) (l := l) hma.1)
  go_wp2_with (first | (refine wpList_build_to rfl 41 _ rfl (pfx f l (maskL l (padTo xs))) (by simp only [List.map_toArray, List.map_cons, List.map_nil]; exact hbn.out) ?_) | (refine wpList_store_row rfl 41 _ _ rfl w.heap.size (pfx f l (maskL l (padTo xs))) rfl rfl 41 (pfx 0 0 zero16) op3 hi3.out (by rw [pfx_size hma.1]; rfl) (pfx_one _ _ _) ?_))
  have hfin := op3.setRow (cs' := pfx f l (maskL l (padTo xs)))
  exact bodyPost_ret (v := .tuple #[.agg (pfx f l (maskL l (padTo xs))), .bool true]) (results_cell_tmp (p := 6) (t := 7) (fn := Tryd.f63) rfl _ _ w.heap.size 41 (pfx f l (maskL l (padTo xs))) _ rfl hfin pfx_desc rfl hi3.out) rfl ⟨rfl, bl_setRow hbw3 (Nat.le_refl _)⟩
end Go.Proofs.YtecbbjdcnlocdaaDoor

/- Readers whose bytes lie below a bound -/
namespace Go.Proofs.YtecbbjdcnlocdaaDoor
open Go.RowKit

/-- A reader: block g holds the bytes xs that are left, which lie below the block B, and the offset p. -/
def RdrB (B : Nat) (w : World) (g : Nat) (xs : List Int) (p : Nat) : Prop :=
  ∃ A n c, Own w g 93 #[.slice A n c, .int .i64 p] ∧ n ≤ c ∧ Bytes w B A n xs ∧ B ≤ w.heap.size
theorem Rdr.toB {w : World} {g : Nat} {xs : List Int} {p : Nat} (h : Rdr w g xs p) : RdrB w.heap.size w g xs p := by
  obtain ⟨A, n, c, ho, hc, hB⟩ := h
  exact ⟨A, n, c, ho, hc, hB, Nat.le_refl _⟩
theorem RdrB.rdr {B : Nat} {w : World} {g : Nat} {xs : List Int} {p : Nat} (h : RdrB B w g xs p) : Rdr w g xs p := by
  obtain ⟨A, n, c, ho, hc, hB, hs⟩ := h
  exact ⟨A, n, c, ho, hc, hB.more hs⟩
theorem RdrB.range {B : Nat} {w : World} {g : Nat} {xs : List Int} {p : Nat} (h : RdrB B w g xs p) : ∀ x ∈ xs, 0 ≤ x ∧ x ≤ 255 := h.rdr.range
theorem RdrB.lt {B : Nat} {w : World} {g : Nat} {xs : List Int} {p : Nat} (h : RdrB B w g xs p) : g < w.heap.size := h.rdr.lt
theorem RdrB.size {B : Nat} {w : World} {g : Nat} {xs : List Int} {p : Nat} (h : RdrB B w g xs p) : B ≤ w.heap.size := by obtain ⟨A, n, c, ho, hc, hB, hs⟩ := h; exact hs
/-- What keeps the blocks below B and the reader's own keeps the reader. -/
theorem RdrB.keep {B : Nat} {w w' : World} {g : Nat} {xs : List Int} {p : Nat} (h : RdrB B w g xs p) (hs : w.heap.size ≤ w'.heap.size) (hk : ∀ b, b < B ∨ b = g → w'.heap[b]? = w.heap[b]?) : RdrB B w' g xs p := by
  obtain ⟨A, n, c, ho, hc, hB, hs0⟩ := h
  exact ⟨A, n, c, ho.keep (hk g (.inr rfl)), hc, hB.keep (fun b o hb => World.cell?_of_block (a := ⟨b, o, none⟩) (hk b (.inl hb))), Nat.le_trans hs0 hs⟩
theorem RdrB.below {B : Nat} {w w' : World} {g : Nat} {xs : List Int} {p : Nat} (h : RdrB B w g xs p) (hb : Below w.heap.size w w') : RdrB B w' g xs p :=
  h.keep hb.size (fun b hbB => hb.block b (by rcases hbB with hx | rfl; exact Nat.lt_of_lt_of_le hx h.size; exact h.lt))
theorem RdrB.setRow {B : Nat} {w : World} {g : Nat} {xs : List Int} {p k : Nat} {cs : Array Value} (h : RdrB B w g xs p) (hk : B ≤ k) (hg : k ≠ g) : RdrB B (w.setRow k cs) g xs p :=
  h.keep (by simp) (fun b hbB => setRow_other w k b _ (by rcases hbB with hx | rfl; omega; exact fun e => hg e.symm))
theorem RdrB.setCell {B : Nat} {w : World} {g : Nat} {xs : List Int} {p : Nat} {a : Addr} {v : Value} (h : RdrB B w g xs p) (hk : B ≤ a.block) (hg : a.block ≠ g) : RdrB B (w.setCell a v) g xs p :=
  h.keep (by simp) (fun b hbB => Below.heap_setCell w a v b (by rcases hbB with hx | rfl; omega; exact fun e => hg e.symm))
theorem RdrB.drewN {B : Nat} {w : World} {g : Nat} {xs : List Int} {p : Nat} (h : RdrB B w g xs p) (n : Nat) : RdrB B (w.drewN n) g xs p := h.keep (Nat.le_refl _) (fun _ _ => rfl)

theorem Bytes.onlyB {B : Nat} {w w' : World} {A : Option Addr} {n j p : Nat} {xs ys : List Int} (h : Bytes w B A n xs) (hr : Rdr w j ys p) (hb : w.grownBy w' (some j)) : Bytes w' B A n xs := by
  obtain ⟨A', n', c', ho, _⟩ := hr
  refine ⟨h.1, h.2.1, ?_⟩
  rcases h.2.2 with h0 | ⟨b, o, rfl, hlt, hc⟩
  · exact .inl h0
  · refine .inr ⟨b, o, rfl, hlt, fun i v hv => ?_⟩
    have hcell := hc i v hv
    have hne : b ≠ j := by
      rintro rfl
      have h3 := cell_of_row w b (o + i) _ _ (0, 0) ho
      rw [hcell] at h3
      rw [List.getElem?_map] at hv
      obtain ⟨x, _, rfl⟩ := Option.map_eq_some_iff.1 hv
      match h4 : o + i, h3 with
      | 0, h3 => simp at h3
      | 1, h3 => simp at h3
      | k + 2, h3 => simp at h3
    exact hb.cell hcell (fun e => hne (Option.some.inj e))

theorem next_endB {B : Nat} {w W : World} {g : Nat} {xs : List Int} {p : Nat} {A A' : Option Addr} {n n' c' m : Nat} {q : Int} (hR : RdrB B w g xs p) (hg : Own W g 93 #[.slice A' n' c', .int .i64 q] ∧ w.grownBy W (some g)) (hB : Bytes w B A n xs) (hm : m ≤ n) (hq : q = ((p + m : Nat) : Int))
    (hc : n' ≤ c') (hB' : Bytes w B A' n' (xs.drop m)) :
    Bytes W B A m (xs.take m) ∧ RdrB B W g (xs.drop m) (p + m) ∧ w.grownBy W (some g) := by
  subst hq
  exact ⟨(hB.front hm).onlyB hR.rdr hg.2, ⟨A', n', c', hg.1, hc, hB'.onlyB hR.rdr hg.2, Nat.le_trans hR.size hg.2.size⟩, hg.2⟩

set_option maxRecDepth 100000 in
set_option maxHeartbeats 400000 in
theorem next_yesB (B g : Nat) (xs : List Int) (p : Nat) (k : Int) (w : World) (h : RdrB B w g xs p) (hl : xs.length ≤ 1000000000) (hp : p ≤ 1000000000) (hk0 : 0 ≤ k) (hk : k ≤ (xs.length : Int)) :
    Calls Tryd.prog 83 #[.pointer (some ⟨g, 0, none⟩), .int .i64 k] w fun e w' => ∃ A, e = .returned (.tuple #[.slice A k.toNat k.toNat, .bool true]) ∧
      Bytes w' B A k.toNat (xs.take k.toNat) ∧ RdrB B w' g (xs.drop k.toNat) (p + k.toNat) ∧ w.grownBy w' (some g) := by
  have hR := h
  obtain ⟨A, n, c, ho, hc, hB, hs⟩ := h
  have h0 := ho.cell (i := 0) rfl
  have h1 := ho.cell (i := 1) rfl
  have hf0 := ho.frozen 0
  have hf1 := ho.frozen 1
  have hn := Lib.hid hB.1
  rw [← hB.1] at hk hl
  go_enter Tryd.func83, Tryd.ntmps83
  go_wp2
  · have hck : c = k.toNat := by assumption
    have hB2 := hB.cut (k := k.toNat) (cap := c) (by omega) hc
    rw [if_pos hck] at hB2
    go_ret2
    exact ⟨A, rfl, next_endB hR (own_two ho _ _) hB (by omega) (by omega) (by omega) hB2⟩
  · have hck : ¬ c = k.toNat := by assumption
    have hB2 := hB.cut (k := k.toNat) (cap := c) (by omega) hc
    rw [if_neg hck] at hB2
    go_ret2
    exact ⟨A, rfl, next_endB hR (own_two ho _ _) hB (by omega) (by omega) (by omega) hB2⟩

set_option maxRecDepth 100000 in
set_option maxHeartbeats 400000 in
theorem take_yesB (B g : Nat) (xs : List Int) (p : Nat) (k : Int) (w : World) (h : RdrB B w g xs p) (hl : xs.length ≤ 1000000000) (hp : p ≤ 1000000000) (hk0 : 0 ≤ k) (hk : k ≤ (xs.length : Int)) :
    Calls Tryd.prog 62 #[.pointer (some ⟨g, 0, none⟩), .int .i64 k] w fun e w' => ∃ j, e = .returned (.tuple #[.slice (some ⟨j, 0, none⟩) k.toNat k.toNat, .bool true]) ∧ w.heap.size ≤ j ∧
      Own w' j 5 ((xs.take k.toNat).map (Value.int .u8)).toArray ∧ RdrB B w' g (xs.drop k.toNat) (p + k.toNat) ∧ w.grownBy w' (some g) := by
  have hgl := h.lt
  have hr := h.range
  have hsz := h.size
  go_enter Tryd.func62, Tryd.ntmps62
  go_wp2_with fail
  refine (some_yes _ _).mono ?_
  rintro e w' ⟨rfl, rfl⟩
  go_wp2_with fail
  refine (next_yesB _ _ _ _ _ _ h hl hp hk0 hk).mono ?_
  rintro e w1 ⟨A, rfl, hB, hR, hg⟩
  have hs1 := hg.size
  go_wp2_with fail
  have hpt := parts_one (c := k.toNat) (hB.more hR.size) 25
  have hlen : (flat [(⟨A, k.toNat, k.toNat, xs.take k.toNat⟩ : Part)]).length ≤ 1000000000 := by rw [flat_one]; show (xs.take _).length ≤ _; rw [List.length_take]; omega
  refine (cat_any _ _ _ _ _ hpt (by omega) hlen).mono ?_
  rintro e w2 ⟨rfl, hown, hb⟩
  rw [flat_one] at hown
  have hw : (w1.alloc (Obj.cells #[Value.slice A k.toNat k.toNat] 25)).heap.size = w1.heap.size + 1 := by simp
  rw [hw] at hown hb
  have h1 := hb.size
  rw [hw] at h1
  go_wp2
  rw [flat_one]
  have ho := Own.of_full hown
  have hbb : Below w1.heap.size w1 w2 := ((Below.refl _ _).alloc (Nat.le_refl _) _).trans (hb.mono (by omega))
  have hn : (xs.take k.toNat).length = k.toNat := by rw [List.length_take]; omega
  go_ret2
  refine ⟨w1.heap.size + 1, ?_, by omega, ho, hR.below hbb, only_below hg hbb⟩
  show Ending.returned (.tuple #[.slice _ (xs.take k.toNat).length (xs.take k.toNat).length, _]) = _
  rw [hn]; rfl

set_option maxRecDepth 100000 in
set_option maxHeartbeats 400000 in
theorem number_yesB (B g : Nat) (xs : List Int) (p : Nat) (k : Int) (w : World) (h : RdrB B w g xs p) (hl : xs.length ≤ 1000000000) (hp : p ≤ 1000000000) (h1 : 1 ≤ k) (h4 : k ≤ 4) (hk : k ≤ (xs.length : Int)) :
    Calls Tryd.prog 51 #[.pointer (some ⟨g, 0, none⟩), .int .i64 k] w fun e w' => e = .returned (.tuple #[.int .u32 (big (xs.take k.toNat)), .bool true]) ∧
      RdrB B w' g (xs.drop k.toNat) (p + k.toNat) ∧ w.grownBy w' (some g) := by
  have hgl := h.lt
  have hr := h.range
  go_enter Tryd.func51, Tryd.ntmps51
  go_wp2_with fail
  refine (some_yes _ _).mono ?_
  rintro e w' ⟨rfl, rfl⟩
  go_wp2_with fail
  refine (next_yesB _ _ _ _ _ _ h hl hp (by omega) hk).mono ?_
  rintro e w1 ⟨A, rfl, hB, hR, hg⟩
  go_wp2
  go_loop [8, 10, 30] (fun s _ i => ∃ j : Nat, j ≤ k.toNat ∧ i = .int .i64 j ∧ s = .int .u32 (big ((xs.take k.toNat).take j))) (fun _ _ i => k.toNat - (intOf i).toNat)
  case atStart => exact ⟨0, Nat.zero_le _, rfl, rfl⟩
  case round =>
    obtain ⟨j, hj, rfl, rfl⟩ := hrel
    by_cases hlt : j < k.toNat
    · obtain ⟨b, o, rfl, hb, hc, h0, h1⟩ := hB.at_ hlt
      have hbt := big_take_lt j hr (by omega) hlt
      have hor := Lib.hid (or_byte _ _ hbt.1 hbt.2 h0 h1)
      have hsn := Lib.hid (big_snoc ((xs.take k.toNat).take j) (nth (xs.take k.toNat) j))
      have htk := Lib.hid (take_nth (xs := xs.take k.toNat) (k := j) (by rw [List.length_take]; omega))
      go_wp2
      go_round
      case rel => exact ⟨j + 1, by omega, by go_num, by rw [hor.out, htk.out, hsn.out]⟩
      case measure => simp [intOf]; omega
    · have hjk := Lib.hid (show j = k.toNat by omega)
      go_wp2
      go_ret2
      refine ⟨?_, hR, hg⟩
      show Ending.returned (.tuple #[.int .u32 (big ((xs.take k.toNat).take j)), _]) = _
      rw [hjk.out, List.take_take, Nat.min_self]; rfl
end Go.Proofs.YtecbbjdcnlocdaaDoor

/- prefix.Read -/
namespace Go.Proofs.YtecbbjdcnlocdaaDoor
open Go.RowKit

theorem only_setRow {a w : World} {g k : Nat} {cs : Array Value} (h : a.grownBy w (some g)) (hk : a.heap.size ≤ k) : a.grownBy (w.setRow k cs) (some g) :=
  ⟨h.os, h.tape, h.output, by simpa using h.size, fun i hi hne => (setRow_other w k i _ (by omega)).trans (h.block i hi hne)⟩

set_option maxRecDepth 100000 in
theorem number_one (B g : Nat) (x : Int) (xs : List Int) (p : Nat) (w : World) (h : RdrB B w g (x :: xs) p) (hl : (x :: xs).length ≤ 1000000000) (hp : p ≤ 1000000000) :
    Calls Tryd.prog 51 #[.pointer (some ⟨g, 0, none⟩), .int .i64 1] w fun e w' => e = .returned (.tuple #[.int .u32 x, .bool true]) ∧
      RdrB B w' g xs (p + 1) ∧ w.grownBy w' (some g) := by
  refine (number_yesB B g _ p 1 w h hl hp (by omega) (by omega) (by rw [List.length_cons]; omega)).mono ?_
  rintro e w' ⟨rfl, hr, hg⟩
  refine ⟨?_, hr, hg⟩
  show Ending.returned (.tuple #[.int .u32 (big [x]), _]) = _
  simp [big]

set_option maxHeartbeats 400000 in
set_option maxRecDepth 100000 in
theorem pread_nil (f : Int) (g p : Nat) (w : World) (h : Rdr w g [] p) :
    Calls Tryd.prog 28 #[.int .i64 f, .pointer (some ⟨g, 0, none⟩)] w fun e w' => e = .returned (.tuple #[.agg (pfx 0 0 zero16), .bool false]) ∧ Below w.heap.size w w' := by
  have hz18 : #[.int .i64 0, .int .i64 0, .int .u8 0, .int .u8 0, .int .u8 0, .int .u8 0, .int .u8 0, .int .u8 0, .int .u8 0, .int .u8 0, .int .u8 0, .int .u8 0, .int .u8 0, .int .u8 0, .int .u8 0, .int .u8 0, .int .u8 0, .int .u8 0] = pfx 0 0 zero16 := pfx_zero.symm
  have ho := Own.new w 41 (pfx 0 0 zero16)
  have h1 := h.below (bl_alloc (bl_refl w) (.cells (pfx 0 0 zero16) 41))
  go_enter Tryd.func28, Tryd.ntmps28
  go_wp2_with fail
  refine (number_no g [] p 1 _ h1 (by simp) (by omega) (by omega) (by simp)).mono ?_
  rintro e w' ⟨rfl, rfl⟩
  go_wp2_with (refine wpList_store_row rfl 41 _ _ rfl w.heap.size (pfx 0 0 zero16) rfl rfl 41 (pfx 0 0 zero16) ho (pfx_info rfl) rfl (pfx_one 0 0 zero16) ?_)
  have hfin := ho.setRow (cs' := pfx 0 0 zero16)
  exact bodyPost_ret (results_cell_tmp (p := 4) (t := 5) (fn := Tryd.f28) rfl _ _ w.heap.size 41 (pfx 0 0 zero16) _ rfl hfin pfx_desc rfl (pfx_info rfl)) rfl ⟨rfl, bl_setRow (bl_alloc (bl_refl w) _) (Nat.le_refl _)⟩

set_option maxHeartbeats 400000 in
set_option maxRecDepth 100000 in
theorem pread_bad (B : Nat) (f x : Int) (xs : List Int) (g p : Nat) (w : World) (h : RdrB B w g (x :: xs) p) (hl : (x :: xs).length ≤ 1000000000) (hp : p ≤ 1000000000) (hk : lenOk f x = false) :
    Calls Tryd.prog 28 #[.int .i64 f, .pointer (some ⟨g, 0, none⟩)] w fun e w' => e = .returned (.tuple #[.agg (pfx 0 0 zero16), .bool false]) ∧ RdrB B w' g xs (p + 1) ∧ w.grownBy w' (some g) := by
  have hz18 : #[.int .i64 0, .int .i64 0, .int .u8 0, .int .u8 0, .int .u8 0, .int .u8 0, .int .u8 0, .int .u8 0, .int .u8 0, .int .u8 0, .int .u8 0, .int .u8 0, .int .u8 0, .int .u8 0, .int .u8 0, .int .u8 0, .int .u8 0, .int .u8 0] = pfx 0 0 zero16 := pfx_zero.symm
  have ho := Own.new w 41 (pfx 0 0 zero16)
  have hg0 := h.lt
  have hBs := h.size
  have hb0 := bl_alloc (bl_refl w) (.cells (pfx 0 0 zero16) 41)
  have h1 := h.below hb0
  have hx := h.range x (List.mem_cons_self ..)
  have hx0 := hx.1
  have hx1 := hx.2
  have HL := Lib.hid hk
  clear hk hx
  go_enter Tryd.func28, Tryd.ntmps28
  go_wp2_with fail
  refine (number_one B g x xs p _ h1 hl hp).mono ?_
  rintro e w1 ⟨rfl, hr1, hgr⟩
  have ho1 := ho.grown hgr (fun e => by cases e; omega)
  have hgr1 := only_trans (only_of_below hb0 (some g)) hgr
  clear hb0 h1 ho
  go_wp2_with fail
  refine (hasLength_any f _ _).mono ?_
  rw [HL.out]
  rintro e w' ⟨rfl, rfl⟩
  go_wp2_with (refine wpList_store_row rfl 41 _ _ rfl w.heap.size (pfx 0 0 zero16) rfl rfl 41 (pfx 0 0 zero16) ho1 (pfx_info rfl) rfl (pfx_one 0 0 zero16) ?_)
  have hfin := ho1.setRow (cs' := pfx 0 0 zero16)
  exact bodyPost_ret (results_cell_tmp (p := 4) (t := 5) (fn := Tryd.f28) rfl _ _ w.heap.size 41 (pfx 0 0 zero16) _ rfl hfin pfx_desc rfl (pfx_info rfl)) rfl ⟨rfl, hr1.setRow hBs (by omega), only_setRow hgr1 (Nat.le_refl _)⟩

theorem lenOk_range {f x : Int} (h : lenOk f x = true) : 0 ≤ x ∧ x ≤ 128 := by
  have := width_ge f
  simp only [lenOk, decide_eq_true_eq] at h
  omega
theorem lenOk_make {f x : Int} (h : lenOk f x = true) : makeOk f x (sizeOfBits x).toNat = true := by
  have hr := lenOk_range h
  have hw : widthOf f = 32 ∨ widthOf f = 128 ∨ widthOf f = 0 := by unfold widthOf; split <;> (try split) <;> omega
  simp only [makeOk, h, Bool.true_and, decide_eq_true_eq]
  simp only [lenOk, decide_eq_true_eq] at h
  unfold sizeOfBits
  omega

set_option maxHeartbeats 400000 in
set_option maxRecDepth 100000 in
theorem pread_short (B : Nat) (f x : Int) (xs : List Int) (g p : Nat) (w : World) (h : RdrB B w g (x :: xs) p) (hl : (x :: xs).length ≤ 1000000000) (hp : p ≤ 999999999) (hk : lenOk f x = true) (hs : xs.length < (sizeOfBits x).toNat) :
    Calls Tryd.prog 28 #[.int .i64 f, .pointer (some ⟨g, 0, none⟩)] w fun e w' => e = .returned (.tuple #[.agg (pfx 0 0 zero16), .bool false]) ∧ RdrB B w' g xs (p + 1) ∧ w.grownBy w' (some g) := by
  have hz18 : #[.int .i64 0, .int .i64 0, .int .u8 0, .int .u8 0, .int .u8 0, .int .u8 0, .int .u8 0, .int .u8 0, .int .u8 0, .int .u8 0, .int .u8 0, .int .u8 0, .int .u8 0, .int .u8 0, .int .u8 0, .int .u8 0, .int .u8 0, .int .u8 0] = pfx 0 0 zero16 := pfx_zero.symm
  have ho := Own.new w 41 (pfx 0 0 zero16)
  have hg0 := h.lt
  have hBs := h.size
  have hb0 := bl_alloc (bl_refl w) (.cells (pfx 0 0 zero16) 41)
  have h1 := h.below hb0
  have hx := lenOk_range hk
  have hx0 := hx.1
  have hx1 := hx.2
  have HL := Lib.hid hk
  have HS := Lib.hid hs
  have hl' : xs.length ≤ 1000000000 := by rw [List.length_cons] at hl; omega
  clear hk hx hs
  go_enter Tryd.func28, Tryd.ntmps28
  go_wp2_with fail
  refine (number_one B g x xs p _ h1 hl (by omega)).mono ?_
  rintro e w1 ⟨rfl, hr1, hgr⟩
  have ho1 := ho.grown hgr (fun e => by cases e; omega)
  have hgr1 := only_trans (only_of_below hb0 (some g)) hgr
  clear hb0 h1 ho
  go_wp2_with fail
  refine (hasLength_any f _ _).mono ?_
  rw [HL.out]
  rintro e w' ⟨rfl, rfl⟩
  go_wp2_with fail
  refine (psize_any x _ hx0 (by omega)).mono ?_
  rintro e w' ⟨rfl, rfl⟩
  go_wp2_with fail
  refine (take_no g xs (p + 1) _ _ hr1.rdr hl' (.inr (by have := HS.out; omega))).mono ?_
  rintro e w' ⟨rfl, rfl⟩
  go_wp2_with (refine wpList_store_row rfl 41 _ _ rfl w.heap.size (pfx 0 0 zero16) rfl rfl 41 (pfx 0 0 zero16) ho1 (pfx_info rfl) rfl (pfx_one 0 0 zero16) ?_)
  have hfin := ho1.setRow (cs' := pfx 0 0 zero16)
  exact bodyPost_ret (results_cell_tmp (p := 4) (t := 5) (fn := Tryd.f28) rfl _ _ w.heap.size 41 (pfx 0 0 zero16) _ rfl hfin pfx_desc rfl (pfx_info rfl)) rfl ⟨rfl, hr1.setRow hBs (by omega), only_setRow hgr1 (Nat.le_refl _)⟩

set_option maxHeartbeats 400000 in
set_option maxRecDepth 100000 in
theorem pread_yes (B : Nat) (f x : Int) (xs : List Int) (g p : Nat) (w : World) (h : RdrB B w g (x :: xs) p) (hl : (x :: xs).length ≤ 1000000000) (hp : p ≤ 999999999) (hk : lenOk f x = true) (hs : (sizeOfBits x).toNat ≤ xs.length) :
    Calls Tryd.prog 28 #[.int .i64 f, .pointer (some ⟨g, 0, none⟩)] w fun e w' => e = .returned (.tuple #[.agg (pfx f x (maskL x (padTo (xs.take (sizeOfBits x).toNat)))), .bool true]) ∧ RdrB B w' g (xs.drop (sizeOfBits x).toNat) (p + 1 + (sizeOfBits x).toNat) ∧ w.grownBy w' (some g) := by
  have hz18 : #[.int .i64 0, .int .i64 0, .int .u8 0, .int .u8 0, .int .u8 0, .int .u8 0, .int .u8 0, .int .u8 0, .int .u8 0, .int .u8 0, .int .u8 0, .int .u8 0, .int .u8 0, .int .u8 0, .int .u8 0, .int .u8 0, .int .u8 0, .int .u8 0] = pfx 0 0 zero16 := pfx_zero.symm
  have ho := Own.new w 41 (pfx 0 0 zero16)
  have hg0 := h.lt
  have hBs := h.size
  have hb0 := bl_alloc (bl_refl w) (.cells (pfx 0 0 zero16) 41)
  have h1 := h.below hb0
  have hx := lenOk_range hk
  have hx0 := hx.1
  have hx1 := hx.2
  have hsz : 0 ≤ sizeOfBits x ∧ sizeOfBits x ≤ 16 := by unfold sizeOfBits; omega
  have hs0 := hsz.1
  have hs1 := hsz.2
  have hlen : (xs.take (sizeOfBits x).toNat).length ≤ 16 := by rw [List.length_take]; omega
  have hpl : IsAddr (padTo (xs.take (sizeOfBits x).toNat)) := padTo_addr hlen (fun y hy => h.range y (List.mem_cons_of_mem _ (List.mem_of_mem_take hy)))
  have hma := maskL_addr x hpl
  have HR := Lib.hid (fun (y : Int) (hy : y ∈ xs.take (sizeOfBits x).toNat) => h.range y (List.mem_cons_of_mem _ (List.mem_of_mem_take hy)))
  have HK := Lib.hid (lenOk_make hk)
  have HL := Lib.hid hk
  have HS := Lib.hid hs
  have HN := Lib.hid (show (xs.take (sizeOfBits x).toNat).length = (sizeOfBits x).toNat by rw [List.length_take]; omega)
  have hl' : xs.length ≤ 1000000000 := by rw [List.length_cons] at hl; omega
  clear hk hx hs hsz hlen
  go_enter Tryd.func28, Tryd.ntmps28
  go_wp2_with fail
  refine (number_one B g x xs p _ h1 hl (by omega)).mono ?_
  rintro e w1 ⟨rfl, hr1, hgr⟩
  have ho1 := ho.grown hgr (fun e => by cases e; omega)
  have hgr1 := only_trans (only_of_below hb0 (some g)) hgr
  clear hb0 h1 ho
  go_wp2_with fail
  refine (hasLength_any f _ _).mono ?_
  rw [HL.out]
  rintro e w' ⟨rfl, rfl⟩
  go_wp2_with fail
  refine (psize_any x _ hx0 (by omega)).mono ?_
  rintro e w' ⟨rfl, rfl⟩
  go_wp2_with fail
  refine (take_yesB B g xs (p + 1) _ _ hr1 hl' (by omega) hs0 (by have := HS.out; omega)).mono ?_
  rintro e w2 ⟨j, rfl, hj, hoj, hr2, hgr2⟩
  have ho2 := ho1.grown hgr2 (fun e => by cases e; omega)
  have hgr3 := only_trans hgr1 hgr2
  have hby := Bytes.of_owned hoj HR.out hoj.lt
  rw [HN.out] at hby
  have hsz1 := hgr1.size
  clear hgr hgr1 hgr2 ho1 hr1 hoj
  go_wp2_with fail
  refine (pmake_yes f x _ _ _ _ _ hby HK.out).mono ?_
  rintro e w3 ⟨rfl, hb3⟩
  have ho3 := ho2.step hb3
  have hr3 := hr2.below hb3
  have hgr4 := only_below hgr3 hb3
  have hi3 := Lib.hid (pfx_info (f := f) (l := x) hma.1)
  clear ho2 hr2 hgr3 hby
  go_wp2_with (refine wpList_store_row rfl 41 _ _ rfl w.heap.size (pfx f x (maskL x (padTo (xs.take (sizeOfBits x).toNat)))) rfl rfl 41 (pfx 0 0 zero16) ho3 hi3.out (by rw [pfx_size hma.1]; rfl) (pfx_one _ _ _) ?_)
  have hfin := ho3.setRow (cs' := pfx f x (maskL x (padTo (xs.take (sizeOfBits x).toNat))))
  exact bodyPost_ret (results_cell_tmp (p := 4) (t := 5) (fn := Tryd.f28) rfl _ _ w.heap.size 41 (pfx f x (maskL x (padTo (xs.take (sizeOfBits x).toNat)))) _ rfl hfin pfx_desc rfl hi3.out) rfl ⟨rfl, hr3.setRow hBs (by omega), only_setRow hgr4 (Nat.le_refl _)⟩
end Go.Proofs.YtecbbjdcnlocdaaDoor

/- Routes in memory -/
namespace Go.Proofs.YtecbbjdcnlocdaaDoor
open Go.RowKit

/-- A guarded load of a struct, its guard met. -/
theorem wpList_load_on {P : Program} {ops : Array Oper} {rest : List Oper} {op : Oper} {a : Act} {w : World} {Q : Exit → Act → World → Prop} (hw : Region.wanted op (yielded ops a.tmps) = true) (ty : TypeId) (x : Operand) (ho : op.op = .load ty x)
    (b o : Nat) (hx : a.eval x = .pointer (some ⟨b, o, none⟩)) (cs : List Value) (d : TypeDesc) (hc : w.rangeAt b o cs)
    (hu : P.underlying ty = some d) (hd : d.isRow = true) (hi : (P.info? ty).map (·.size) = some cs.length)
    (h : wpList P ops Q rest (a.put op.dst (.agg cs.toArray)) w) : wpList P ops Q (op :: rest) a w :=
  wpList_step fun K hK => by
    simp only [hw, if_true]
    exact wp_load_mid ty x ho b o hx cs d hc hu hd hi (hK _ _ h)

/-- A route. -/
structure Rt where
  p : Int
  f : Int
  l : Int
  a : List Int
def Rt.Ok (r : Rt) : Prop := IsAddr r.a ∧ 0 ≤ r.p ∧ r.p ≤ 4294967295
def rt (r : Rt) : Array Value := #[.int .u32 r.p] ++ pfx r.f r.l r.a
theorem rt_size {r : Rt} (h : r.a.length = 16) : (rt r).size = 19 := by simp [rt, pfx_size h]
theorem rt_0 (r : Rt) : (rt r)[0]? = some (.int .u32 r.p) := by unfold rt; rw [Array.getElem?_append_left (by simp)]; rfl
theorem rt_at (r : Rt) (j : Nat) : (rt r)[1 + j]? = (pfx r.f r.l r.a)[j]? := by
  unfold rt
  rw [Array.getElem?_append_right (by simp)]
  simp
theorem rt_1 (r : Rt) : (rt r)[1]? = some (.int .i64 r.f) := (rt_at r 0).trans (pfx_0 _ _ _)
theorem rt_2 (r : Rt) : (rt r)[2]? = some (.int .i64 r.l) := (rt_at r 1).trans (pfx_1 _ _ _)
theorem rt_one (r : Rt) : (rt r).all (·.oneCell') = true := by
  unfold rt
  rw [Array.all_append, pfx_one, Bool.and_true, Array.all_eq_true_iff_forall_mem]
  intro x hx
  simp only [List.mem_toArray, List.mem_cons, List.not_mem_nil, or_false] at hx
  subst hx
  simp [Value.oneCell']
set_option maxRecDepth 100000 in
theorem rt_info {r : Rt} (h : r.a.length = 16) : (Tryd.prog.info? 119).map (·.size) = some (rt r).size := by rw [rt_size h]; kernel_rfl
set_option maxRecDepth 100000 in
theorem rt_infol {r : Rt} (h : r.a.length = 16) : (Tryd.prog.info? 119).map (·.size) = some (rt r).toList.length := by rw [Array.length_toList, rt_size h]; kernel_rfl
set_option maxRecDepth 100000 in
theorem rt_desc : Tryd.prog.underlying 119 = some (.struct (Tryd.prog.fieldsOf 119)) := by kernel_rfl
set_option maxRecDepth 100000 in
theorem pfx_infol {f l : Int} {a : List Int} (h : a.length = 16) : (Tryd.prog.info? 41).map (·.size) = some (pfx f l a).toList.length := by rw [Array.length_toList, pfx_size h]; kernel_rfl
def rt0 : Rt := ⟨0, 0, 0, zero16⟩
theorem rt_zero : rt rt0 = #[.int .u32 0, .int .i64 0, .int .i64 0, .int .u8 0, .int .u8 0, .int .u8 0, .int .u8 0, .int .u8 0, .int .u8 0, .int .u8 0, .int .u8 0, .int .u8 0, .int .u8 0, .int .u8 0, .int .u8 0, .int .u8 0, .int .u8 0, .int .u8 0, .int .u8 0] := by
  unfold rt rt0
  rw [pfx_zero]
  rfl

/-- A route's prefix lies in its block from cell 1 on. -/
theorem Own.pfxAt {w : World} {g : Nat} {t : TypeId} {r : Rt} (h : Own w g t (rt r)) : w.rangeAt g 1 (pfx r.f r.l r.a).toList := fun j v hv => by
  have hc := h.cell (i := 1 + j) (v := v) (by rw [rt_at]; simpa using hv)
  exact hc

/-- A list of routes. -/
def Routes (w : World) (B : Nat) (A : Option Addr) (n : Nat) (rs : List Rt) : Prop :=
  n = rs.length ∧ (∀ r ∈ rs, r.Ok) ∧ (rs = [] ∨ ∃ b o, A = some ⟨b, o, none⟩ ∧ b < B ∧ ∀ i r, rs[i]? = some r → w.rangeAt b (o + i * 19) (rt r).toList)
theorem Routes.keep {w w' : World} {B : Nat} {A : Option Addr} {n : Nat} {rs : List Rt} (h : Routes w B A n rs) (hk : ∀ b o, b < B → w'.cell? ⟨b, o, none⟩ = w.cell? ⟨b, o, none⟩) : Routes w' B A n rs := by
  obtain ⟨hn, ho, hr⟩ := h
  refine ⟨hn, ho, ?_⟩
  rcases hr with h0 | ⟨b, o, rfl, hb, hc⟩
  · exact .inl h0
  · exact .inr ⟨b, o, rfl, hb, fun i r hi j v hv => (hk b _ hb).trans (hc i r hi j v hv)⟩
theorem Routes.below {w w' : World} {B : Nat} {A : Option Addr} {n : Nat} {rs : List Rt} (h : Routes w B A n rs) (hb : Below B w w') : Routes w' B A n rs :=
  h.keep fun b o hB => World.cell?_of_block (a := ⟨b, o, none⟩) (hb.block b hB)
theorem Routes.more {w : World} {B B' : Nat} {A : Option Addr} {n : Nat} {rs : List Rt} (h : Routes w B A n rs) (hB : B ≤ B') : Routes w B' A n rs := by
  obtain ⟨hn, ho, hr⟩ := h
  refine ⟨hn, ho, ?_⟩
  rcases hr with h0 | ⟨b, o, rfl, hb, hc⟩
  · exact .inl h0
  · exact .inr ⟨b, o, rfl, by omega, hc⟩
def nthR (rs : List Rt) (i : Nat) : Rt := rs.getD i rt0
theorem nthR_some {rs : List Rt} {i : Nat} (h : i < rs.length) : rs[i]? = some (nthR rs i) := by
  unfold nthR
  rw [List.getD_eq_getElem?_getD, List.getElem?_eq_getElem h]; rfl
theorem nthR_mem {rs : List Rt} {i : Nat} (h : i < rs.length) : nthR rs i ∈ rs := List.mem_of_getElem? (nthR_some h)
theorem take_nthR {rs : List Rt} {i : Nat} (h : i < rs.length) : rs.take (i + 1) = rs.take i ++ [nthR rs i] := by
  rw [List.take_add_one, nthR_some h]; rfl
theorem Routes.at_ {w : World} {B : Nat} {A : Option Addr} {n : Nat} {rs : List Rt} (h : Routes w B A n rs) {i : Nat} (hi : i < n) :
    ∃ b o, A = some ⟨b, o, none⟩ ∧ b < B ∧ (nthR rs i).Ok ∧ w.rangeAt b (o + i * 19) (rt (nthR rs i)).toList := by
  obtain ⟨hn, ho, h0 | ⟨b, o, hA, hb, hc⟩⟩ := h
  · subst h0; simp at hn; omega
  · have hi' : i < rs.length := by omega
    exact ⟨b, o, hA, hb, ho _ (nthR_mem hi'), hc i _ (nthR_some hi')⟩

/-- Whether a route is valid. -/
def rtOk (f : Int) (add : Bool) (r : Rt) : Bool := decide (r.f = f) && pfxOk r.f r.l r.a && (add || decide (r.p = 0))
theorem all_no {rs : List Rt} {P : Rt → Bool} {i : Nat} (h : i < rs.length) (hp : P (nthR rs i) = false) : rs.all P = false := by
  rw [List.all_eq_false]
  exact ⟨_, nthR_mem h, by simp [hp]⟩
theorem all_step {rs : List Rt} {P : Rt → Bool} {i : Nat} (h : i < rs.length) (h0 : (rs.take i).all P = true) (hp : P (nthR rs i) = true) : (rs.take (i + 1)).all P = true := by
  rw [take_nthR h, List.all_append, h0]; simp [hp]

set_option maxHeartbeats 1600000 in
set_option maxRecDepth 100000 in
theorem nvalid_t (f : Int) (A : Option Addr) (n c : Nat) (rs : List Rt) (w : World) (h : Routes w w.heap.size A n rs) (hn : n ≤ 1000000000) :
    Calls Tryd.prog 101 #[.int .i64 f, .bool true, .slice A n c] w fun e w' => e = .returned (.bool (rs.all (rtOk f true))) ∧ Below w.heap.size w w' := by
  have hz19 : #[.int .u32 0, .int .i64 0, .int .i64 0, .int .u8 0, .int .u8 0, .int .u8 0, .int .u8 0, .int .u8 0, .int .u8 0, .int .u8 0, .int .u8 0, .int .u8 0, .int .u8 0, .int .u8 0, .int .u8 0, .int .u8 0, .int .u8 0, .int .u8 0, .int .u8 0] = rt rt0 := rt_zero.symm
  have HN := Lib.hid h.1
  go_enter Tryd.func101, Tryd.ntmps101
  go_wp2_with fail
  go_loopw [11] (fun i wr => (∃ j : Nat, j ≤ n ∧ i = .int .i64 j ∧ (rs.take j).all (rtOk f true) = true) ∧ Below w.heap.size w wr) (fun i _ => n - (intOf i).toNat)
  case atStart => exact ⟨⟨0, Nat.zero_le _, rfl, by simp⟩, bl_refl w⟩
  case round =>
    obtain ⟨⟨j, hj, rfl, hall⟩, hbw⟩ := hrel
    by_cases hlt : j < n
    · obtain ⟨b, o, rfl, hbB, hok, hrg⟩ := (h.below hbw).at_ hlt
      have hrl := hok.1.1
      have hi19 := Lib.hid (rt_infol hrl)
      have hi18 := Lib.hid (pfx_infol (f := (nthR rs j).f) (l := (nthR rs j).l) hrl)
      have hi20 := Lib.hid (rt_info hrl)
      have hj' := Lib.hid (show j < rs.length by have := HN.out; omega)
      have ho' := (Own.new wr 119 (rt rt0))
      have ho := ho'.setRow (cs' := rt (nthR rs j))
      have hb1 := bl_setRow (cs := rt (nthR rs j)) (bl_alloc hbw (.cells (rt rt0) 119)) hbw.size
      have hc0 := ho.cell (rt_0 _)
      have hc1 := ho.cell (rt_1 _)
      have hpx := ho.pfxAt
      by_cases h1 : (nthR rs j).f = f
      · go_wp2_with (first | (refine wpList_load_mid rfl 119 _ rfl b (o + j * 19) rfl (rt (nthR rs j)).toList (.struct (Tryd.prog.fieldsOf 119)) hrg rt_desc rfl hi19.out ?_) | (refine wpList_store_row rfl 119 _ _ rfl wr.heap.size (rt (nthR rs j)) rfl rfl 119 (rt rt0) ho' hi20.out (by rw [rt_size hrl]; rfl) (rt_one _) ?_) | (refine wpList_load_on rfl 41 _ rfl wr.heap.size 1 rfl (pfx (nthR rs j).f (nthR rs j).l (nthR rs j).a).toList (.struct (Tryd.prog.fieldsOf 41)) hpx pfx_desc rfl hi18.out ?_))
        refine (pvalid_any _ (nthR rs j).l (nthR rs j).a _ hok.1).mono ?_
        rintro e w2 ⟨rfl, hb2⟩
        have ho2 := ho.step hb2
        have hb3 := bl_trans hb1 hb2
        have hc02 := ho2.cell (rt_0 _)
        go_wp2_with fail
        all_goals first
          | (go_ret; exact ⟨by rw [all_no hj'.out (by simp_all [rtOk])]; rfl, hb3⟩)
          | (go_roundw
             case rel => exact ⟨⟨j + 1, by omega, by go_num, all_step hj'.out hall (by simp_all [rtOk])⟩, hb3⟩
             case measure => simp [intOf]; omega)
      · go_wp2_with (first | (refine wpList_load_mid rfl 119 _ rfl b (o + j * 19) rfl (rt (nthR rs j)).toList (.struct (Tryd.prog.fieldsOf 119)) hrg rt_desc rfl hi19.out ?_) | (refine wpList_store_row rfl 119 _ _ rfl wr.heap.size (rt (nthR rs j)) rfl rfl 119 (rt rt0) ho' hi20.out (by rw [rt_size hrl]; rfl) (rt_one _) ?_))
        go_ret
        exact ⟨by rw [all_no hj'.out (by simp [rtOk, h1])]; rfl, hb1⟩
    · have hjn := Lib.hid (show j = rs.length by have := HN.out; omega)
      go_wp2
      go_ret
      refine ⟨?_, hbw⟩
      rw [hjn.out, List.take_length] at hall
      rw [hall]; rfl
set_option maxHeartbeats 1600000 in
set_option maxRecDepth 100000 in
theorem nvalid_f (f : Int) (A : Option Addr) (n c : Nat) (rs : List Rt) (w : World) (h : Routes w w.heap.size A n rs) (hn : n ≤ 1000000000) :
    Calls Tryd.prog 101 #[.int .i64 f, .bool false, .slice A n c] w fun e w' => e = .returned (.bool (rs.all (rtOk f false))) ∧ Below w.heap.size w w' := by
  have hz19 : #[.int .u32 0, .int .i64 0, .int .i64 0, .int .u8 0, .int .u8 0, .int .u8 0, .int .u8 0, .int .u8 0, .int .u8 0, .int .u8 0, .int .u8 0, .int .u8 0, .int .u8 0, .int .u8 0, .int .u8 0, .int .u8 0, .int .u8 0, .int .u8 0, .int .u8 0] = rt rt0 := rt_zero.symm
  have HN := Lib.hid h.1
  go_enter Tryd.func101, Tryd.ntmps101
  go_wp2_with fail
  go_loopw [11] (fun i wr => (∃ j : Nat, j ≤ n ∧ i = .int .i64 j ∧ (rs.take j).all (rtOk f false) = true) ∧ Below w.heap.size w wr) (fun i _ => n - (intOf i).toNat)
  case atStart => exact ⟨⟨0, Nat.zero_le _, rfl, by simp⟩, bl_refl w⟩
  case round =>
    obtain ⟨⟨j, hj, rfl, hall⟩, hbw⟩ := hrel
    by_cases hlt : j < n
    · obtain ⟨b, o, rfl, hbB, hok, hrg⟩ := (h.below hbw).at_ hlt
      have hrl := hok.1.1
      have hi19 := Lib.hid (rt_infol hrl)
      have hi18 := Lib.hid (pfx_infol (f := (nthR rs j).f) (l := (nthR rs j).l) hrl)
      have hi20 := Lib.hid (rt_info hrl)
      have hj' := Lib.hid (show j < rs.length by have := HN.out; omega)
      have ho' := (Own.new wr 119 (rt rt0))
      have ho := ho'.setRow (cs' := rt (nthR rs j))
      have hb1 := bl_setRow (cs := rt (nthR rs j)) (bl_alloc hbw (.cells (rt rt0) 119)) hbw.size
      have hc0 := ho.cell (rt_0 _)
      have hc1 := ho.cell (rt_1 _)
      have hpx := ho.pfxAt
      by_cases h1 : (nthR rs j).f = f
      · go_wp2_with (first | (refine wpList_load_mid rfl 119 _ rfl b (o + j * 19) rfl (rt (nthR rs j)).toList (.struct (Tryd.prog.fieldsOf 119)) hrg rt_desc rfl hi19.out ?_) | (refine wpList_store_row rfl 119 _ _ rfl wr.heap.size (rt (nthR rs j)) rfl rfl 119 (rt rt0) ho' hi20.out (by rw [rt_size hrl]; rfl) (rt_one _) ?_) | (refine wpList_load_on rfl 41 _ rfl wr.heap.size 1 rfl (pfx (nthR rs j).f (nthR rs j).l (nthR rs j).a).toList (.struct (Tryd.prog.fieldsOf 41)) hpx pfx_desc rfl hi18.out ?_))
        refine (pvalid_any _ (nthR rs j).l (nthR rs j).a _ hok.1).mono ?_
        rintro e w2 ⟨rfl, hb2⟩
        have ho2 := ho.step hb2
        have hb3 := bl_trans hb1 hb2
        have hc02 := ho2.cell (rt_0 _)
        go_wp2_with fail
        all_goals first
          | (go_ret; exact ⟨by rw [all_no hj'.out (by simp_all [rtOk])]; rfl, hb3⟩)
          | (go_roundw
             case rel => exact ⟨⟨j + 1, by omega, by go_num, all_step hj'.out hall (by simp_all [rtOk])⟩, hb3⟩
             case measure => simp [intOf]; omega)
      · go_wp2_with (first | (refine wpList_load_mid rfl 119 _ rfl b (o + j * 19) rfl (rt (nthR rs j)).toList (.struct (Tryd.prog.fieldsOf 119)) hrg rt_desc rfl hi19.out ?_) | (refine wpList_store_row rfl 119 _ _ rfl wr.heap.size (rt (nthR rs j)) rfl rfl 119 (rt rt0) ho' hi20.out (by rw [rt_size hrl]; rfl) (rt_one _) ?_))
        go_ret
        exact ⟨by rw [all_no hj'.out (by simp [rtOk, h1])]; rfl, hb1⟩
    · have hjn := Lib.hid (show j = rs.length by have := HN.out; omega)
      go_wp2
      go_ret
      refine ⟨?_, hbw⟩
      rw [hjn.out, List.take_length] at hall
      rw [hall]; rfl
set_option maxRecDepth 100000 in
theorem nvalid_any (f : Int) (add : Bool) (A : Option Addr) (n c : Nat) (rs : List Rt) (w : World) (h : Routes w w.heap.size A n rs) (hn : n ≤ 1000000000) :
    Calls Tryd.prog 101 #[.int .i64 f, .bool add, .slice A n c] w fun e w' => e = .returned (.bool (rs.all (rtOk f add))) ∧ Below w.heap.size w w' := by
  cases add
  · exact nvalid_f f A n c rs w h hn
  · exact nvalid_t f A n c rs w h hn
end Go.Proofs.YtecbbjdcnlocdaaDoor

/- nlri.Bytes -/
namespace Go.Proofs.YtecbbjdcnlocdaaDoor
open Go.RowKit

set_option maxRecDepth 100000 in
theorem sl_slices : SliceOf Tryd.prog 63 25 1 24 := SliceOf.mk Tryd.underlying63 (z := .slice none 0 0) (by kernel_rfl) rfl (by decide)
theorem own_below {w w' : World} {base : Nat} {e : TypeId} {size n : Nat} {v : Value} {xs : List Value} (h : w.ownsRow base e size v n xs) (hb : Below w.heap.size w w') : w'.ownsRow base e size v n xs :=
  h.kept (row := none) ⟨hb.os, hb.tape, hb.output, hb.size, fun k hk _ => hb.block k hk⟩ (by cases hv : v.ownBlock <;> simp)

/-- A part whose bytes are a block of their own. -/
def PT (w : World) (p : Part) : Prop := p.n = p.xs.length ∧ (∀ x ∈ p.xs, 0 ≤ x ∧ x ≤ 255) ∧ ∃ g, p.a = some ⟨g, 0, none⟩ ∧ Own w g 5 (p.xs.map (Value.int .u8)).toArray
theorem PT.ok {w : World} {p : Part} (h : PT w p) : p.ok w w.heap.size := by
  obtain ⟨hn, hr, g, ha, ho⟩ := h
  unfold Part.ok
  rw [hn, ha]
  exact Bytes.of_owned ho hr ho.lt
theorem PT.step {w w' : World} {p : Part} (h : PT w p) (hb : Below w.heap.size w w') : PT w' p := by
  obtain ⟨hn, hr, g, ha, ho⟩ := h
  exact ⟨hn, hr, g, ha, ho.step hb⟩
theorem PT.grown {w w' : World} {p : Part} {base n : Nat} {v : Value} {xs : List Value} (h : PT w p) (hown : w.ownsRow base 25 1 v n xs) (hg : w.grownBy w' v.ownBlock) : PT w' p := by
  obtain ⟨hn, hr, g, ha, ho⟩ := h
  exact ⟨hn, hr, g, ha, ho.grown hg (fun e => own_blk hown ho (by decide) e.symm)⟩
theorem pt_parts {w : World} {base : Nat} {v : Value} {ps : List Part} (hown : w.ownsRow base 25 1 v ps.length (ps.map Part.v)) (hp : ∀ p ∈ ps, PT w p) :
    ∃ A c, v = .slice A ps.length c ∧ Parts w w.heap.size A ps.length ps := by
  obtain ⟨A, c, rfl, _, hs⟩ := own_val hown
  exact ⟨A, c, rfl, rfl, fun p h => (hp p h).ok, hs⟩
/-- What is so before an append of one more part: the parts so far. -/
def Pile (W w : World) (v : Value) (ps : List Part) : Prop := w.ownsRow W.heap.size 25 1 v ps.length (ps.map Part.v) ∧ (∀ p ∈ ps, PT w p) ∧ Below W.heap.size W w
theorem Pile.step {W w w' : World} {v : Value} {ps : List Part} (h : Pile W w v ps) (hb : Below w.heap.size w w') : Pile W w' v ps :=
  ⟨own_below h.1 hb, fun p hp => (h.2.1 p hp).step hb, bl_trans h.2.2 hb⟩
theorem Pile.more {W w w' : World} {v v' : Value} {ps : List Part} {q : Part} (h : Pile W w v ps) (hq : PT w q) {o : Obj} (hown : w'.ownsRow W.heap.size 25 1 v' (ps.length + 1) (ps.map Part.v ++ [q.v])) (hg : (w.alloc o).grownBy w' v.ownBlock) : Pile W w' v' (ps ++ [q]) := by
  have ha : Below w.heap.size w (w.alloc o) := bl_alloc (bl_refl w) o
  have h1 := h.step ha
  refine ⟨by simpa using hown, ?_, ?_⟩
  · intro p hp
    rcases List.mem_append.1 hp with hp | hp
    · exact (h1.2.1 p hp).grown h1.1 hg
    · rw [List.mem_singleton] at hp
      subst hp
      exact (hq.step ha).grown h1.1 hg
  · exact h1.2.2.grown hg h1.2.2.size (own_base h1.1)
theorem Pile.own {W w w' : World} {v : Value} {ps : List Part} {g : Nat} {t : TypeId} {cs : Array Value} (h : Pile W w v ps) (ho : Own w g t cs) (hne : 25 ≠ t) {o : Obj} (hg : (w.alloc o).grownBy w' v.ownBlock) : Own w' g t cs :=
  (ho.alloc o).grown hg (fun e => own_blk (h.step (bl_alloc (bl_refl w) o)).1 (ho.alloc o) hne e.symm)
theorem Routes.step {w w' : World} {W : World} {A : Option Addr} {n : Nat} {rs : List Rt} (h : Routes W W.heap.size A n rs) (_ : Below W.heap.size W w) (hb : Below W.heap.size W w') : Routes w' W.heap.size A n rs := h.below hb

/-- The form of a route. -/
def rtForm (add : Bool) (r : Rt) : List Int := (if add then digitsOf 4 r.p else []) ++ pfxForm r.l r.a
def formAll (add : Bool) (rs : List Rt) : List Int := rs.flatMap (rtForm add)
theorem formAll_take {add : Bool} {rs : List Rt} {j : Nat} (h : j < rs.length) : formAll add (rs.take (j + 1)) = formAll add (rs.take j) ++ rtForm add (nthR rs j) := by
  unfold formAll
  rw [take_nthR h, List.flatMap_append]; simp
theorem rtForm_len {add : Bool} {r : Rt} {f : Int} (h : pfxOk f r.l r.a = true) : (rtForm add r).length ≤ 21 := by
  have := pfxOk_range h
  unfold rtForm pfxForm
  have h4 := digitsOf_len 4 r.p
  have h5 : (sizeOfBits r.l).toNat ≤ 16 := by unfold sizeOfBits; omega
  cases add <;> simp [h4] <;> omega
theorem formAll_len {add : Bool} {f : Int} {rs : List Rt} (h : rs.all (rtOk f add) = true) : (formAll add rs).length ≤ 21 * rs.length := by
  induction rs with
  | nil => simp [formAll]
  | cons r rs ih =>
    rw [List.all_cons, Bool.and_eq_true] at h
    have h1 := ih h.2
    have h2 : (rtForm add r).length ≤ 21 := rtForm_len (f := r.f) (by have := h.1; simp only [rtOk, Bool.and_eq_true] at this; exact this.1.2)
    unfold formAll at *
    rw [List.flatMap_cons, List.length_append, List.length_cons]
    omega

set_option maxHeartbeats 400000 in
set_option maxRecDepth 100000 in
theorem nbytes_no (f : Int) (add : Bool) (A : Option Addr) (n c : Nat) (rs : List Rt) (w : World) (h : Routes w w.heap.size A n rs) (hn : n ≤ 1000000000) (hk : rs.all (rtOk f add) = false) :
    Calls Tryd.prog 97 #[.int .i64 f, .bool add, .slice A n c] w fun e w' => e = .returned (.tuple #[.slice none 0 0, .bool false]) ∧ Below w.heap.size w w' := by
  go_enter Tryd.func97, Tryd.ntmps97
  go_wp2_with fail
  refine (nvalid_any f add _ _ _ rs _ h hn).mono ?_
  rw [hk]
  rintro e w1 ⟨rfl, hb⟩
  go_wp2
  go_ret2
  exact ⟨rfl, hb⟩

set_option maxHeartbeats 3200000 in
set_option maxRecDepth 100000 in
theorem nbytes_false (f : Int) (A : Option Addr) (n c : Nat) (rs : List Rt) (w : World) (h : Routes w w.heap.size A n rs) (hn : n ≤ 1000000) (hk : rs.all (rtOk f false) = true) :
    Calls Tryd.prog 97 #[.int .i64 f, .bool false, .slice A n c] w fun e w' => ∃ g, e = .returned (.tuple #[.slice (some ⟨g, 0, none⟩) (formAll false rs).length (formAll false rs).length, .bool true]) ∧ w.heap.size ≤ g ∧ Own w' g 5 ((formAll false rs).map (Value.int .u8)).toArray ∧ Below w.heap.size w w' := by
  have hz19 : #[.int .u32 0, .int .i64 0, .int .i64 0, .int .u8 0, .int .u8 0, .int .u8 0, .int .u8 0, .int .u8 0, .int .u8 0, .int .u8 0, .int .u8 0, .int .u8 0, .int .u8 0, .int .u8 0, .int .u8 0, .int .u8 0, .int .u8 0, .int .u8 0, .int .u8 0] = rt rt0 := rt_zero.symm
  have HN := Lib.hid h.1
  have HF := Lib.hid (formAll_len hk)
  have HK := Lib.hid hk
  clear hk
  go_enter Tryd.func97, Tryd.ntmps97
  go_wp2_with fail
  refine (nvalid_any f false _ _ _ rs _ h (by omega)).mono ?_
  rw [HK.out]
  rintro e w1 ⟨rfl, hb0⟩
  go_wp2_with fail
  go_loopw [8, 22] (fun v i wr => ∃ (j : Nat) (ps : List Part), j ≤ n ∧ i = .int .i64 j ∧ Pile w wr v ps ∧ flat ps = formAll false (rs.take j) ∧ ps.length ≤ 2 * j) (fun _ i _ => n - (intOf i).toNat)
  case atStart => exact ⟨0, [], Nat.zero_le _, rfl, ⟨World.ownsRow_nil _ _ _ _, by simp, hb0⟩, by simp [flat, formAll], Nat.zero_le _⟩
  case round =>
    obtain ⟨j, ps, hj, rfl, hpile, hflat, hpl⟩ := hrel
    by_cases hlt : j < n
    · obtain ⟨b, o, rfl, hbB, hok, hrg⟩ := (h.below hpile.2.2).at_ hlt
      have hrl := hok.1.1
      have hp0 := hok.2.1
      have hp1 := hok.2.2
      have hjl := Lib.hid (show j < rs.length by have := HN.out; omega)
      have hro := Lib.hid (show rtOk f false (nthR rs j) = true from List.all_eq_true.1 HK.out _ (nthR_mem hjl.out))
      have hpk := Lib.hid (show pfxOk (nthR rs j).f (nthR rs j).l (nthR rs j).a = true by have := hro.out; simp only [rtOk, Bool.and_eq_true] at this; exact this.1.2)
      have hi19 := Lib.hid (rt_infol hrl)
      have hi18 := Lib.hid (pfx_infol (f := (nthR rs j).f) (l := (nthR rs j).l) hrl)
      have hi20 := Lib.hid (rt_info hrl)
      have ho' := (Own.new wr 119 (rt rt0))
      have ho := ho'.setRow (cs' := rt (nthR rs j))
      have hb1 : Below wr.heap.size wr _ := bl_setRow (cs := rt (nthR rs j)) (bl_alloc (bl_refl wr) (.cells (rt rt0) 119)) (Nat.le_refl _)
      have hpile1 := hpile.step hb1
      have hc0 := ho.cell (rt_0 _)
      have HFl := Lib.hid hflat
      clear hflat hpile hb1
      go_wp2_with (first | (refine wpList_load_mid rfl 119 _ rfl b (o + j * 19) rfl (rt (nthR rs j)).toList (.struct (Tryd.prog.fieldsOf 119)) hrg rt_desc rfl hi19.out ?_) | (refine wpList_store_row rfl 119 _ _ rfl wr.heap.size (rt (nthR rs j)) rfl rfl 119 (rt rt0) ho' hi20.out (by rw [rt_size hrl]; rfl) (rt_one _) ?_) | (refine wpList_load_mid rfl 41 _ rfl wr.heap.size 1 rfl (pfx (nthR rs j).f (nthR rs j).l (nthR rs j).a).toList (.struct (Tryd.prog.fieldsOf 41)) ho.pfxAt pfx_desc rfl hi18.out ?_))
      refine (pbytes_own _ _ _ _ hok.1 hpk.out).mono ?_
      rintro e w4 ⟨g4, rfl, hg4, ho4, hb4⟩
      have hpile4 := hpile1.step hb4
      have hrng := pfxOk_range hpk.out
      have hq4 : PT w4 ⟨some ⟨g4, 0, none⟩, (pfxForm (nthR rs j).l (nthR rs j).a).length, (pfxForm (nthR rs j).l (nthR rs j).a).length, pfxForm (nthR rs j).l (nthR rs j).a⟩ := ⟨rfl, pfxForm_range hok.1 hrng.1 hrng.2, g4, rfl, ho4⟩
      go_wp2_with (at_builtin; refine wpList_append_grow _ rfl _ _ rfl sl_slices w.heap.size _ _ _ rfl (hpile4.1.alloc _) (w4.heap.size + 1) (some ⟨w4.heap.size, 0, none⟩) 1 1 [_] rfl rfl (Shows.of_owned (Own.new _ _ _) (by simp)) (one1 rfl) (by unfold maxLen; omega) (by omega) (by have := hpile4.2.2.size; simp; omega) ?_; intro v5 w5 hown_w5 hgrow_w5)
      have hpile5 := hpile4.more hq4 hown_w5 hgrow_w5
      go_roundw
      case rel =>
        refine ⟨j + 1, _, by omega, by go_num, hpile5, ?_, by simp; omega⟩
        rw [formAll_take hjl.out, ← HFl.out]
        simp [flat, rtForm]
      case measure => simp [intOf]; omega
    · have hjn := Lib.hid (show j = rs.length by have := HN.out; omega)
      obtain ⟨A2, c2, rfl, hP⟩ := pt_parts hpile.1 hpile.2.1
      have hfl := Lib.hid (show flat ps = formAll false rs by rw [hflat, hjn.out, List.take_length])
      go_wp2_with fail
      refine (cat_own hP (by omega) (by rw [hfl.out]; have := HF.out; have := HN.out; omega)).mono ?_
      rw [hfl.out]
      rintro e w2 ⟨rfl, ho2, hb2⟩
      go_wp2
      go_ret2
      exact ⟨_, rfl, hpile.2.2.size, ho2, bl_trans hpile.2.2 hb2⟩

set_option maxHeartbeats 3200000 in
set_option maxRecDepth 100000 in
theorem nbytes_true (f : Int) (A : Option Addr) (n c : Nat) (rs : List Rt) (w : World) (h : Routes w w.heap.size A n rs) (hn : n ≤ 1000000) (hk : rs.all (rtOk f true) = true) :
    Calls Tryd.prog 97 #[.int .i64 f, .bool true, .slice A n c] w fun e w' => ∃ g, e = .returned (.tuple #[.slice (some ⟨g, 0, none⟩) (formAll true rs).length (formAll true rs).length, .bool true]) ∧ w.heap.size ≤ g ∧ Own w' g 5 ((formAll true rs).map (Value.int .u8)).toArray ∧ Below w.heap.size w w' := by
  have hz19 : #[.int .u32 0, .int .i64 0, .int .i64 0, .int .u8 0, .int .u8 0, .int .u8 0, .int .u8 0, .int .u8 0, .int .u8 0, .int .u8 0, .int .u8 0, .int .u8 0, .int .u8 0, .int .u8 0, .int .u8 0, .int .u8 0, .int .u8 0, .int .u8 0, .int .u8 0] = rt rt0 := rt_zero.symm
  have HN := Lib.hid h.1
  have HF := Lib.hid (formAll_len hk)
  have HK := Lib.hid hk
  clear hk
  go_enter Tryd.func97, Tryd.ntmps97
  go_wp2_with fail
  refine (nvalid_any f true _ _ _ rs _ h (by omega)).mono ?_
  rw [HK.out]
  rintro e w1 ⟨rfl, hb0⟩
  go_wp2_with fail
  go_loopw [8, 22] (fun v i wr => ∃ (j : Nat) (ps : List Part), j ≤ n ∧ i = .int .i64 j ∧ Pile w wr v ps ∧ flat ps = formAll true (rs.take j) ∧ ps.length ≤ 2 * j) (fun _ i _ => n - (intOf i).toNat)
  case atStart => exact ⟨0, [], Nat.zero_le _, rfl, ⟨World.ownsRow_nil _ _ _ _, by simp, hb0⟩, by simp [flat, formAll], Nat.zero_le _⟩
  case round =>
    obtain ⟨j, ps, hj, rfl, hpile, hflat, hpl⟩ := hrel
    by_cases hlt : j < n
    · obtain ⟨b, o, rfl, hbB, hok, hrg⟩ := (h.below hpile.2.2).at_ hlt
      have hrl := hok.1.1
      have hp0 := hok.2.1
      have hp1 := hok.2.2
      have hjl := Lib.hid (show j < rs.length by have := HN.out; omega)
      have hro := Lib.hid (show rtOk f true (nthR rs j) = true from List.all_eq_true.1 HK.out _ (nthR_mem hjl.out))
      have hpk := Lib.hid (show pfxOk (nthR rs j).f (nthR rs j).l (nthR rs j).a = true by have := hro.out; simp only [rtOk, Bool.and_eq_true] at this; exact this.1.2)
      have hi19 := Lib.hid (rt_infol hrl)
      have hi18 := Lib.hid (pfx_infol (f := (nthR rs j).f) (l := (nthR rs j).l) hrl)
      have hi20 := Lib.hid (rt_info hrl)
      have ho' := (Own.new wr 119 (rt rt0))
      have ho := ho'.setRow (cs' := rt (nthR rs j))
      have hb1 : Below wr.heap.size wr _ := bl_setRow (cs := rt (nthR rs j)) (bl_alloc (bl_refl wr) (.cells (rt rt0) 119)) (Nat.le_refl _)
      have hpile1 := hpile.step hb1
      have hc0 := ho.cell (rt_0 _)
      have HFl := Lib.hid hflat
      clear hflat hpile hb1
      go_wp2_with (first | (refine wpList_load_mid rfl 119 _ rfl b (o + j * 19) rfl (rt (nthR rs j)).toList (.struct (Tryd.prog.fieldsOf 119)) hrg rt_desc rfl hi19.out ?_) | (refine wpList_store_row rfl 119 _ _ rfl wr.heap.size (rt (nthR rs j)) rfl rfl 119 (rt rt0) ho' hi20.out (by rw [rt_size hrl]; rfl) (rt_one _) ?_))
      refine (put_yes 4 _ _ (by omega) (by omega) hp0 (by show (nthR rs j).p < 4294967296; omega)).mono ?_
      rintro e w2 ⟨rfl, ho2, hb2⟩
      have hpile2 := hpile1.step hb2
      have hor2 := ho.step hb2
      have hsz : ((wr.alloc (.cells (rt rt0) 119)).setRow wr.heap.size (rt (nthR rs j))).heap.size = wr.heap.size + 1 := by simp
      rw [hsz] at ho2
      clear hsz
      have hq2 : PT w2 ⟨some ⟨wr.heap.size + 1, 0, none⟩, 4, 4, digitsOf 4 (nthR rs j).p⟩ := ⟨(digitsOf_len 4 _).symm, digitsOf_range 4 _, _, rfl, ho2⟩
      clear hpile1 ho hb2
      go_wp2_with (first | (at_builtin; refine wpList_append_grow _ rfl _ _ rfl sl_slices w.heap.size _ _ _ rfl (hpile2.1.alloc _) (w2.heap.size + 1) (some ⟨w2.heap.size, 0, none⟩) 1 1 [_] rfl rfl (Shows.of_owned (Own.new _ _ _) (by simp)) (one1 rfl) (by unfold maxLen; omega) (by omega) (by have := hpile2.2.2.size; simp; omega) ?_; intro v3 w3 hown_w3 hgrow_w3; have hpx := (hpile2.own hor2 (by decide) hgrow_w3).pfxAt) | (refine wpList_load_mid rfl 41 _ rfl wr.heap.size 1 rfl (pfx (nthR rs j).f (nthR rs j).l (nthR rs j).a).toList (.struct (Tryd.prog.fieldsOf 41)) hpx pfx_desc rfl hi18.out ?_))
      have hpile3 := hpile2.more hq2 hown_w3 hgrow_w3
      clear hpile2 hown_w3 hgrow_w3
      refine (pbytes_own _ _ _ _ hok.1 hpk.out).mono ?_
      rintro e w4 ⟨g4, rfl, hg4, ho4, hb4⟩
      have hpile4 := hpile3.step hb4
      have hrng := pfxOk_range hpk.out
      have hq4 : PT w4 ⟨some ⟨g4, 0, none⟩, (pfxForm (nthR rs j).l (nthR rs j).a).length, (pfxForm (nthR rs j).l (nthR rs j).a).length, pfxForm (nthR rs j).l (nthR rs j).a⟩ := ⟨rfl, pfxForm_range hok.1 hrng.1 hrng.2, g4, rfl, ho4⟩
      go_wp2_with (at_builtin; refine wpList_append_grow _ rfl _ _ rfl sl_slices w.heap.size _ _ _ rfl (hpile4.1.alloc _) (w4.heap.size + 1) (some ⟨w4.heap.size, 0, none⟩) 1 1 [_] rfl rfl (Shows.of_owned (Own.new _ _ _) (by simp)) (one1 rfl) (by rw [List.length_append, List.length_singleton]; unfold maxLen; omega) (by rw [List.length_append, List.length_singleton]; omega) (by have := hpile4.2.2.size; simp; omega) ?_; intro v5 w5 hown_w5 hgrow_w5)
      have hpile5 := hpile4.more hq4 hown_w5 hgrow_w5
      go_roundw
      case rel =>
        refine ⟨j + 1, _, by omega, by go_num, hpile5, ?_, by simp; omega⟩
        rw [formAll_take hjl.out, ← HFl.out]
        simp [flat, rtForm]
      case measure => simp [intOf]; omega
    · have hjn := Lib.hid (show j = rs.length by have := HN.out; omega)
      obtain ⟨A2, c2, rfl, hP⟩ := pt_parts hpile.1 hpile.2.1
      have hfl := Lib.hid (show flat ps = formAll true rs by rw [hflat, hjn.out, List.take_length])
      go_wp2_with fail
      refine (cat_own hP (by omega) (by rw [hfl.out]; have := HF.out; have := HN.out; omega)).mono ?_
      rw [hfl.out]
      rintro e w2 ⟨rfl, ho2, hb2⟩
      go_wp2
      go_ret2
      exact ⟨_, rfl, hpile.2.2.size, ho2, bl_trans hpile.2.2 hb2⟩

end Go.Proofs.YtecbbjdcnlocdaaDoor

/- An append as a step of a region that draws its order -/
namespace Go.Proofs.YtecbbjdcnlocdaaDoor
open Go.RowKit

theorem Own.row {w : World} {g base n : Nat} {t : TypeId} {cs : List Value} (h : Own w g t cs.toArray) (hn : cs.length = n) (hb : base ≤ g) (hm : n ≤ maxLen) : w.ownsRow base t 1 (.slice (some ⟨g, 0, none⟩) n n) n cs :=
  ⟨by omega, .inr ⟨g, n, cs.toArray, rfl, hb, h, Nat.le_refl _, hm, by simp [hn], by simp only [Nat.mul_one]; exact List.take_of_length_le (by omega)⟩⟩
theorem step_append_grow {P : Program} {ops : Array Oper} {o : Oper} {a : Act} {w : World} {K : Act → World → Prop} {Q : Exit → Act → World → Prop} {E : Prop}
    (hg : o.guard = none) (s x : Operand) {t e : TypeId} {size bytes : Nat} (hop : o.op = Op.call { callee := Callee.builtin Builtin.append, args := #[s, x], argTypes := #[t, t] }) (hS : SliceOf P t e size bytes)
    (base : Nat) (v : Value) (n : Nat) (xs : List Value) (hv : a.eval s = v) (hown : w.ownsRow base e size v n xs)
    (B : Nat) (A : Option Addr) (m c : Nat) (news : List Value) (hx : a.eval x = .slice A m c) (hn : news.length = m * size) (hs : Shows w B A news) (h1c : ∀ u ∈ news, u.oneCell' = true)
    (h63 : n + m ≤ maxLen) (hbytes : (n + m) * bytes ≤ 140737488355328) (hbase : base ≤ w.heap.size)
    (hK : ∀ v' w', w'.ownsRow base e size v' (n + m) (xs ++ news) → w.grownBy w' v.ownBlock → K (a.put o.dst v') w') :
    if Region.wanted o (yielded ops a.tmps) = true then Oper.wp P o a w K Q else E := by
  have hw : Region.wanted o (yielded ops a.tmps) = true := by simp [Region.wanted, hg]
  rw [if_pos hw]
  obtain ⟨v', w', hrun, r1, r2, _⟩ := run_append_grow (P := P) (ty := o.type) w hS v n xs hown B A m c news hn hs h1c h63 hbytes hbase
  unfold Oper.wp
  simp [execOp, hop, resolve, invoke, builtin, hv, hx, hrun, Result.andThen]
  exact hK _ _ r1 r2
theorem ne_own {b g o n k : Nat} {x : Option Nat} (h : b ≠ g) : some b ≠ Value.ownBlock (.slice (some ⟨g, o, x⟩) n k) := by
  intro e
  exact h (Option.some.inj e)
theorem one8 (xs : List Int) : ∀ u ∈ xs.map (Value.int .u8), u.oneCell' = true := by
  intro u hu
  obtain ⟨x, _, rfl⟩ := List.mem_map.1 hu
  rfl

theorem own_leG {w : World} {base b : Nat} {e : TypeId} {size n : Nat} {v : Value} {xs : List Value} (h : w.ownsRow base e size v n xs) (hb : b ≤ base) : w.ownsRow b e size v n xs := by
  refine ⟨h.1, ?_⟩
  rcases h.2 with h0 | ⟨g, cap, cur, h1, h2, h3⟩
  · exact .inl h0
  · exact .inr ⟨g, cap, cur, h1, Nat.le_trans hb h2, h3⟩
theorem own_belowG {w w' : World} {base : Nat} {e : TypeId} {size n : Nat} {v : Value} {xs : List Value} (h : w.ownsRow base e size v n xs) (hb : Below w.heap.size w w') : w'.ownsRow base e size v n xs :=
  h.kept (only_of_below hb none) (by cases hv : v.ownBlock <;> simp)
end Go.Proofs.YtecbbjdcnlocdaaDoor

/- append that tells where the row lies afterwards; what a call has left alone -/
namespace Go.Proofs.YtecbbjdcnlocdaaDoor
open Go.RowKit

/-- Only blocks of which P holds may have changed, and what is new. -/
structure Rest (w w' : World) (P : Nat → Prop) : Prop where
  os : w'.os = w.os
  tape : w'.tape = w.tape
  output : w'.output = w.output
  size : w.heap.size ≤ w'.heap.size
  block : ∀ i, i < w.heap.size → ¬ P i → w'.heap[i]? = w.heap[i]?
theorem Rest.refl (w : World) (P : Nat → Prop) : Rest w w P := ⟨rfl, rfl, rfl, Nat.le_refl _, fun _ _ _ => rfl⟩
theorem Rest.trans {a b c : World} {P Q : Nat → Prop} (h : Rest a b P) (k : Rest b c Q) (hq : ∀ i, i < a.heap.size → Q i → P i) : Rest a c P :=
  ⟨k.os.trans h.os, k.tape.trans h.tape, k.output.trans h.output, Nat.le_trans h.size k.size, fun i hi hn => (k.block i (Nat.lt_of_lt_of_le hi h.size) (fun q => hn (hq i hi q))).trans (h.block i hi hn)⟩
theorem Rest.mono {a b : World} {P Q : Nat → Prop} (h : Rest a b P) (hq : ∀ i, P i → Q i) : Rest a b Q := ⟨h.os, h.tape, h.output, h.size, fun i hi hn => h.block i hi (fun p => hn (hq i p))⟩
theorem Rest.of_below {a b : World} (h : Below a.heap.size a b) (P : Nat → Prop) : Rest a b P := ⟨h.os, h.tape, h.output, h.size, fun i hi _ => h.block i hi⟩
theorem Rest.below {a b c : World} {P : Nat → Prop} (h : Rest a b P) (k : Below b.heap.size b c) : Rest a c P := h.trans (Rest.of_below k (fun _ => False)) (fun _ _ f => f.elim)
theorem Rest.of_grown {a b : World} {row : Option Nat} {P : Nat → Prop} (h : a.grownBy b row) (hp : ∀ j, row = some j → P j) : Rest a b P :=
  ⟨h.os, h.tape, h.output, h.size, fun i hi hn => h.block i hi (fun e => hn (hp i e.symm))⟩
theorem Rest.setCell (w : World) (p : Addr) (u : Value) : Rest w (w.setCell p u) (fun i => i = p.block) :=
  ⟨rfl, rfl, rfl, by simp [World.setCell], fun i _ hn => Below.heap_setCell w p u i hn⟩
theorem Rest.to_below {a b : World} {P : Nat → Prop} (h : Rest a b P) {B : Nat} (hB : B ≤ a.heap.size) (hp : ∀ i, i < B → ¬ P i) : Below B a b :=
  ⟨h.os, h.tape, h.output, h.size, fun i hi => h.block i (Nat.lt_of_lt_of_le hi hB) (hp i hi)⟩
theorem Rest.own {a b : World} {P : Nat → Prop} (h : Rest a b P) {g : Nat} {t : TypeId} {cs : Array Value} (o : Own a g t cs) (hp : ¬ P g) : Own b g t cs := (h.block g o.lt hp).trans o
theorem Bytes.rest {w w' : World} {P : Nat → Prop} (h : Rest w w' P) {B n : Nat} {A : Option Addr} {xs : List Int} (hx : Bytes w B A n xs) (hB : B ≤ w.heap.size) (hp : ∀ a, A = some a → ¬ P a.block) : Bytes w' B A n xs := by
  refine ⟨hx.1, hx.2.1, ?_⟩
  rcases hx.2.2 with h0 | ⟨b, o, hA, hb, hc⟩
  · exact .inl h0
  · exact .inr ⟨b, o, hA, hb, fun i v hv => (World.cell?_of_block (a := ⟨b, o + i, none⟩) (h.block b (by omega) (hp _ hA))).trans (hc i v hv)⟩
/-- Block j holds cells of type t. -/
def Typed (w : World) (j : Nat) (t : TypeId) : Prop := ∃ cs, w.heap[j]? = some (.cells cs t (0, 0))
theorem Typed.lt {w : World} {j : Nat} {t : TypeId} (h : Typed w j t) : j < w.heap.size := by
  obtain ⟨cs, h⟩ := h
  exact (Array.getElem?_eq_some_iff.1 h).1
theorem Typed.ne {w : World} {j k : Nat} {t u : TypeId} (h : Typed w j t) (h' : Typed w k u) (hn : t ≠ u) : j ≠ k := by
  rintro rfl
  obtain ⟨cs, h⟩ := h
  obtain ⟨cs', h'⟩ := h'
  rw [h] at h'
  injection h' with h'
  injection h' with _ h' _
  exact hn h'
theorem Own.typed {w : World} {g : Nat} {t : TypeId} {cs : Array Value} (h : Own w g t cs) : Typed w g t := ⟨cs, h⟩
theorem row_typed {w : World} {base : Nat} {e : TypeId} {size n : Nat} {v : Value} {xs : List Value} (h : w.ownsRow base e size v n xs) {j : Nat} (hj : v.ownBlock = some j) : Typed w j e ∧ base ≤ j := by
  rcases h.2 with ⟨rfl, _⟩ | ⟨g, cap, cur, rfl, hb, hg, _⟩
  · cases hj
  · cases hj
    exact ⟨⟨cur, hg⟩, hb⟩
theorem own_form {w : World} {base : Nat} {e : TypeId} {size n : Nat} {v : Value} {xs : List Value} (h : w.ownsRow base e size v n xs) : ∃ A c, v = .slice A n c := by
  rcases h.2 with ⟨rfl, rfl⟩ | ⟨g, cap, cur, rfl, _⟩
  · exact ⟨none, 0, rfl⟩
  · exact ⟨_, cap, rfl⟩
theorem Typed.rest {w w' : World} {P : Nat → Prop} {j : Nat} {t : TypeId} (h : Typed w j t) (k : Rest w w' P) (hp : ¬ P j) : Typed w' j t := by
  obtain ⟨cs, hc⟩ := h
  exact ⟨cs, (k.block j (Typed.lt ⟨cs, hc⟩) hp).trans hc⟩
theorem Typed.below {w w' : World} {j : Nat} {t : TypeId} (h : Typed w j t) (k : Below w.heap.size w w') : Typed w' j t := h.rest (Rest.of_below k (fun _ => False)) (fun f => f)
theorem row_rest {w w' : World} {P : Nat → Prop} {base : Nat} {e : TypeId} {size n : Nat} {v : Value} {xs : List Value} (h : w.ownsRow base e size v n xs) (k : Rest w w' P) (hp : ∀ j, v.ownBlock = some j → ¬ P j) : w'.ownsRow base e size v n xs := by
  refine ⟨h.1, ?_⟩
  rcases h.2 with h0 | ⟨g, cap, cur, rfl, hb, hg, h3⟩
  · exact .inl h0
  · exact .inr ⟨g, cap, cur, rfl, hb, (k.block g (Array.getElem?_eq_some_iff.1 hg).1 (hp g rfl)).trans hg, h3⟩
section
variable {P : Program} (w : World)
theorem run_append_at {base : Nat} {t ty e : TypeId} {size bytes : Nat} (hS : SliceOf P t e size bytes) (v : Value) (n : Nat) (xs : List Value) (hown : w.ownsRow base e size v n xs)
    (B : Nat) (A : Option Addr) (m c : Nat) (news : List Value) (hn : news.length = m * size) (hs : Shows w B A news) (h1c : ∀ u ∈ news, u.oneCell' = true)
    (h63 : n + m ≤ maxLen) (hbytes : (n + m) * bytes ≤ 140737488355328) (hbase : base ≤ w.heap.size) :
    ∃ v' w', (Builtin.append_ #[t, t] ty #[v, .slice A m c]).run P w = .ok v' w' ∧ w'.ownsRow base e size v' (n + m) (xs ++ news) ∧ w.grownBy w' v.ownBlock ∧ (v'.ownBlock = v.ownBlock ∨ v'.ownBlock = some w.heap.size) := by
  have hS0 := hS
  obtain ⟨ht, h0, i, z, hi, hz, hsz, hby, hzs⟩ := hS
  rcases A with _ | ad
  · obtain rfl := hs.none_
    obtain rfl : m = 0 := by
      rcases Nat.eq_zero_or_pos m with h | h
      · exact h
      · have := Nat.mul_pos h h0
        simp at hn
        omega
    exact ⟨v, w, run_append_of_none w hS0 v n xs hown c, by simpa using hown, World.grownBy.refl _ _, .inl rfl⟩
  · obtain ⟨v', w', h1, h2, h3, _, h5⟩ := run_append_own_at (P := P) w base t ty e i z size bytes ht hi hz hsz hby hzs h0 v n xs hown ad m c news hn hs.add h1c h63 hbytes hbase
    exact ⟨v', w', h1, h2, h3, h5⟩
variable {ops : Array Oper} {rest : List Oper} {o : Oper} {a : Act} {Q : Exit → Act → World → Prop}
theorem wpList_append_at (hg : o.guard = none) (s x : Operand) {t e : TypeId} {size bytes : Nat} (hop : o.op = Op.call { callee := Callee.builtin Builtin.append, args := #[s, x], argTypes := #[t, t] }) (hS : SliceOf P t e size bytes)
    (base : Nat) (v : Value) (n : Nat) (xs : List Value) (hv : a.eval s = v) (hown : w.ownsRow base e size v n xs)
    (B : Nat) (A : Option Addr) (m c : Nat) (news : List Value) (hx : a.eval x = .slice A m c) (hn : news.length = m * size) (hs : Shows w B A news) (h1c : ∀ u ∈ news, u.oneCell' = true)
    (h63 : n + m ≤ maxLen) (hbytes : (n + m) * bytes ≤ 140737488355328) (hbase : base ≤ w.heap.size)
    (hK : ∀ v' w', w'.ownsRow base e size v' (n + m) (xs ++ news) → w.grownBy w' v.ownBlock → (v'.ownBlock = v.ownBlock ∨ v'.ownBlock = some w.heap.size) → wpList P ops Q rest (a.put o.dst v') w') :
    wpList P ops Q (o :: rest) a w := by
  refine wpList_plain hg fun K hK' => ?_
  obtain ⟨v', w', hrun, r1, r2, r3⟩ := run_append_at (P := P) (ty := o.type) w hS v n xs hown B A m c news hn hs h1c h63 hbytes hbase
  unfold Oper.wp
  simp [execOp, hop, resolve, invoke, builtin, hv, hx, hrun, Result.andThen]
  exact hK' _ _ (hK v' w' r1 r2 r3)
theorem step_append_at {K : Act → World → Prop} {E : Prop}
    (hg : o.guard = none) (s x : Operand) {t e : TypeId} {size bytes : Nat} (hop : o.op = Op.call { callee := Callee.builtin Builtin.append, args := #[s, x], argTypes := #[t, t] }) (hS : SliceOf P t e size bytes)
    (base : Nat) (v : Value) (n : Nat) (xs : List Value) (hv : a.eval s = v) (hown : w.ownsRow base e size v n xs)
    (B : Nat) (A : Option Addr) (m c : Nat) (news : List Value) (hx : a.eval x = .slice A m c) (hn : news.length = m * size) (hs : Shows w B A news) (h1c : ∀ u ∈ news, u.oneCell' = true)
    (h63 : n + m ≤ maxLen) (hbytes : (n + m) * bytes ≤ 140737488355328) (hbase : base ≤ w.heap.size)
    (hK : ∀ v' w', w'.ownsRow base e size v' (n + m) (xs ++ news) → w.grownBy w' v.ownBlock → (v'.ownBlock = v.ownBlock ∨ v'.ownBlock = some w.heap.size) → K (a.put o.dst v') w') :
    if Region.wanted o (yielded ops a.tmps) = true then Oper.wp P o a w K Q else E := by
  have hw : Region.wanted o (yielded ops a.tmps) = true := by simp [Region.wanted, hg]
  rw [if_pos hw]
  obtain ⟨v', w', hrun, r1, r2, r3⟩ := run_append_at (P := P) (ty := o.type) w hS v n xs hown B A m c news hn hs h1c h63 hbytes hbase
  unfold Oper.wp
  simp [execOp, hop, resolve, invoke, builtin, hv, hx, hrun, Result.andThen]
  exact hK _ _ r1 r2 r3
end
end Go.Proofs.YtecbbjdcnlocdaaDoor

/- mp.Routes, peerageref12.Routes -/
namespace Go.Proofs.YtecbbjdcnlocdaaDoor
open Go.RowKit Go.Sort
/-- The text of a route. -/
def rtxt (r : Rt) : ByteArray := if pfxOk r.f r.l r.a = true ∧ r.p ≠ 0 then ptxtO r.f r.l r.a ++ (⟨#[35]⟩ ++ decB r.p) else ptxtO r.f r.l r.a
def rtxts (rs : List Rt) : ByteArray := joinB (rs.map rtxt) [32]
theorem ptxtO_size {f l : Int} {a : List Int} (ha : IsAddr a) : (ptxtO f l a).size ≤ 1000 := by
  unfold ptxtO
  split
  · rename_i hk
    have h1 := w10_size ha (k := 4) (by omega)
    have h2 := w16_size ha (k := 8) (by omega)
    have h3 := decB_size (n := l) (by have := (pfxOk_range hk).2; omega)
    unfold ptxt ptext4 ptext6
    split
    · rw [ByteArray.size_append, ByteArray.size_append]
      show _ + 1 + _ ≤ _
      omega
    · rw [ByteArray.size_append, ByteArray.size_append]
      show _ + 1 + _ ≤ _
      omega
  · exact Nat.zero_le _
theorem ptxt_ne {f l : Int} {a : List Int} : (ptxt f l a).toList.isEmpty = false := by
  have key : ∀ (J D : ByteArray), (J ++ ⟨#[47]⟩ ++ D).toList.isEmpty = false := fun J D => by
    rw [ByteArray.toList_eq]
    simp
  unfold ptxt ptext4 ptext6
  split
  · exact key _ _
  · exact key _ _
theorem rtxt_size {r : Rt} (h : r.Ok) : (rtxt r).size ≤ 1100 := by
  have h1 := ptxtO_size (f := r.f) (l := r.l) h.1
  have h2 := decB_size (n := r.p) (by have := h.2.2; omega)
  unfold rtxt
  split
  · rw [ByteArray.size_append, ByteArray.size_append]
    show _ + (1 + _) ≤ _
    omega
  · omega
theorem rtxts_take {rs : List Rt} {k : Nat} (h : k < rs.length) : ((rs.take (k + 1)).map rtxt).map Value.string = ((rs.take k).map rtxt).map Value.string ++ [.string (rtxt (nthR rs k))] := by
  rw [take_nthR h]; simp
set_option maxRecDepth 100000 in
set_option maxHeartbeats 3200000 in
theorem mroutes_any (A : Option Addr) (n c : Nat) (rs : List Rt) (w : World) (hx : Routes w w.heap.size A n rs) (hn : n ≤ 100000) (ht : Tens w) (hb : Brn w) :
    Calls Tryd.prog 37 #[.slice A n c] w fun e w' => e = .returned (.string (rtxts rs)) ∧ Below w.heap.size w w' := by
  have HX := Lib.hid hx
  have HN := Lib.hid hx.1
  have HT := Lib.hid ht
  have HB := Lib.hid hb
  have hz19 : #[.int .u32 0, .int .i64 0, .int .i64 0, .int .u8 0, .int .u8 0, .int .u8 0, .int .u8 0, .int .u8 0, .int .u8 0, .int .u8 0, .int .u8 0, .int .u8 0, .int .u8 0, .int .u8 0, .int .u8 0, .int .u8 0, .int .u8 0, .int .u8 0, .int .u8 0] = rt rt0 := rt_zero.symm
  clear hx ht hb
  go_enter Tryd.func37, Tryd.ntmps37
  go_wp2_with fail
  go_loopw [3, 9] (fun v i wr => ∃ k : Nat, k ≤ n ∧ i = .int .i64 (k : Int) ∧ wr.ownsRow w.heap.size 9 1 v k (((rs.take k).map rtxt).map Value.string) ∧ Below w.heap.size w wr) (fun _ i _ => n - (intOf i).toNat)
  case atStart => exact ⟨0, Nat.zero_le _, rfl, World.ownsRow_nil _ _ _ _, bl_refl w⟩
  case round =>
    obtain ⟨k, hk, rfl, hown, hbr⟩ := hrel
    obtain ⟨A3, c3, rfl⟩ := own_form hown
    by_cases hlt : k < n
    · obtain ⟨b, o, rfl, hbB, hok, hrg⟩ := (HX.out.below hbr).at_ hlt
      have hkr := Lib.hid (show k < rs.length by rw [← HN.out]; exact hlt)
      have hSt := Lib.hid (rtxts_take hkr.out)
      have hTx : Hid (rtxt (nthR rs k) = if pfxOk (nthR rs k).f (nthR rs k).l (nthR rs k).a = true ∧ (nthR rs k).p ≠ 0 then ptxtO (nthR rs k).f (nthR rs k).l (nthR rs k).a ++ (⟨#[35]⟩ ++ decB (nthR rs k).p) else ptxtO (nthR rs k).f (nthR rs k).l (nthR rs k).a) := Lib.hid rfl
      generalize rtxt (nthR rs k) = tx at *
      generalize nthR rs k = r at *
      have HOK := Lib.hid hok
      have hi19 := Lib.hid (rt_infol (r := r) hok.1.1)
      have hin := Lib.hid (rt_info (r := r) hok.1.1)
      have hs19 := Lib.hid (show (rt rt0).size = (rt r).size by rw [rt_size hok.1.1, rt_size rfl])
      have hif := Lib.hid (pfx_infol (f := r.f) (l := r.l) hok.1.1)
      have HRG := Lib.hid hrg
      have oN := Own.new wr 119 (rt rt0)
      have oV := Own.setRow (cs' := rt r) oN
      have bV := bl_setRow (cs := rt r) (hbr.alloc hbr.size (.cells (rt rt0) 119)) hbr.size
      have hO1 := own_belowG hown (show Below wr.heap.size wr ((wr.alloc (.cells (rt rt0) 119)).setRow wr.heap.size (rt r)) from bl_setRow (bl_alloc (bl_refl wr) _) (Nat.le_refl _))
      have hHO := Lib.hid hO1
      clear hok hown hrg hbr hO1
      go_wp2_with (first | (refine wpList_load_mid rfl 119 _ rfl b (o + k * 19) rfl (rt r).toList (.struct (Tryd.prog.fieldsOf 119)) HRG.out rt_desc rfl hi19.out ?_) | (refine wpList_store_row rfl 119 _ _ rfl wr.heap.size (rt r) rfl rfl 119 (rt rt0) oN hin.out hs19.out (rt_one _) ?_; (generalize (wr.alloc (.cells (rt rt0) 119)).setRow wr.heap.size (rt r) = w1 at *); (clear oN)) | (refine wpList_load_mid rfl 41 _ rfl wr.heap.size 1 rfl (pfx r.f r.l r.a).toList (.struct (Tryd.prog.fieldsOf 41)) (Own.pfxAt oV) pfx_desc rfl hif.out ?_))
      refine (ptext_any r.f r.l r.a _ HOK.out.1 (HT.out.below bV) (HB.out.below bV)).mono ?_
      rintro e w2 ⟨rfl, hb2⟩
      have oV2 := oV.step hb2
      have bV2 := bl_trans bV hb2
      have hO2 := Lib.hid (own_belowG hHO.out hb2)
      have p0 := oV2.cell (rt_0 r)
      have hps := ptxtO_size (f := r.f) (l := r.l) HOK.out.1
      clear oV bV hb2 hHO
      cases hpk : pfxOk r.f r.l r.a with
      | false =>
        have hpe : ptxtO r.f r.l r.a = ⟨#[]⟩ := by unfold ptxtO; rw [hpk]; rfl
        have hTx2 := Lib.hid (show tx = ⟨#[]⟩ by rw [hTx.out, if_neg (fun h => by rw [hpk] at h; exact absurd h.1 (by simp)), hpe])
        rw [hpe]
        have hem : (⟨#[]⟩ : ByteArray).toList.isEmpty = true := by rw [ByteArray.toList_eq]; rfl
        have hem2 : (⟨#[]⟩ : ByteArray).toList = [] := by rw [ByteArray.toList_eq]
        have s2 := bV2.size
        clear hTx hpk hpe hps
        go_wp2_with (at_builtin; refine wpList_append_grow _ rfl _ _ rfl sl_strs w.heap.size _ k _ rfl (hO2.out.alloc _) (w2.heap.size + 1) (some ⟨w2.heap.size, 0, none⟩) 1 1 [.string ⟨#[]⟩] rfl rfl (Shows.of_owned (Own.new _ _ _) (by simp)) (one1 rfl) (by unfold maxLen; omega) (by omega) (by simp; omega) ?_; intro v3 w3 ho3 hg3)
        have hb3 := (bV2.alloc bV2.size _).grown hg3 (by simp; omega) (own_base hO2.out)
        rw [← hTx2.out, ← hSt.out] at ho3
        go_roundw
        case rel => exact ⟨k + 1, by omega, by go_num, ho3, hb3⟩
        case measure => simp [intOf]; omega
      | true =>
        have hpe : ptxtO r.f r.l r.a = ptxt r.f r.l r.a := if_pos hpk
        have hem : (ptxtO r.f r.l r.a).toList.isEmpty = false := by rw [hpe]; exact ptxt_ne
        have hem2 : ((ptxtO r.f r.l r.a).toList = []) = False := eq_false (fun e => by rw [e] at hem; cases hem)
        have s2 := bV2.size
        by_cases hp0 : r.p = 0
        · have hTx2 := Lib.hid (show tx = ptxtO r.f r.l r.a by rw [hTx.out, if_neg (fun h => h.2 hp0)])
          have hp1 : (r.p != 0) = false := by rw [hp0]; rfl
          generalize ptxtO r.f r.l r.a = P at *
          clear hTx hpk hpe hps hp0
          go_wp2_with (at_builtin; refine wpList_append_grow _ rfl _ _ rfl sl_strs w.heap.size _ k _ rfl (hO2.out.alloc _) (w2.heap.size + 1) (some ⟨w2.heap.size, 0, none⟩) 1 1 [.string P] rfl rfl (Shows.of_owned (Own.new _ _ _) (by simp)) (one1 rfl) (by unfold maxLen; omega) (by omega) (by simp; omega) ?_; intro v3 w3 ho3 hg3)
          have hb3 := (bV2.alloc bV2.size _).grown hg3 (by simp; omega) (own_base hO2.out)
          rw [← hTx2.out, ← hSt.out] at ho3
          go_roundw
          case rel => exact ⟨k + 1, by omega, by go_num, ho3, hb3⟩
          case measure => simp [intOf]; omega
        · have hTx2 := Lib.hid (show tx = ptxtO r.f r.l r.a ++ (⟨#[35]⟩ ++ decB r.p) by rw [hTx.out, if_pos ⟨hpk, hp0⟩])
          have hp1 : (r.p != 0) = true := by rw [bne_iff_ne]; exact hp0
          have hpr := HOK.out.2
          have hw64 : IntKind.u64.wrap r.p = r.p := by rw [IntKind.wrap_u64]; omega
          have hF := Lib.hid (fun W (h : Below w.heap.size w W) => (show Calls Tryd.prog 43 #[.int .u64 r.p, .int .i64 10] W fun e w' => e = .returned (.string (decB r.p)) ∧ Below W.heap.size W w' by
            have := fmtu_any r.p.toNat (by omega) W (HT.out.below h)
            rw [Int.toNat_of_nonneg hpr.1] at this
            exact this))
          have hds := decB_size (n := r.p) (by omega)
          generalize ptxtO r.f r.l r.a = P at *
          generalize decB r.p = D at *
          have n1 : ¬ 9223372036854775807 < 1 + D.size := by omega
          have n2 : ¬ 9223372036854775807 < P.size + (1 + D.size) := by omega
          clear hTx hpk hpe hp0 hpr
          go_wp2_with fail
          refine (hF.out _ bV2).mono ?_
          rintro e w3 ⟨rfl, hb3⟩
          have bV3 := bl_trans bV2 hb3
          have s3 := bV3.size
          have hO3 := Lib.hid (own_belowG hO2.out hb3)
          clear oV2 p0 bV2 hb3 hO2
          go_wp2_with (at_builtin; refine wpList_append_grow _ rfl _ _ rfl sl_strs w.heap.size _ k _ rfl (hO3.out.alloc _) (w3.heap.size + 1) (some ⟨w3.heap.size, 0, none⟩) 1 1 [.string (P ++ (⟨#[35]⟩ ++ D))] rfl rfl (Shows.of_owned (Own.new _ _ _) (by simp)) (one1 rfl) (by unfold maxLen; omega) (by omega) (by simp; omega) ?_; intro v4 w4 ho4 hg4)
          have hb4 := (bV3.alloc bV3.size _).grown hg4 (by simp; omega) (own_base hO3.out)
          rw [← hTx2.out, ← hSt.out] at ho4
          go_roundw
          case rel => exact ⟨k + 1, by omega, by go_num, ho4, hb4⟩
          case measure => simp [intOf]; omega
    · have hR := Lib.hid (show wr.ownsRow w.heap.size 9 1 (.slice A3 k c3) (rs.map rtxt).length ((rs.map rtxt).map Value.string) by
        have e : k = rs.length := by have := HN.out; omega
        have := hown
        rw [List.take_of_length_le (by omega)] at this
        rw [List.length_map, ← e]
        exact this)
      have hZ := Lib.hid (show ∀ y ∈ rs.map rtxt, y.data.toList.length ≤ 1100 by
        intro y hy
        obtain ⟨r, hr, rfl⟩ := List.mem_map.1 hy
        have := rtxt_size (HX.out.2.1 r hr)
        rwa [Array.length_toList])
      have hLn := Lib.hid (show (rs.map rtxt).length ≤ 1000000 by rw [List.length_map]; have := HN.out; omega)
      have hO : Hid (rtxts rs = joinB (rs.map rtxt) [32]) := Lib.hid rfl
      clear hown
      go_wp2_with fail
      refine (join_row 1100 ⟨#[32]⟩ hR.out hLn.out hZ.out (by omega) (by decide)).mono ?_
      rintro e w2 ⟨rfl, hb2⟩
      have hbb := bl_trans hbr hb2
      go_wp2
      go_ret
      exact ⟨by rw [hO.out]; rfl, hbb⟩
end Go.Proofs.YtecbbjdcnlocdaaDoor

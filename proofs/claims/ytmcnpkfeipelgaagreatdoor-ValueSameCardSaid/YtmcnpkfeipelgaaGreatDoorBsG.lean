/- basic.find at every attribute; basic.Bytes; basic.Text at the example; alive of layer 7 -/
import Derived.Test.YtmcnpkfeipelgaaGreatDoorBsE
import Derived.Test.YtmcnpkfeipelgaaGreatDoorBsF
namespace Go.Proofs.YtmcnpkfeipelgaaGreatDoor
open Go.RowKit Go.Maps

theorem plB_self (a : At) : plB a [a.N] = (decide (a.M = 0) && bareB a) := by
  unfold plB
  simp [nth]
theorem vOk_plB (a : At) : vOk a = (bKnown a.k && plB a [a.N] && decide ((a.k = 1 → a.N ≤ 2) ∧ (a.k = 6 → a.N = 0))) := by
  rw [plB_self]
  unfold vOk
  cases bKnown a.k <;> cases bareB a <;> simp
def fRow (a : At) : Array Value := if vOk a then bRow a.k else bNil
set_option maxRecDepth 100000 in
theorem bfind_any (a : At) (hwf : (Lit.int .i64 a.k).wf = true) (w : World) :
    Calls Tryz.prog 231 #[.agg (atc a)] w fun e w' => e = .returned (.tuple #[.agg (fRow a), .bool (vOk a)]) ∧ Below w.heap.size w w' := by
  have hv := vOk_plB a
  rcases b_split a.k with h | ⟨h0, _⟩
  · have hkn : bKnown a.k = true := by rcases h with h | h | h | h | h | h <;> rw [h] <;> rfl
    have hrow : bRow a.k = #[.int .i64 (bSize a.k), fnv (bFits a.k), fnv (bText a.k)] := by unfold bRow; rw [hkn]; rfl
    refine find_gen a hwf (bSize a.k) (fnv (bFits a.k)) (fnv (bText a.k)) true (Lib.hid hrow) (Lib.hid hkn) rfl rfl (Lib.hid (.inr ⟨rfl, ?_⟩)) (vOk a) (Lib.hid (by rw [hv, hkn])) (fRow a) (Lib.hid (fun h => by unfold fRow; rw [h, ← hrow]; rfl)) (Lib.hid (fun h => by unfold fRow; rw [h]; rfl)) w
    rcases h with h | h | h | h | h | h <;> rw [h]
    · exact .inr (.inl ⟨rfl, rfl⟩)
    · exact .inl ⟨rfl, by omega, by omega⟩
    · exact .inl ⟨rfl, by omega, by omega⟩
    · exact .inl ⟨rfl, by omega, by omega⟩
    · exact .inr (.inr ⟨rfl, rfl⟩)
    · exact .inl ⟨rfl, by omega, by omega⟩
  · have hkn : bKnown a.k = false := by unfold bKnown; rw [h0]; rfl
    have hrow : bRow a.k = #[.int .i64 0, .nilFunc, .nilFunc] := by unfold bRow; rw [hkn]; rfl
    have hf : vOk a = false := by rw [hv, hkn]; rfl
    exact find_gen a hwf 0 .nilFunc .nilFunc false (Lib.hid hrow) (Lib.hid hkn) rfl rfl (Lib.hid (.inl rfl)) (vOk a) (Lib.hid (by rw [hf]; rfl)) (fRow a) (Lib.hid (fun h => by rw [hf] at h; cases h)) (Lib.hid (fun h => by unfold fRow; rw [h]; rfl)) w
/-- The form of a valid attribute. -/
def bForm (k N : Int) : List Int := digitsOf (bSize k).toNat N
theorem bForm_len (k N : Int) : (bForm k N).length = (bSize k).toNat := digitsOf_len _ _
theorem frow_yes {a : At} (h : vOk a = true) : fRow a = #[.int .i64 (bSize a.k), .func (.func (bFits a.k)) #[] #[], .func (.func (bText a.k)) #[] #[]] := by
  have hk : bKnown a.k = true := by rw [vOk_plB] at h; simp at h; exact h.1.1
  unfold fRow bRow
  rw [h, hk]
  rfl
theorem frow_no {a : At} (h : vOk a = false) : fRow a = #[.int .i64 0, .nilFunc, .nilFunc] := by
  unfold fRow
  rw [h]
  rfl
theorem vOk_size {a : At} (h : vOk a = true) (hN : 0 ≤ a.N) (hN2 : a.N < 4294967296) : (bSize a.k = 0 ∧ a.N = 0) ∨ (1 ≤ bSize a.k ∧ bSize a.k ≤ 4 ∧ a.N < 256 ^ (bSize a.k).toNat) := by
  rw [vOk_plB] at h
  simp only [Bool.and_eq_true, decide_eq_true_eq] at h
  obtain ⟨⟨hk, _⟩, h1, h6⟩ := h
  rcases b_split a.k with h | ⟨h0, _⟩
  · rcases h with h | h | h | h | h | h
    · right; rw [h]; exact ⟨by decide, by decide, by have := h1 h; show a.N < 256; omega⟩
    · right; rw [h]; exact ⟨by decide, by decide, hN2⟩
    · right; rw [h]; exact ⟨by decide, by decide, hN2⟩
    · right; rw [h]; exact ⟨by decide, by decide, hN2⟩
    · left; rw [h]; exact ⟨rfl, h6 h⟩
    · right; rw [h]; exact ⟨by decide, by decide, hN2⟩
  · unfold bKnown at hk; rw [h0] at hk; cases hk
set_option maxRecDepth 100000 in
/-- A number put in as many bytes as an attribute of a type has. -/
theorem bput_any (s N : Int) (w : World) (hN : 0 ≤ N) (hs : (s = 0 ∧ N = 0) ∨ (1 ≤ s ∧ s ≤ 4 ∧ N < 256 ^ s.toNat)) :
    Calls Tryz.prog 104 #[.int .i64 s, .int .u32 N] w fun e w' => ∃ A q, e = .returned (.tuple #[.slice A s.toNat s.toNat, .bool q]) ∧ Bytes w' w'.heap.size A s.toNat (digitsOf s.toNat N) ∧ Below w.heap.size w w' := by
  rcases hs with ⟨rfl, rfl⟩ | ⟨h1, h4, h5⟩
  · refine (put_bad 0 0 w (by omega)).mono ?_
    rintro e w' ⟨rfl, hb⟩
    exact ⟨none, false, rfl, Bytes.nil _ _ _, by rw [← hb]; exact bl_refl w⟩
  · refine (put_yes s N w h1 h4 hN h5).mono ?_
    rintro e w' ⟨rfl, ho, hb⟩
    refine ⟨_, true, rfl, ?_, hb⟩
    have := Bytes.of_owned (xs := digitsOf s.toNat N) ho (digitsOf_range _ _) ho.lt
    rwa [digitsOf_len] at this
set_option maxRecDepth 100000 in
set_option maxHeartbeats 1600000 in
theorem bbytes_yes (a : At) (hwf : (Lit.int .i64 a.k).wf = true) (hN : 0 ≤ a.N) (hN2 : a.N < 4294967296) (hv : vOk a = true) (w : World) :
    Calls Tryz.prog 227 #[.agg (atc a)] w fun e w' => ∃ A, e = .returned (.tuple #[.slice A (bSize a.k).toNat (bSize a.k).toNat, .bool true]) ∧ Bytes w' w'.heap.size A (bSize a.k).toNat (bForm a.k a.N) ∧ Below w.heap.size w w' := by
  have hF := Lib.hid (fun W => bfind_any a hwf W)
  have hs := Lib.hid (vOk_size hv hN hN2)
  rw [frow_yes hv, hv] at hF
  clear hv hN2
  obtain ⟨k, p, N, M, A1, n1, c1, A2, n2, c2, A3, n3, c3, f, A4, n4, c4⟩ := a
  unfold atc bForm at *
  dsimp only at *
  have hb0 := bl_alloc (bl_refl w) (.cells #[.int .i64 k, .bool p, .int .u32 N, .int .u32 M, .slice A1 n1 c1, .slice A2 n2 c2, .slice A3 n3 c3, .int .i64 f, .slice A4 n4 c4] 37)
  have o0 := Own.new w 37 #[.int .i64 k, .bool p, .int .u32 N, .int .u32 M, .slice A1 n1 c1, .slice A2 n2 c2, .slice A3 n3 c3, .int .i64 f, .slice A4 n4 c4]
  have hg1 : ∀ W : World, W.heap.size = W.heap.size := fun _ => rfl
  generalize bSize k = s at *
  go_enter Tryz.func227, Tryz.ntmps227
  go_wp2_with fail
  refine (hF.out _).mono ?_
  rintro e w1 ⟨rfl, hb1⟩
  have o1 := o0.step hb1
  have hb2 := bl_trans hb0 hb1
  have oN := Own.new w1 151 #[.int .i64 0, .nilFunc, .nilFunc]
  have hbN := bl_alloc hb2 (.cells #[.int .i64 0, .nilFunc, .nilFunc] 151)
  have hlt := o1.lt
  go_wp2_with (refine wpList_store_row rfl 151 _ _ rfl w1.heap.size #[.int .i64 s, .func (.func (bFits k)) #[] #[], .func (.func (bText k)) #[] #[]] rfl rfl 151 #[.int .i64 0, .nilFunc, .nilFunc] oN (brow_info _ _ _) rfl (brow_one _ _ _) ?_; have oR := oN.setRow (cs' := #[.int .i64 s, .func (.func (bFits k)) #[] #[], .func (.func (bText k)) #[] #[]]); have pB := bl_setRow (g := w1.heap.size) (cs := #[.int .i64 s, .func (.func (bFits k)) #[] #[], .func (.func (bText k)) #[] #[]]) hbN hb2.size; have oA := (o1.alloc (.cells #[.int .i64 0, .nilFunc, .nilFunc] 151)).keep (setRow_other (w1.alloc (.cells #[.int .i64 0, .nilFunc, .nilFunc] 151)) w1.heap.size w.heap.size #[.int .i64 s, .func (.func (bFits k)) #[] #[], .func (.func (bText k)) #[] #[]] (by omega)); have r0 := oR.cell (i := 0) (v := .int .i64 s) rfl; have r1 := oA.cell (i := 2) (v := .int .u32 N) rfl)
  refine (bput_any s N _ hN hs.out).mono ?_
  rintro e w3 ⟨A, q, rfl, hB, hb3⟩
  go_wp2
  go_ret2
  exact ⟨_, rfl, hB, bl_trans pB hb3⟩
set_option maxRecDepth 100000 in
set_option maxHeartbeats 1600000 in
theorem bbytes_no (a : At) (hwf : (Lit.int .i64 a.k).wf = true) (hv : vOk a = false) (w : World) :
    Calls Tryz.prog 227 #[.agg (atc a)] w fun e w' => e = .returned (.tuple #[.slice none 0 0, .bool false]) ∧ Below w.heap.size w w' := by
  have hF := Lib.hid (fun W => bfind_any a hwf W)
  rw [frow_no hv, hv] at hF
  clear hv
  obtain ⟨k, p, N, M, A1, n1, c1, A2, n2, c2, A3, n3, c3, f, A4, n4, c4⟩ := a
  unfold atc at *
  dsimp only at *
  have hb0 := bl_alloc (bl_refl w) (.cells #[.int .i64 k, .bool p, .int .u32 N, .int .u32 M, .slice A1 n1 c1, .slice A2 n2 c2, .slice A3 n3 c3, .int .i64 f, .slice A4 n4 c4] 37)
  go_enter Tryz.func227, Tryz.ntmps227
  go_wp2_with fail
  refine (hF.out _).mono ?_
  rintro e w1 ⟨rfl, hb1⟩
  have hb2 := bl_trans hb0 hb1
  have oN := Own.new w1 151 #[.int .i64 0, .nilFunc, .nilFunc]
  have hbN := bl_alloc hb2 (.cells #[.int .i64 0, .nilFunc, .nilFunc] 151)
  go_wp2_with (refine wpList_store_row rfl 151 _ _ rfl w1.heap.size #[.int .i64 0, .nilFunc, .nilFunc] rfl rfl 151 #[.int .i64 0, .nilFunc, .nilFunc] oN (brow_info _ _ _) rfl bnil_one ?_; have pB := bl_setRow (g := w1.heap.size) (cs := #[.int .i64 0, .nilFunc, .nilFunc]) hbN hb2.size)
  go_ret2
  exact ⟨rfl, pB⟩
set_option maxRecDepth 100000 in
theorem idx3 (W : World) : (Instr.index 175 (.agg #[.string ⟨#[105, 103, 112]⟩, .string ⟨#[101, 103, 112]⟩, .string ⟨#[105, 110, 99, 111, 109, 112, 108, 101, 116, 101]⟩]) (.int .u32 2)).run Tryz.prog W = .ok (.string ⟨#[105, 110, 99, 111, 109, 112, 108, 101, 116, 101]⟩) W := by kernel_rfl
set_option maxRecDepth 100000 in
theorem text1_ex (w : World) : Calls Tryz.prog 143 #[.int .u32 2] w fun e w' => e = .returned (.string ⟨#[111, 114, 105, 103, 105, 110, 32, 105, 110, 99, 111, 109, 112, 108, 101, 116, 101]⟩) ∧ w = w' := by
  have hidx := idx3
  go_enter Tryz.func143, Tryz.ntmps143
  go_wp2
  go_ret
  exact ⟨rfl, rfl⟩
theorem ex_ok : vOk (at0 1 2) = true := by decide
set_option maxRecDepth 100000 in
set_option maxHeartbeats 1600000 in
theorem btext_ex (w : World) : Calls Tryz.prog 229 #[.agg (atc (at0 1 2))] w fun e w' => e = .returned (.string ⟨#[111, 114, 105, 103, 105, 110, 32, 105, 110, 99, 111, 109, 112, 108, 101, 116, 101]⟩) ∧ Below w.heap.size w w' := by
  have hF := Lib.hid (fun W => bfind_any (at0 1 2) rfl W)
  rw [frow_yes ex_ok, ex_ok] at hF
  rw [show bSize (at0 1 2).k = 1 from rfl, show bFits (at0 1 2).k = 142 from rfl, show bText (at0 1 2).k = 143 from rfl] at hF
  unfold at0 atc at *
  dsimp only at *
  have hb0 := bl_alloc (bl_refl w) (.cells #[.int .i64 1, .bool false, .int .u32 2, .int .u32 0, .slice none 0 0, .slice none 0 0, .slice none 0 0, .int .i64 0, .slice none 0 0] 37)
  have o0 := Own.new w 37 #[.int .i64 1, .bool false, .int .u32 2, .int .u32 0, .slice none 0 0, .slice none 0 0, .slice none 0 0, .int .i64 0, .slice none 0 0]
  go_enter Tryz.func229, Tryz.ntmps229
  go_wp2_with fail
  refine (hF.out _).mono ?_
  rintro e w1 ⟨rfl, hb1⟩
  have o1 := o0.step hb1
  have hb2 := bl_trans hb0 hb1
  have oN := Own.new w1 151 #[.int .i64 0, .nilFunc, .nilFunc]
  have hbN := bl_alloc hb2 (.cells #[.int .i64 0, .nilFunc, .nilFunc] 151)
  have hlt := o1.lt
  go_wp2_with (first | (refine wpList_store_row rfl 151 _ _ rfl w1.heap.size #[.int .i64 1, .func (.func 142) #[] #[], .func (.func 143) #[] #[]] rfl rfl 151 #[.int .i64 0, .nilFunc, .nilFunc] oN (brow_info _ _ _) rfl (brow_one _ _ _) ?_; have oR := oN.setRow (cs' := #[.int .i64 1, .func (.func 142) #[] #[], .func (.func 143) #[] #[]]); have pB := bl_setRow (g := w1.heap.size) (cs := #[.int .i64 1, .func (.func 142) #[] #[], .func (.func 143) #[] #[]]) hbN hb2.size; have oA := (o1.alloc (.cells #[.int .i64 0, .nilFunc, .nilFunc] 151)).keep (setRow_other (w1.alloc (.cells #[.int .i64 0, .nilFunc, .nilFunc] 151)) w1.heap.size w.heap.size #[.int .i64 1, .func (.func 142) #[] #[], .func (.func 143) #[] #[]] (by omega)); have r0 := oR.cell (i := 2) (v := .func (.func 143) #[] #[]) rfl; have r1 := oA.cell (i := 2) (v := .int .u32 2) rfl) | (go_at_call 143; refine (text1_ex _).mono ?_; rintro e w' ⟨rfl, rfl⟩))
  go_ret
  exact ⟨rfl, pB⟩
end Go.Proofs.YtmcnpkfeipelgaaGreatDoor

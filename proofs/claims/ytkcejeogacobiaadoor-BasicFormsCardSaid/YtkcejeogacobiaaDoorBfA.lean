/- basic.Text at every attribute -/
import Derived.Test.YtkcejeogacobiaaDoorBsG
import Derived.Test.YtkcejeogacobiaaDoorAdrS
namespace Go.Proofs.YtkcejeogacobiaaDoor
open Go.RowKit Go.Sort

def oNm (N : Int) : ByteArray := if N = 0 then ⟨#[105, 103, 112]⟩ else if N = 1 then ⟨#[101, 103, 112]⟩ else ⟨#[105, 110, 99, 111, 109, 112, 108, 101, 116, 101]⟩
/-- The text of a valid attribute of a type. -/
def bTxt (k N : Int) : ByteArray := if k = 1 then ⟨#[111, 114, 105, 103, 105, 110, 32]⟩ ++ oNm N else if k = 3 then ⟨#[110, 101, 120, 116, 104, 111, 112, 32]⟩ ++ adrB N else if k = 4 then ⟨#[109, 101, 100, 32]⟩ ++ decB N else if k = 5 then ⟨#[108, 111, 99, 97, 108, 112, 114, 101, 102, 32]⟩ ++ decB N else if k = 6 then ⟨#[97, 116, 111, 109, 105, 99]⟩ else ⟨#[111, 114, 105, 103, 105, 110, 97, 116, 111, 114, 32]⟩ ++ adrB N
def bT (a : At) : ByteArray := if vOk a then bTxt a.k a.N else ⟨#[]⟩
set_option maxRecDepth 100000 in
theorem bdec_any (N : Int) (h0 : 0 ≤ N) (h1 : N < 4294967296) (w : World) (ht : Tens w) :
    Calls Tryd.prog 97 #[.int .u32 N] w fun e w' => e = .returned (.string (decB N)) ∧ Below w.heap.size w w' := by
  have hF := Lib.hid (fmtu_any N.toNat (by omega) w ht)
  rw [Int.toNat_of_nonneg h0] at hF
  have w64 : IntKind.u64.wrap N = N := by rw [IntKind.wrap_u64]; omega
  go_enter Tryd.func97, Tryd.ntmps97
  go_wp2_with fail
  refine hF.out.mono ?_
  rintro e w1 ⟨rfl, hb⟩
  go_wp2
  go_ret
  exact ⟨rfl, hb⟩
set_option maxRecDepth 100000 in
theorem idxN0 (W : World) : (Instr.index 105 (.agg #[.string ⟨#[105, 103, 112]⟩, .string ⟨#[101, 103, 112]⟩, .string ⟨#[105, 110, 99, 111, 109, 112, 108, 101, 116, 101]⟩]) (.int .u32 0)).run Tryd.prog W = .ok (.string (oNm 0)) W := by kernel_rfl
set_option maxRecDepth 100000 in
theorem idxN1 (W : World) : (Instr.index 105 (.agg #[.string ⟨#[105, 103, 112]⟩, .string ⟨#[101, 103, 112]⟩, .string ⟨#[105, 110, 99, 111, 109, 112, 108, 101, 116, 101]⟩]) (.int .u32 1)).run Tryd.prog W = .ok (.string (oNm 1)) W := by kernel_rfl
set_option maxRecDepth 100000 in
theorem idxN2 (W : World) : (Instr.index 105 (.agg #[.string ⟨#[105, 103, 112]⟩, .string ⟨#[101, 103, 112]⟩, .string ⟨#[105, 110, 99, 111, 109, 112, 108, 101, 116, 101]⟩]) (.int .u32 2)).run Tryd.prog W = .ok (.string (oNm 2)) W := by kernel_rfl
set_option maxRecDepth 100000 in
theorem idxN (N : Int) (h0 : 0 ≤ N) (h2 : N ≤ 2) (W : World) : (Instr.index 105 (.agg #[.string ⟨#[105, 103, 112]⟩, .string ⟨#[101, 103, 112]⟩, .string ⟨#[105, 110, 99, 111, 109, 112, 108, 101, 116, 101]⟩]) (.int .u32 N)).run Tryd.prog W = .ok (.string (oNm N)) W := by
  have : N = 0 ∨ N = 1 ∨ N = 2 := by omega
  rcases this with rfl | rfl | rfl
  · exact idxN0 W
  · exact idxN1 W
  · exact idxN2 W
theorem oNm_size (N : Int) : (oNm N).size ≤ 10 := by
  unfold oNm
  split
  · decide
  · split
    · decide
    · decide
set_option maxRecDepth 100000 in
theorem btx1_any (N : Int) (h0 : 0 ≤ N) (h2 : N ≤ 2) (w : World) : Calls Tryd.prog 94 #[.int .u32 N] w fun e w' => e = .returned (.string (⟨#[111, 114, 105, 103, 105, 110, 32]⟩ ++ oNm N)) ∧ Below w.heap.size w w' := by
  have hidx := idxN N h0 h2
  have z := oNm_size N
  generalize oNm N = S at *
  have n1 : ¬ 9223372036854775807 < 7 + S.size := by omega
  clear z
  go_enter Tryd.func94, Tryd.ntmps94
  go_wp2
  go_ret
  exact ⟨rfl, bl_refl _⟩
set_option maxRecDepth 100000 in
theorem btx3_any (N : Int) (h0 : 0 ≤ N) (h1 : N < 4294967296) (w : World) (ht : Tens w) : Calls Tryd.prog 95 #[.int .u32 N] w fun e w' => e = .returned (.string (⟨#[110, 101, 120, 116, 104, 111, 112, 32]⟩ ++ adrB N)) ∧ Below w.heap.size w w' := by
  have hc := Lib.hid (badr_any N h0 h1 w ht)
  have z := adrB_size N
  generalize adrB N = S at *
  have n1 : ¬ 9223372036854775807 < 8 + S.size := by omega
  clear z
  go_enter Tryd.func95, Tryd.ntmps95
  go_wp2_with fail
  refine hc.out.mono ?_
  rintro e w1 ⟨rfl, hb⟩
  go_wp2
  go_ret
  exact ⟨rfl, hb⟩
set_option maxRecDepth 100000 in
theorem btx9_any (N : Int) (h0 : 0 ≤ N) (h1 : N < 4294967296) (w : World) (ht : Tens w) : Calls Tryd.prog 101 #[.int .u32 N] w fun e w' => e = .returned (.string (⟨#[111, 114, 105, 103, 105, 110, 97, 116, 111, 114, 32]⟩ ++ adrB N)) ∧ Below w.heap.size w w' := by
  have hc := Lib.hid (badr_any N h0 h1 w ht)
  have z := adrB_size N
  generalize adrB N = S at *
  have n1 : ¬ 9223372036854775807 < 11 + S.size := by omega
  clear z
  go_enter Tryd.func101, Tryd.ntmps101
  go_wp2_with fail
  refine hc.out.mono ?_
  rintro e w1 ⟨rfl, hb⟩
  go_wp2
  go_ret
  exact ⟨rfl, hb⟩
set_option maxRecDepth 100000 in
theorem btx4_any (N : Int) (h0 : 0 ≤ N) (h1 : N < 4294967296) (w : World) (ht : Tens w) : Calls Tryd.prog 96 #[.int .u32 N] w fun e w' => e = .returned (.string (⟨#[109, 101, 100, 32]⟩ ++ decB N)) ∧ Below w.heap.size w w' := by
  have hc := Lib.hid (bdec_any N h0 h1 w ht)
  have z := decB_size (n := N) (by omega)
  generalize decB N = S at *
  have n1 : ¬ 9223372036854775807 < 4 + S.size := by omega
  clear z
  go_enter Tryd.func96, Tryd.ntmps96
  go_wp2_with fail
  refine hc.out.mono ?_
  rintro e w1 ⟨rfl, hb⟩
  go_wp2
  go_ret
  exact ⟨rfl, hb⟩
set_option maxRecDepth 100000 in
theorem btx5_any (N : Int) (h0 : 0 ≤ N) (h1 : N < 4294967296) (w : World) (ht : Tens w) : Calls Tryd.prog 98 #[.int .u32 N] w fun e w' => e = .returned (.string (⟨#[108, 111, 99, 97, 108, 112, 114, 101, 102, 32]⟩ ++ decB N)) ∧ Below w.heap.size w w' := by
  have hc := Lib.hid (bdec_any N h0 h1 w ht)
  have z := decB_size (n := N) (by omega)
  generalize decB N = S at *
  have n1 : ¬ 9223372036854775807 < 10 + S.size := by omega
  clear z
  go_enter Tryd.func98, Tryd.ntmps98
  go_wp2_with fail
  refine hc.out.mono ?_
  rintro e w1 ⟨rfl, hb⟩
  go_wp2
  go_ret
  exact ⟨rfl, hb⟩
set_option maxRecDepth 100000 in
theorem btx6_any (N : Int) (w : World) : Calls Tryd.prog 100 #[.int .u32 N] w fun e w' => e = .returned (.string ⟨#[97, 116, 111, 109, 105, 99]⟩) ∧ Below w.heap.size w w' := by
  go_enter Tryd.func100, Tryd.ntmps100
  go_wp2
  go_ret
  exact ⟨rfl, bl_refl _⟩
set_option maxRecDepth 100000 in
theorem btx_any (k N : Int) (hk : bKnown k = true) (h0 : 0 ≤ N) (h1 : N < 4294967296) (h2 : k = 1 → N ≤ 2) (w : World) (ht : Tens w) :
    Calls Tryd.prog (bText k) #[.int .u32 N] w fun e w' => e = .returned (.string (bTxt k N)) ∧ Below w.heap.size w w' := by
  rcases b_split k with h | ⟨h, _⟩
  · rcases h with rfl | rfl | rfl | rfl | rfl | rfl
    · exact btx1_any N h0 (h2 rfl) w
    · exact btx3_any N h0 h1 w ht
    · exact btx4_any N h0 h1 w ht
    · exact btx5_any N h0 h1 w ht
    · exact btx6_any N w
    · exact btx9_any N h0 h1 w ht
  · unfold bKnown at hk; rw [h] at hk; cases hk
theorem vOk_bits {a : At} (h : vOk a = true) : bKnown a.k = true ∧ bareB a = true ∧ a.M = 0 ∧ (a.k = 1 → a.N ≤ 2) ∧ (a.k = 6 → a.N = 0) := by
  unfold vOk at h
  simp only [Bool.and_eq_true, decide_eq_true_eq] at h
  exact ⟨h.1.1.1, h.1.1.2, h.1.2, h.2.1, h.2.2⟩
set_option maxRecDepth 100000 in
set_option maxHeartbeats 1600000 in
theorem btext_f3 (a : At) (s : Int) (Q : Nat) (S : ByteArray) (w : World)
    (hF : Hid (∀ W, Calls Tryd.prog 68 #[.agg (atc a)] W fun e w' => e = .returned (.tuple #[.agg #[.int .i64 s, .func (.func Q) #[] #[], .func (.func 94) #[] #[]], .bool true]) ∧ Below W.heap.size W w'))
    (hT : Hid (∀ W, Below w.heap.size w W → Calls Tryd.prog 94 #[.int .u32 a.N] W fun e w' => e = .returned (.string S) ∧ Below W.heap.size W w')) :
    Calls Tryd.prog 27 #[.agg (atc a)] w fun e w' => e = .returned (.string S) ∧ Below w.heap.size w w' := by
  obtain ⟨k, p, N, M, A1, n1, c1, A2, n2, c2, A3, n3, c3, f, A4, n4, c4⟩ := a
  unfold atc at *
  dsimp only at *
  have hb0 := bl_alloc (bl_refl w) (.cells #[.int .i64 k, .bool p, .int .u32 N, .int .u32 M, .slice A1 n1 c1, .slice A2 n2 c2, .slice A3 n3 c3, .int .i64 f, .slice A4 n4 c4] 29)
  have o0 := Own.new w 29 #[.int .i64 k, .bool p, .int .u32 N, .int .u32 M, .slice A1 n1 c1, .slice A2 n2 c2, .slice A3 n3 c3, .int .i64 f, .slice A4 n4 c4]
  go_enter Tryd.func27, Tryd.ntmps27
  go_wp2_with fail
  refine (hF.out _).mono ?_
  rintro e w1 ⟨rfl, hb1⟩
  have o1 := o0.step hb1
  have hb2 := bl_trans hb0 hb1
  have oN := Own.new w1 74 #[.int .i64 0, .nilFunc, .nilFunc]
  have hbN := bl_alloc hb2 (.cells #[.int .i64 0, .nilFunc, .nilFunc] 74)
  have hlt := o1.lt
  go_wp2_with (refine wpList_store_row rfl 74 _ _ rfl w1.heap.size #[.int .i64 s, .func (.func Q) #[] #[], .func (.func 94) #[] #[]] rfl rfl 74 #[.int .i64 0, .nilFunc, .nilFunc] oN (brow_info _ _ _) rfl (brow_one _ _ _) ?_; have oR := oN.setRow (cs' := #[.int .i64 s, .func (.func Q) #[] #[], .func (.func 94) #[] #[]]); have pB := bl_setRow (g := w1.heap.size) (cs := #[.int .i64 s, .func (.func Q) #[] #[], .func (.func 94) #[] #[]]) hbN hb2.size; have oA := (o1.alloc (.cells #[.int .i64 0, .nilFunc, .nilFunc] 74)).keep (setRow_other (w1.alloc (.cells #[.int .i64 0, .nilFunc, .nilFunc] 74)) w1.heap.size w.heap.size #[.int .i64 s, .func (.func Q) #[] #[], .func (.func 94) #[] #[]] (by omega)); have r0 := oR.cell (i := 2) (v := .func (.func 94) #[] #[]) rfl; have r1 := oA.cell (i := 2) (v := .int .u32 N) rfl)
  go_at_call 94
  refine (hT.out _ pB).mono ?_
  rintro e w3 ⟨rfl, hb3⟩
  go_wp2
  go_ret
  exact ⟨rfl, bl_trans pB hb3⟩
set_option maxRecDepth 100000 in
set_option maxHeartbeats 1600000 in
theorem btext_f4 (a : At) (s : Int) (Q : Nat) (S : ByteArray) (w : World)
    (hF : Hid (∀ W, Calls Tryd.prog 68 #[.agg (atc a)] W fun e w' => e = .returned (.tuple #[.agg #[.int .i64 s, .func (.func Q) #[] #[], .func (.func 95) #[] #[]], .bool true]) ∧ Below W.heap.size W w'))
    (hT : Hid (∀ W, Below w.heap.size w W → Calls Tryd.prog 95 #[.int .u32 a.N] W fun e w' => e = .returned (.string S) ∧ Below W.heap.size W w')) :
    Calls Tryd.prog 27 #[.agg (atc a)] w fun e w' => e = .returned (.string S) ∧ Below w.heap.size w w' := by
  obtain ⟨k, p, N, M, A1, n1, c1, A2, n2, c2, A3, n3, c3, f, A4, n4, c4⟩ := a
  unfold atc at *
  dsimp only at *
  have hb0 := bl_alloc (bl_refl w) (.cells #[.int .i64 k, .bool p, .int .u32 N, .int .u32 M, .slice A1 n1 c1, .slice A2 n2 c2, .slice A3 n3 c3, .int .i64 f, .slice A4 n4 c4] 29)
  have o0 := Own.new w 29 #[.int .i64 k, .bool p, .int .u32 N, .int .u32 M, .slice A1 n1 c1, .slice A2 n2 c2, .slice A3 n3 c3, .int .i64 f, .slice A4 n4 c4]
  go_enter Tryd.func27, Tryd.ntmps27
  go_wp2_with fail
  refine (hF.out _).mono ?_
  rintro e w1 ⟨rfl, hb1⟩
  have o1 := o0.step hb1
  have hb2 := bl_trans hb0 hb1
  have oN := Own.new w1 74 #[.int .i64 0, .nilFunc, .nilFunc]
  have hbN := bl_alloc hb2 (.cells #[.int .i64 0, .nilFunc, .nilFunc] 74)
  have hlt := o1.lt
  go_wp2_with (refine wpList_store_row rfl 74 _ _ rfl w1.heap.size #[.int .i64 s, .func (.func Q) #[] #[], .func (.func 95) #[] #[]] rfl rfl 74 #[.int .i64 0, .nilFunc, .nilFunc] oN (brow_info _ _ _) rfl (brow_one _ _ _) ?_; have oR := oN.setRow (cs' := #[.int .i64 s, .func (.func Q) #[] #[], .func (.func 95) #[] #[]]); have pB := bl_setRow (g := w1.heap.size) (cs := #[.int .i64 s, .func (.func Q) #[] #[], .func (.func 95) #[] #[]]) hbN hb2.size; have oA := (o1.alloc (.cells #[.int .i64 0, .nilFunc, .nilFunc] 74)).keep (setRow_other (w1.alloc (.cells #[.int .i64 0, .nilFunc, .nilFunc] 74)) w1.heap.size w.heap.size #[.int .i64 s, .func (.func Q) #[] #[], .func (.func 95) #[] #[]] (by omega)); have r0 := oR.cell (i := 2) (v := .func (.func 95) #[] #[]) rfl; have r1 := oA.cell (i := 2) (v := .int .u32 N) rfl)
  go_at_call 95
  refine (hT.out _ pB).mono ?_
  rintro e w3 ⟨rfl, hb3⟩
  go_wp2
  go_ret
  exact ⟨rfl, bl_trans pB hb3⟩
set_option maxRecDepth 100000 in
set_option maxHeartbeats 1600000 in
theorem btext_f5 (a : At) (s : Int) (Q : Nat) (S : ByteArray) (w : World)
    (hF : Hid (∀ W, Calls Tryd.prog 68 #[.agg (atc a)] W fun e w' => e = .returned (.tuple #[.agg #[.int .i64 s, .func (.func Q) #[] #[], .func (.func 96) #[] #[]], .bool true]) ∧ Below W.heap.size W w'))
    (hT : Hid (∀ W, Below w.heap.size w W → Calls Tryd.prog 96 #[.int .u32 a.N] W fun e w' => e = .returned (.string S) ∧ Below W.heap.size W w')) :
    Calls Tryd.prog 27 #[.agg (atc a)] w fun e w' => e = .returned (.string S) ∧ Below w.heap.size w w' := by
  obtain ⟨k, p, N, M, A1, n1, c1, A2, n2, c2, A3, n3, c3, f, A4, n4, c4⟩ := a
  unfold atc at *
  dsimp only at *
  have hb0 := bl_alloc (bl_refl w) (.cells #[.int .i64 k, .bool p, .int .u32 N, .int .u32 M, .slice A1 n1 c1, .slice A2 n2 c2, .slice A3 n3 c3, .int .i64 f, .slice A4 n4 c4] 29)
  have o0 := Own.new w 29 #[.int .i64 k, .bool p, .int .u32 N, .int .u32 M, .slice A1 n1 c1, .slice A2 n2 c2, .slice A3 n3 c3, .int .i64 f, .slice A4 n4 c4]
  go_enter Tryd.func27, Tryd.ntmps27
  go_wp2_with fail
  refine (hF.out _).mono ?_
  rintro e w1 ⟨rfl, hb1⟩
  have o1 := o0.step hb1
  have hb2 := bl_trans hb0 hb1
  have oN := Own.new w1 74 #[.int .i64 0, .nilFunc, .nilFunc]
  have hbN := bl_alloc hb2 (.cells #[.int .i64 0, .nilFunc, .nilFunc] 74)
  have hlt := o1.lt
  go_wp2_with (refine wpList_store_row rfl 74 _ _ rfl w1.heap.size #[.int .i64 s, .func (.func Q) #[] #[], .func (.func 96) #[] #[]] rfl rfl 74 #[.int .i64 0, .nilFunc, .nilFunc] oN (brow_info _ _ _) rfl (brow_one _ _ _) ?_; have oR := oN.setRow (cs' := #[.int .i64 s, .func (.func Q) #[] #[], .func (.func 96) #[] #[]]); have pB := bl_setRow (g := w1.heap.size) (cs := #[.int .i64 s, .func (.func Q) #[] #[], .func (.func 96) #[] #[]]) hbN hb2.size; have oA := (o1.alloc (.cells #[.int .i64 0, .nilFunc, .nilFunc] 74)).keep (setRow_other (w1.alloc (.cells #[.int .i64 0, .nilFunc, .nilFunc] 74)) w1.heap.size w.heap.size #[.int .i64 s, .func (.func Q) #[] #[], .func (.func 96) #[] #[]] (by omega)); have r0 := oR.cell (i := 2) (v := .func (.func 96) #[] #[]) rfl; have r1 := oA.cell (i := 2) (v := .int .u32 N) rfl)
  go_at_call 96
  refine (hT.out _ pB).mono ?_
  rintro e w3 ⟨rfl, hb3⟩
  go_wp2
  go_ret
  exact ⟨rfl, bl_trans pB hb3⟩
set_option maxRecDepth 100000 in
set_option maxHeartbeats 1600000 in
theorem btext_f6 (a : At) (s : Int) (Q : Nat) (S : ByteArray) (w : World)
    (hF : Hid (∀ W, Calls Tryd.prog 68 #[.agg (atc a)] W fun e w' => e = .returned (.tuple #[.agg #[.int .i64 s, .func (.func Q) #[] #[], .func (.func 98) #[] #[]], .bool true]) ∧ Below W.heap.size W w'))
    (hT : Hid (∀ W, Below w.heap.size w W → Calls Tryd.prog 98 #[.int .u32 a.N] W fun e w' => e = .returned (.string S) ∧ Below W.heap.size W w')) :
    Calls Tryd.prog 27 #[.agg (atc a)] w fun e w' => e = .returned (.string S) ∧ Below w.heap.size w w' := by
  obtain ⟨k, p, N, M, A1, n1, c1, A2, n2, c2, A3, n3, c3, f, A4, n4, c4⟩ := a
  unfold atc at *
  dsimp only at *
  have hb0 := bl_alloc (bl_refl w) (.cells #[.int .i64 k, .bool p, .int .u32 N, .int .u32 M, .slice A1 n1 c1, .slice A2 n2 c2, .slice A3 n3 c3, .int .i64 f, .slice A4 n4 c4] 29)
  have o0 := Own.new w 29 #[.int .i64 k, .bool p, .int .u32 N, .int .u32 M, .slice A1 n1 c1, .slice A2 n2 c2, .slice A3 n3 c3, .int .i64 f, .slice A4 n4 c4]
  go_enter Tryd.func27, Tryd.ntmps27
  go_wp2_with fail
  refine (hF.out _).mono ?_
  rintro e w1 ⟨rfl, hb1⟩
  have o1 := o0.step hb1
  have hb2 := bl_trans hb0 hb1
  have oN := Own.new w1 74 #[.int .i64 0, .nilFunc, .nilFunc]
  have hbN := bl_alloc hb2 (.cells #[.int .i64 0, .nilFunc, .nilFunc] 74)
  have hlt := o1.lt
  go_wp2_with (refine wpList_store_row rfl 74 _ _ rfl w1.heap.size #[.int .i64 s, .func (.func Q) #[] #[], .func (.func 98) #[] #[]] rfl rfl 74 #[.int .i64 0, .nilFunc, .nilFunc] oN (brow_info _ _ _) rfl (brow_one _ _ _) ?_; have oR := oN.setRow (cs' := #[.int .i64 s, .func (.func Q) #[] #[], .func (.func 98) #[] #[]]); have pB := bl_setRow (g := w1.heap.size) (cs := #[.int .i64 s, .func (.func Q) #[] #[], .func (.func 98) #[] #[]]) hbN hb2.size; have oA := (o1.alloc (.cells #[.int .i64 0, .nilFunc, .nilFunc] 74)).keep (setRow_other (w1.alloc (.cells #[.int .i64 0, .nilFunc, .nilFunc] 74)) w1.heap.size w.heap.size #[.int .i64 s, .func (.func Q) #[] #[], .func (.func 98) #[] #[]] (by omega)); have r0 := oR.cell (i := 2) (v := .func (.func 98) #[] #[]) rfl; have r1 := oA.cell (i := 2) (v := .int .u32 N) rfl)
  go_at_call 98
  refine (hT.out _ pB).mono ?_
  rintro e w3 ⟨rfl, hb3⟩
  go_wp2
  go_ret
  exact ⟨rfl, bl_trans pB hb3⟩
set_option maxRecDepth 100000 in
set_option maxHeartbeats 1600000 in
theorem btext_f8 (a : At) (s : Int) (Q : Nat) (S : ByteArray) (w : World)
    (hF : Hid (∀ W, Calls Tryd.prog 68 #[.agg (atc a)] W fun e w' => e = .returned (.tuple #[.agg #[.int .i64 s, .func (.func Q) #[] #[], .func (.func 100) #[] #[]], .bool true]) ∧ Below W.heap.size W w'))
    (hT : Hid (∀ W, Below w.heap.size w W → Calls Tryd.prog 100 #[.int .u32 a.N] W fun e w' => e = .returned (.string S) ∧ Below W.heap.size W w')) :
    Calls Tryd.prog 27 #[.agg (atc a)] w fun e w' => e = .returned (.string S) ∧ Below w.heap.size w w' := by
  obtain ⟨k, p, N, M, A1, n1, c1, A2, n2, c2, A3, n3, c3, f, A4, n4, c4⟩ := a
  unfold atc at *
  dsimp only at *
  have hb0 := bl_alloc (bl_refl w) (.cells #[.int .i64 k, .bool p, .int .u32 N, .int .u32 M, .slice A1 n1 c1, .slice A2 n2 c2, .slice A3 n3 c3, .int .i64 f, .slice A4 n4 c4] 29)
  have o0 := Own.new w 29 #[.int .i64 k, .bool p, .int .u32 N, .int .u32 M, .slice A1 n1 c1, .slice A2 n2 c2, .slice A3 n3 c3, .int .i64 f, .slice A4 n4 c4]
  go_enter Tryd.func27, Tryd.ntmps27
  go_wp2_with fail
  refine (hF.out _).mono ?_
  rintro e w1 ⟨rfl, hb1⟩
  have o1 := o0.step hb1
  have hb2 := bl_trans hb0 hb1
  have oN := Own.new w1 74 #[.int .i64 0, .nilFunc, .nilFunc]
  have hbN := bl_alloc hb2 (.cells #[.int .i64 0, .nilFunc, .nilFunc] 74)
  have hlt := o1.lt
  go_wp2_with (refine wpList_store_row rfl 74 _ _ rfl w1.heap.size #[.int .i64 s, .func (.func Q) #[] #[], .func (.func 100) #[] #[]] rfl rfl 74 #[.int .i64 0, .nilFunc, .nilFunc] oN (brow_info _ _ _) rfl (brow_one _ _ _) ?_; have oR := oN.setRow (cs' := #[.int .i64 s, .func (.func Q) #[] #[], .func (.func 100) #[] #[]]); have pB := bl_setRow (g := w1.heap.size) (cs := #[.int .i64 s, .func (.func Q) #[] #[], .func (.func 100) #[] #[]]) hbN hb2.size; have oA := (o1.alloc (.cells #[.int .i64 0, .nilFunc, .nilFunc] 74)).keep (setRow_other (w1.alloc (.cells #[.int .i64 0, .nilFunc, .nilFunc] 74)) w1.heap.size w.heap.size #[.int .i64 s, .func (.func Q) #[] #[], .func (.func 100) #[] #[]] (by omega)); have r0 := oR.cell (i := 2) (v := .func (.func 100) #[] #[]) rfl; have r1 := oA.cell (i := 2) (v := .int .u32 N) rfl)
  go_at_call 100
  refine (hT.out _ pB).mono ?_
  rintro e w3 ⟨rfl, hb3⟩
  go_wp2
  go_ret
  exact ⟨rfl, bl_trans pB hb3⟩
set_option maxRecDepth 100000 in
set_option maxHeartbeats 1600000 in
theorem btext_f9 (a : At) (s : Int) (Q : Nat) (S : ByteArray) (w : World)
    (hF : Hid (∀ W, Calls Tryd.prog 68 #[.agg (atc a)] W fun e w' => e = .returned (.tuple #[.agg #[.int .i64 s, .func (.func Q) #[] #[], .func (.func 101) #[] #[]], .bool true]) ∧ Below W.heap.size W w'))
    (hT : Hid (∀ W, Below w.heap.size w W → Calls Tryd.prog 101 #[.int .u32 a.N] W fun e w' => e = .returned (.string S) ∧ Below W.heap.size W w')) :
    Calls Tryd.prog 27 #[.agg (atc a)] w fun e w' => e = .returned (.string S) ∧ Below w.heap.size w w' := by
  obtain ⟨k, p, N, M, A1, n1, c1, A2, n2, c2, A3, n3, c3, f, A4, n4, c4⟩ := a
  unfold atc at *
  dsimp only at *
  have hb0 := bl_alloc (bl_refl w) (.cells #[.int .i64 k, .bool p, .int .u32 N, .int .u32 M, .slice A1 n1 c1, .slice A2 n2 c2, .slice A3 n3 c3, .int .i64 f, .slice A4 n4 c4] 29)
  have o0 := Own.new w 29 #[.int .i64 k, .bool p, .int .u32 N, .int .u32 M, .slice A1 n1 c1, .slice A2 n2 c2, .slice A3 n3 c3, .int .i64 f, .slice A4 n4 c4]
  go_enter Tryd.func27, Tryd.ntmps27
  go_wp2_with fail
  refine (hF.out _).mono ?_
  rintro e w1 ⟨rfl, hb1⟩
  have o1 := o0.step hb1
  have hb2 := bl_trans hb0 hb1
  have oN := Own.new w1 74 #[.int .i64 0, .nilFunc, .nilFunc]
  have hbN := bl_alloc hb2 (.cells #[.int .i64 0, .nilFunc, .nilFunc] 74)
  have hlt := o1.lt
  go_wp2_with (refine wpList_store_row rfl 74 _ _ rfl w1.heap.size #[.int .i64 s, .func (.func Q) #[] #[], .func (.func 101) #[] #[]] rfl rfl 74 #[.int .i64 0, .nilFunc, .nilFunc] oN (brow_info _ _ _) rfl (brow_one _ _ _) ?_; have oR := oN.setRow (cs' := #[.int .i64 s, .func (.func Q) #[] #[], .func (.func 101) #[] #[]]); have pB := bl_setRow (g := w1.heap.size) (cs := #[.int .i64 s, .func (.func Q) #[] #[], .func (.func 101) #[] #[]]) hbN hb2.size; have oA := (o1.alloc (.cells #[.int .i64 0, .nilFunc, .nilFunc] 74)).keep (setRow_other (w1.alloc (.cells #[.int .i64 0, .nilFunc, .nilFunc] 74)) w1.heap.size w.heap.size #[.int .i64 s, .func (.func Q) #[] #[], .func (.func 101) #[] #[]] (by omega)); have r0 := oR.cell (i := 2) (v := .func (.func 101) #[] #[]) rfl; have r1 := oA.cell (i := 2) (v := .int .u32 N) rfl)
  go_at_call 101
  refine (hT.out _ pB).mono ?_
  rintro e w3 ⟨rfl, hb3⟩
  go_wp2
  go_ret
  exact ⟨rfl, bl_trans pB hb3⟩
set_option maxRecDepth 100000 in
theorem btext_yes (a : At) (hwf : (Lit.int .i64 a.k).wf = true) (hN : 0 ≤ a.N) (hN2 : a.N < 4294967296) (hv : vOk a = true) (w : World) (ht : Tens w) :
    Calls Tryd.prog 27 #[.agg (atc a)] w fun e w' => e = .returned (.string (bTxt a.k a.N)) ∧ Below w.heap.size w w' := by
  have hF := fun W => bfind_any a hwf W
  rw [frow_yes hv, hv] at hF
  obtain ⟨hkn, _, _, h1, _⟩ := vOk_bits hv
  have hT := fun W (h : Below w.heap.size w W) => btx_any a.k a.N hkn hN hN2 h1 W (ht.below h)
  rcases b_split a.k with h | ⟨h, _⟩
  · rcases h with h | h | h | h | h | h
    · rw [show bText a.k = 94 by rw [h]; rfl] at hF hT; exact btext_f3 a _ _ _ w (Lib.hid hF) (Lib.hid hT)
    · rw [show bText a.k = 95 by rw [h]; rfl] at hF hT; exact btext_f4 a _ _ _ w (Lib.hid hF) (Lib.hid hT)
    · rw [show bText a.k = 96 by rw [h]; rfl] at hF hT; exact btext_f5 a _ _ _ w (Lib.hid hF) (Lib.hid hT)
    · rw [show bText a.k = 98 by rw [h]; rfl] at hF hT; exact btext_f6 a _ _ _ w (Lib.hid hF) (Lib.hid hT)
    · rw [show bText a.k = 100 by rw [h]; rfl] at hF hT; exact btext_f8 a _ _ _ w (Lib.hid hF) (Lib.hid hT)
    · rw [show bText a.k = 101 by rw [h]; rfl] at hF hT; exact btext_f9 a _ _ _ w (Lib.hid hF) (Lib.hid hT)
  · unfold bKnown at hkn; rw [h] at hkn; cases hkn
set_option maxRecDepth 100000 in
set_option maxHeartbeats 1600000 in
theorem btext_no (a : At) (hwf : (Lit.int .i64 a.k).wf = true) (hv : vOk a = false) (w : World) :
    Calls Tryd.prog 27 #[.agg (atc a)] w fun e w' => e = .returned (.string ⟨#[]⟩) ∧ Below w.heap.size w w' := by
  have hF := Lib.hid (fun W => bfind_any a hwf W)
  rw [frow_no hv, hv] at hF
  clear hv hwf
  obtain ⟨k, p, N, M, A1, n1, c1, A2, n2, c2, A3, n3, c3, f, A4, n4, c4⟩ := a
  unfold atc at *
  dsimp only at *
  have hb0 := bl_alloc (bl_refl w) (.cells #[.int .i64 k, .bool p, .int .u32 N, .int .u32 M, .slice A1 n1 c1, .slice A2 n2 c2, .slice A3 n3 c3, .int .i64 f, .slice A4 n4 c4] 29)
  go_enter Tryd.func27, Tryd.ntmps27
  go_wp2_with fail
  refine (hF.out _).mono ?_
  rintro e w1 ⟨rfl, hb1⟩
  have hb2 := bl_trans hb0 hb1
  have oN := Own.new w1 74 #[.int .i64 0, .nilFunc, .nilFunc]
  have hbN := bl_alloc hb2 (.cells #[.int .i64 0, .nilFunc, .nilFunc] 74)
  go_wp2_with (refine wpList_store_row rfl 74 _ _ rfl w1.heap.size #[.int .i64 0, .nilFunc, .nilFunc] rfl rfl 74 #[.int .i64 0, .nilFunc, .nilFunc] oN (brow_info _ _ _) rfl bnil_one ?_; have pB := bl_setRow (g := w1.heap.size) (cs := #[.int .i64 0, .nilFunc, .nilFunc]) hbN hb2.size)
  go_ret
  exact ⟨rfl, pB⟩
set_option maxRecDepth 100000 in
theorem btext_any (a : At) (hwf : (Lit.int .i64 a.k).wf = true) (hN : 0 ≤ a.N) (hN2 : a.N < 4294967296) (w : World) (ht : Tens w) :
    Calls Tryd.prog 27 #[.agg (atc a)] w fun e w' => e = .returned (.string (bT a)) ∧ Below w.heap.size w w' := by
  unfold bT
  cases hv : vOk a with
  | true => exact btext_yes a hwf hN hN2 hv w ht
  | false => exact btext_no a hwf hv w
end Go.Proofs.YtkcejeogacobiaaDoor

/- peerageref10.Bytes -/
import Derived.Test.YteoegejbaahlpaaFlH
import Derived.Deep.RegionHeld3
namespace Go.Proofs.Yteoegejbaahlpaa
open Go.RowKit

theorem Own.row {w : World} {g base n : Nat} {t : TypeId} {cs : List Value} (h : Own w g t cs.toArray) (hn : cs.length = n) (hb : base ≤ g) (hm : n ≤ maxLen) : w.ownsRow base t 1 (.slice (some ⟨g, 0, none⟩) n n) n cs :=
  ⟨by omega, .inr ⟨g, n, cs.toArray, rfl, hb, h, Nat.le_refl _, hm, by simp [hn], by simp only [Nat.mul_one]; exact List.take_of_length_le (by omega)⟩⟩
theorem step_append_grow {P : Program} {ops : Array Oper} {o : Oper} {a : Act} {w : World} {K : Act → World → Prop} {Q : Exit → Act → World → Prop} {E : Prop}
    (hg : o.guard = none) (s x : Operand) {t e : TypeId} {size bytes : Nat} (hop : o.op = Op.call { callee := Callee.builtin Builtin.append, args := #[s, x], argTypes := #[t, t] }) (hS : SliceOf P t e size bytes)
    (base : Nat) (v : Value) (n : Nat) (xs : List Value) (hv : a.eval s = v) (hown : w.ownsRow base e size v n xs)
    (B : Nat) (A : Option Addr) (m c : Nat) (news : List Value) (hx : a.eval x = .slice A m c) (hn : news.length = m * size) (hs : Shows w B A news) (h1c : ∀ u ∈ news, u.oneCell' = true)
    (h63 : n + m ≤ maxLen) (hbytes : (n + m) * bytes ≤ 140737488355328) (hbase : base ≤ w.heap.size)
    (hK : ∀ v' w', w'.ownsRow base e size v' (n + m) (xs ++ news) → w.grownBy w' v.ownBlock → K (a.put o.dst v') w') :
    if Region.wanted o (yielded ops a.tmps) = true then Oper.wp P o a w K Q else E := by
  have hw : Region.wanted o (yielded ops a.tmps) = true := by simp [Region.wanted, hg]
  rw [if_pos hw]
  obtain ⟨v', w', hrun, r1, r2, _⟩ := run_append_grow (P := P) (ty := o.type) w hS v n xs hown B A m c news hn hs h1c h63 hbytes hbase
  unfold Oper.wp
  simp [execOp, hop, resolve, invoke, builtin, hv, hx, hrun, Result.andThen]
  exact hK _ _ r1 r2
theorem rs {w w1 : World} {t : TypeId} {cs : Array Value} (h : Own (w.alloc (.cells cs t)) w.heap.size t cs) (hb : Below (w.alloc (.cells cs t)).drew.heap.size (w.alloc (.cells cs t)).drew w1) : Own w1 w.heap.size t cs := h.drew.step hb
theorem ne_own {b g o n k : Nat} {x : Option Nat} (h : b ≠ g) : some b ≠ Value.ownBlock (.slice (some ⟨g, o, x⟩) n k) := by
  intro e
  exact h (Option.some.inj e)
theorem fin_a {w W0 w1 w2 : World} {cs : Array Value} {t : TypeId} {g : Nat} {x : Option Nat} {n k : Nat} (h0 : Below w.heap.size w W0) (h1 : Below (W0.alloc (.cells cs t)).drew.heap.size (W0.alloc (.cells cs t)).drew w1) (h2 : w1.grownBy w2 (Value.ownBlock (.slice (some ⟨g, 0, x⟩) n k))) (hg : w.heap.size ≤ g) : Below w.heap.size w w2 := by
  have e0 := h0.size
  have e1 := h1.size
  have e2 : (W0.alloc (.cells cs t)).drew.heap.size = W0.heap.size + 1 := by
    show (W0.alloc (.cells cs t)).heap.size = _; simp
  exact (((h0.alloc h0.size (.cells cs t)).drew.trans (h1.mono (by omega)))).grown h2 (by omega) (by intro j hj; simp [Value.ownBlock] at hj; omega)
theorem fin_b {w W0 w1 w2 : World} {cs : Array Value} {t : TypeId} {g : Nat} {x : Option Nat} {n k : Nat} (h0 : Below w.heap.size w W0) (h1 : Below W0.drew.heap.size W0.drew w1) (h2 : (w1.alloc (.cells cs t)).grownBy w2 (Value.ownBlock (.slice (some ⟨g, 0, x⟩) n k))) (hg : w.heap.size ≤ g) : Below w.heap.size w w2 := by
  have e0 := h0.size
  have e1 := h1.size
  have e2 : W0.drew.heap.size = W0.heap.size := rfl
  have e3 : (w1.alloc (.cells cs t)).heap.size = w1.heap.size + 1 := by simp
  exact ((h0.drew.trans (h1.mono (by omega))).alloc (by omega) (.cells cs t)).grown h2 (by omega) (by intro j hj; simp [Value.ownBlock] at hj; omega)
theorem one8 (xs : List Int) : ∀ u ∈ xs.map (Value.int .u8), u.oneCell' = true := by
  intro u hu
  obtain ⟨x, _, rfl⟩ := List.mem_map.1 hu
  rfl

set_option maxRecDepth 100000 in
set_option maxHeartbeats 800000 in
theorem rfbytes_yes1 (f t n : Int) (w : World) (hk : fbOk f t n = true) (hb : (bits BinOp.and IntKind.i64 f 16 != 0) = false) :
    Calls Try.prog 33 #[.agg #[.int .i64 f, .int .i64 t, .int .i64 n]] w fun e w' => ∃ v, e = .returned (.tuple #[v, .bool true]) ∧ w'.ownsRow w.heap.size 5 1 v (fForm f t n).length ((fForm f t n).map (Value.int .u8)) ∧ Below w.heap.size w w' := by
  have hfk : fk f = 1 := by unfold fk; rw [hb]; rfl
  simp only [fbOk, Bool.and_eq_true, decide_eq_true_eq] at hk
  obtain ⟨⟨h1, h2⟩, h3, h4⟩ := hk
  have hF := Lib.hid (show (fForm f t n).map (Value.int .u8) = [Value.int .u8 f, Value.int .u8 t] ++ (digitsOf 1 n).map (Value.int .u8) by unfold fForm; rw [hfk]; rfl)
  have hL := Lib.hid (show (fForm f t n).length = 2 + 1 by unfold fForm; rw [List.length_append, digitsOf_len, hfk]; rfl)
  rw [hfk] at h4
  have hn : n ≤ 255 := by have : (256 : Int) ^ (1 : Int).toNat = 255 + 1 := rfl; omega
  have hf0 := h1.1
  have hf1 := h1.2
  have ht0 := h2.1
  have ht1 := h2.2
  have w1f : IntKind.u8.wrap f = f := by rw [IntKind.wrap_u8']; omega
  have w1t : IntKind.u8.wrap t = t := by rw [IntKind.wrap_u8']; omega
  have w1n : IntKind.u32.wrap n = n := by rw [IntKind.wrap_u32']; omega
  have hn32 : n < 4294967296 := by omega
  have g0 := Own.new w 53 #[.int .i64 f, .int .i64 t, .int .i64 n]
  have hb0 := bl_alloc (bl_refl w) (.cells #[.int .i64 f, .int .i64 t, .int .i64 n] 53)
  have hszW : (w.alloc (.cells #[.int .i64 f, .int .i64 t, .int .i64 n] 53)).heap.size = w.heap.size + 1 := by simp
  have c0 := g0.cell (i := 0) (v := .int .i64 f) rfl
  have c1 := g0.cell (i := 1) (v := .int .i64 t) rfl
  have c2 := g0.cell (i := 2) (v := .int .i64 n) rfl
  have hlt := g0.lt
  clear h1 h2 h4 hfk
  go_enter Try.func33, Try.ntmps33
  go_upto_region 8 with (fail)
  generalize w.alloc (.cells #[.int .i64 f, .int .i64 t, .int .i64 n] 53) = W0 at *
  have hbA := hb0
  go_region_held3 (fun W => W.cell? ⟨w.heap.size, 0, none⟩ = some (.int .i64 f) ∧ W.cell? ⟨w.heap.size, 1, none⟩ = some (.int .i64 t) ∧ W.cell? ⟨w.heap.size, 2, none⟩ = some (.int .i64 n)) (first | go_keep | (exact ⟨gB.cell (i := 0) rfl, gB.cell (i := 1) rfl, gB.cell (i := 2) rfl⟩) | (exact ⟨gA.cell (i := 0) rfl, gA.cell (i := 1) rfl, gA.cell (i := 2) rfl⟩)) ((first
    | (go_at_call 77; (with_reducible refine (of_any 1 n _ (by omega) (by omega) h3 hn32).mono ?_); rintro e w1 ⟨v1, rfl, ho1, hb1⟩; obtain ⟨A1, k1, rfl, hk1, hs1⟩ := own_val ho1; (first | have gA := g0.drew.step hb1 | have gA := (g0.drew.alloc _).step hb1))
    | (have gS := rs (Own.new W0 5 #[.int .u8 f, .int .u8 t]) hb1; have gR := Own.row (n := 2) gS rfl (show w.heap.size ≤ _ by omega) (by unfold maxLen; omega); rw [hszW] at gR; have hs2 := hs1; apply step_append_grow; (case hop => rfl); (case hS => exact sl_bytes); (case hv => rfl); (case hown => exact gR); (case hx => rfl); (case hs => exact hs2); (case hg => rfl); (case hn => (rw [List.length_map, digitsOf_len]; rfl)); (case h1c => exact one8 _); (case h63 => (unfold maxLen; omega)); (case hbytes => omega); (case hbase => (have := gA.lt; (try simp); omega)); intro v2 w2 ho2 hg2; have gB := gA.grown hg2 (ne_own (by omega)); have hbf := fin_a hbA hb1 hg2 (by omega))
    | (have gS := Own.new w1 5 #[.int .u8 f, .int .u8 t]; have gR := Own.row (n := 2) gS rfl (show w.heap.size ≤ _ by have := gA.lt; omega) (by unfold maxLen; omega); have hs2 := hs1.below (bl_alloc (bl_refl w1) (.cells #[.int .u8 f, .int .u8 t] 5)); apply step_append_grow; (case hop => rfl); (case hS => exact sl_bytes); (case hv => rfl); (case hown => exact gR); (case hx => rfl); (case hs => exact hs2); (case hg => rfl); (case hn => (rw [List.length_map, digitsOf_len]; rfl)); (case h1c => exact one8 _); (case h63 => (unfold maxLen; omega)); (case hbytes => omega); (case hbase => (have := gA.lt; (try simp); omega)); intro v2 w2 ho2 hg2; have gB := (gA.alloc _).grown hg2 (ne_own (by have := gA.lt; omega)); have hbf := fin_b hbA hb1 hg2 (by have := gA.lt; omega))))
  all_goals clear hg2
  all_goals go_wp2
  all_goals go_ret2
  all_goals exact ⟨v2, rfl, by rw [hL.out, hF.out]; exact ho2, hbf⟩

set_option maxRecDepth 100000 in
set_option maxHeartbeats 400000 in
theorem rfbytes_no1 (f t n : Int) (w : World) (hk : fbOk f t n = false) (hb : (bits BinOp.and IntKind.i64 f 16 != 0) = false) :
    Calls Try.prog 33 #[.agg #[.int .i64 f, .int .i64 t, .int .i64 n]] w fun e w' => e = .returned (.tuple #[.slice none 0 0, .bool false]) ∧ Below w.heap.size w w' := by
  have hfk : fk f = 1 := by unfold fk; rw [hb]; rfl
  have hb0 := bl_alloc (bl_refl w) (.cells #[.int .i64 f, .int .i64 t, .int .i64 n] 53)
  have hbad : f < 0 ∨ 255 < f ∨ t < 0 ∨ 255 < t ∨ n < 0 ∨ 255 < n := by
    unfold fbOk at hk
    rw [hfk] at hk
    have h256 : (256 : Int) ^ (1 : Int).toNat = 255 + 1 := rfl
    rw [h256] at hk
    simp only [Bool.and_eq_false_iff, decide_eq_false_iff_not] at hk
    omega
  clear hk hfk
  have d : (decide (f < 0) || decide (255 < f) || decide (t < 0) || decide (255 < t) || decide (n < 0) || decide (255 < n)) = true := by simp; omega
  go_enter Try.func33, Try.ntmps33
  go_wp2
  all_goals first | (exfalso; omega) | skip
  all_goals go_ret2
  all_goals exact ⟨rfl, hb0⟩

set_option maxRecDepth 100000 in
set_option maxHeartbeats 800000 in
theorem rfbytes_yes2 (f t n : Int) (w : World) (hk : fbOk f t n = true) (hb : (bits BinOp.and IntKind.i64 f 16 != 0) = true) :
    Calls Try.prog 33 #[.agg #[.int .i64 f, .int .i64 t, .int .i64 n]] w fun e w' => ∃ v, e = .returned (.tuple #[v, .bool true]) ∧ w'.ownsRow w.heap.size 5 1 v (fForm f t n).length ((fForm f t n).map (Value.int .u8)) ∧ Below w.heap.size w w' := by
  have hfk : fk f = 2 := by unfold fk; rw [hb]; rfl
  simp only [fbOk, Bool.and_eq_true, decide_eq_true_eq] at hk
  obtain ⟨⟨h1, h2⟩, h3, h4⟩ := hk
  have hF := Lib.hid (show (fForm f t n).map (Value.int .u8) = [Value.int .u8 f, Value.int .u8 t] ++ (digitsOf 2 n).map (Value.int .u8) by unfold fForm; rw [hfk]; rfl)
  have hL := Lib.hid (show (fForm f t n).length = 2 + 2 by unfold fForm; rw [List.length_append, digitsOf_len, hfk]; rfl)
  rw [hfk] at h4
  have hn : n ≤ 65535 := by have : (256 : Int) ^ (2 : Int).toNat = 65535 + 1 := rfl; omega
  have hf0 := h1.1
  have hf1 := h1.2
  have ht0 := h2.1
  have ht1 := h2.2
  have w1f : IntKind.u8.wrap f = f := by rw [IntKind.wrap_u8']; omega
  have w1t : IntKind.u8.wrap t = t := by rw [IntKind.wrap_u8']; omega
  have w1n : IntKind.u32.wrap n = n := by rw [IntKind.wrap_u32']; omega
  have hn32 : n < 4294967296 := by omega
  have g0 := Own.new w 53 #[.int .i64 f, .int .i64 t, .int .i64 n]
  have hb0 := bl_alloc (bl_refl w) (.cells #[.int .i64 f, .int .i64 t, .int .i64 n] 53)
  have hszW : (w.alloc (.cells #[.int .i64 f, .int .i64 t, .int .i64 n] 53)).heap.size = w.heap.size + 1 := by simp
  have c0 := g0.cell (i := 0) (v := .int .i64 f) rfl
  have c1 := g0.cell (i := 1) (v := .int .i64 t) rfl
  have c2 := g0.cell (i := 2) (v := .int .i64 n) rfl
  have hlt := g0.lt
  clear h1 h2 h4 hfk
  go_enter Try.func33, Try.ntmps33
  go_upto_region 8 with (fail)
  generalize w.alloc (.cells #[.int .i64 f, .int .i64 t, .int .i64 n] 53) = W0 at *
  have hbA := hb0
  go_region_held3 (fun W => W.cell? ⟨w.heap.size, 0, none⟩ = some (.int .i64 f) ∧ W.cell? ⟨w.heap.size, 1, none⟩ = some (.int .i64 t) ∧ W.cell? ⟨w.heap.size, 2, none⟩ = some (.int .i64 n)) (first | go_keep | (exact ⟨gB.cell (i := 0) rfl, gB.cell (i := 1) rfl, gB.cell (i := 2) rfl⟩) | (exact ⟨gA.cell (i := 0) rfl, gA.cell (i := 1) rfl, gA.cell (i := 2) rfl⟩)) ((first
    | (go_at_call 77; (with_reducible refine (of_any 2 n _ (by omega) (by omega) h3 hn32).mono ?_); rintro e w1 ⟨v1, rfl, ho1, hb1⟩; obtain ⟨A1, k1, rfl, hk1, hs1⟩ := own_val ho1; (first | have gA := g0.drew.step hb1 | have gA := (g0.drew.alloc _).step hb1))
    | (have gS := rs (Own.new W0 5 #[.int .u8 f, .int .u8 t]) hb1; have gR := Own.row (n := 2) gS rfl (show w.heap.size ≤ _ by omega) (by unfold maxLen; omega); rw [hszW] at gR; have hs2 := hs1; apply step_append_grow; (case hop => rfl); (case hS => exact sl_bytes); (case hv => rfl); (case hown => exact gR); (case hx => rfl); (case hs => exact hs2); (case hg => rfl); (case hn => (rw [List.length_map, digitsOf_len]; rfl)); (case h1c => exact one8 _); (case h63 => (unfold maxLen; omega)); (case hbytes => omega); (case hbase => (have := gA.lt; (try simp); omega)); intro v2 w2 ho2 hg2; have gB := gA.grown hg2 (ne_own (by omega)); have hbf := fin_a hbA hb1 hg2 (by omega))
    | (have gS := Own.new w1 5 #[.int .u8 f, .int .u8 t]; have gR := Own.row (n := 2) gS rfl (show w.heap.size ≤ _ by have := gA.lt; omega) (by unfold maxLen; omega); have hs2 := hs1.below (bl_alloc (bl_refl w1) (.cells #[.int .u8 f, .int .u8 t] 5)); apply step_append_grow; (case hop => rfl); (case hS => exact sl_bytes); (case hv => rfl); (case hown => exact gR); (case hx => rfl); (case hs => exact hs2); (case hg => rfl); (case hn => (rw [List.length_map, digitsOf_len]; rfl)); (case h1c => exact one8 _); (case h63 => (unfold maxLen; omega)); (case hbytes => omega); (case hbase => (have := gA.lt; (try simp); omega)); intro v2 w2 ho2 hg2; have gB := (gA.alloc _).grown hg2 (ne_own (by have := gA.lt; omega)); have hbf := fin_b hbA hb1 hg2 (by have := gA.lt; omega))))
  all_goals clear hg2
  all_goals go_wp2
  all_goals go_ret2
  all_goals exact ⟨v2, rfl, by rw [hL.out, hF.out]; exact ho2, hbf⟩

set_option maxRecDepth 100000 in
set_option maxHeartbeats 400000 in
theorem rfbytes_no2 (f t n : Int) (w : World) (hk : fbOk f t n = false) (hb : (bits BinOp.and IntKind.i64 f 16 != 0) = true) :
    Calls Try.prog 33 #[.agg #[.int .i64 f, .int .i64 t, .int .i64 n]] w fun e w' => e = .returned (.tuple #[.slice none 0 0, .bool false]) ∧ Below w.heap.size w w' := by
  have hfk : fk f = 2 := by unfold fk; rw [hb]; rfl
  have hb0 := bl_alloc (bl_refl w) (.cells #[.int .i64 f, .int .i64 t, .int .i64 n] 53)
  have hbad : f < 0 ∨ 255 < f ∨ t < 0 ∨ 255 < t ∨ n < 0 ∨ 65535 < n := by
    unfold fbOk at hk
    rw [hfk] at hk
    have h256 : (256 : Int) ^ (2 : Int).toNat = 65535 + 1 := rfl
    rw [h256] at hk
    simp only [Bool.and_eq_false_iff, decide_eq_false_iff_not] at hk
    omega
  clear hk hfk
  have d : (decide (f < 0) || decide (255 < f) || decide (t < 0) || decide (255 < t) || decide (n < 0) || decide (65535 < n)) = true := by simp; omega
  go_enter Try.func33, Try.ntmps33
  go_wp2
  all_goals first | (exfalso; omega) | skip
  all_goals go_ret2
  all_goals exact ⟨rfl, hb0⟩

set_option maxRecDepth 100000 in
theorem rfbytes_yes (f t n : Int) (w : World) (hk : fbOk f t n = true) :
    Calls Try.prog 33 #[.agg #[.int .i64 f, .int .i64 t, .int .i64 n]] w fun e w' => ∃ v, e = .returned (.tuple #[v, .bool true]) ∧ w'.ownsRow w.heap.size 5 1 v (fForm f t n).length ((fForm f t n).map (Value.int .u8)) ∧ Below w.heap.size w w' := by
  by_cases hb : (bits BinOp.and IntKind.i64 f 16 != 0) = true
  · exact rfbytes_yes2 f t n w hk hb
  · exact rfbytes_yes1 f t n w hk (by simpa using hb)
set_option maxRecDepth 100000 in
theorem rfbytes_no (f t n : Int) (w : World) (hk : fbOk f t n = false) :
    Calls Try.prog 33 #[.agg #[.int .i64 f, .int .i64 t, .int .i64 n]] w fun e w' => e = .returned (.tuple #[.slice none 0 0, .bool false]) ∧ Below w.heap.size w w' := by
  by_cases hb : (bits BinOp.and IntKind.i64 f 16 != 0) = true
  · exact rfbytes_no2 f t n w hk hb
  · exact rfbytes_no1 f t n w hk (by simpa using hb)
end Go.Proofs.Yteoegejbaahlpaa

/- header.Parse: what its cases share; a marker that is wrong -/
import Derived.Test.YtgahjchngmojlabDoorHdI
namespace Go.Proofs.YtgahjchngmojlabDoor
open Go.RowKit

theorem results_two {P : Program} {fn : Func} {p q : Tmp} {ty ty2 : TypeId} (h : fn.results = #[.cell p ty, .cell q ty2]) (tmps : Array Value) (w : World) (g : Nat) (T : TypeId) (cs : Array Value) (d : TypeDesc) (g2 : Nat) (T2 : TypeId) (cs2 : Array Value) (d2 : TypeDesc)
    (hp : tmps.getD p undef = .pointer (some ⟨g, 0, none⟩)) (hg : Own w g T cs) (hu : P.underlying ty = some d) (hd : (match d with | .struct _ | .array _ _ => true | _ => false) = true) (hi : (P.info? ty).map (·.size) = some cs.size)
    (hp2 : tmps.getD q undef = .pointer (some ⟨g2, 0, none⟩)) (hg2 : Own w g2 T2 cs2) (hu2 : P.underlying ty2 = some d2) (hd2 : (match d2 with | .struct _ | .array _ _ => true | _ => false) = true) (hi2 : (P.info? ty2).map (·.size) = some cs2.size) :
    (results fn tmps).run P w = .ok (.tuple #[.agg cs, .agg cs2]) w := by
  have hp' : tmps[p]?.getD undef = .pointer (some ⟨g, 0, none⟩) := by simpa using hp
  have hp2' : tmps[q]?.getD undef = .pointer (some ⟨g2, 0, none⟩) := by simpa using hp2
  simp [results, h, hp', hp2', asAddr, run_loadVar_row w g T ty cs (0, 0) d hg hu hd hi, run_loadVar_row w g2 T2 ty2 cs2 (0, 0) d2 hg2 hu2 hd2 hi2]
set_option maxRecDepth 100000 in
theorem hd_desc : Tryd.prog.underlying 94 = some (.struct (Tryd.prog.fieldsOf 94)) := by kernel_rfl
set_option maxRecDepth 100000 in
theorem hd_info (a b : Value) : (Tryd.prog.info? 94).map (·.size) = some (#[a, b] : Array Value).size := by kernel_rfl
section
variable {V w : World} {g : Nat} {T : TypeId} {a b c d e h0 h1 v0 v1 v2 v3 v4 : Value}
theorem st7_own1 (h : Own V g T #[a, b]) : Own (((((((V.setCell ⟨g, 0, none⟩ h0).setCell ⟨g, 1, none⟩ h1).setCell ⟨g + 1, 0, none⟩ v0).setCell ⟨g + 1, 1, none⟩ v1).setCell ⟨g + 1, 2, none⟩ v2).setCell ⟨g + 1, 3, none⟩ v3).setCell ⟨g + 1, 4, none⟩ v4) g T #[h0, h1] := by
  have h2 : Own ((V.setCell ⟨g, 0, none⟩ h0).setCell ⟨g, 1, none⟩ h1) g T #[h0, h1] := by simpa using (h.set_ 0 h0).set_ 1 h1
  have hne : g ≠ g + 1 := by omega
  exact ((((h2.far (p := ⟨g + 1, 0, none⟩) hne v0).far (p := ⟨g + 1, 1, none⟩) hne v1).far (p := ⟨g + 1, 2, none⟩) hne v2).far (p := ⟨g + 1, 3, none⟩) hne v3).far (p := ⟨g + 1, 4, none⟩) hne v4
theorem st7_own2 (h : Own V (g + 1) T #[a, b, c, d, e]) : Own (((((((V.setCell ⟨g, 0, none⟩ h0).setCell ⟨g, 1, none⟩ h1).setCell ⟨g + 1, 0, none⟩ v0).setCell ⟨g + 1, 1, none⟩ v1).setCell ⟨g + 1, 2, none⟩ v2).setCell ⟨g + 1, 3, none⟩ v3).setCell ⟨g + 1, 4, none⟩ v4) (g + 1) T #[v0, v1, v2, v3, v4] := by
  have hne : g + 1 ≠ g := by omega
  exact own_five ((h.far (p := ⟨g, 0, none⟩) hne h0).far (p := ⟨g, 1, none⟩) hne h1) v0 v1 v2 v3 v4
theorem st7_far {G : Nat} {cs : Array Value} (h : Own V G T cs) (n1 : G ≠ g) (n2 : G ≠ g + 1) : Own (((((((V.setCell ⟨g, 0, none⟩ h0).setCell ⟨g, 1, none⟩ h1).setCell ⟨g + 1, 0, none⟩ v0).setCell ⟨g + 1, 1, none⟩ v1).setCell ⟨g + 1, 2, none⟩ v2).setCell ⟨g + 1, 3, none⟩ v3).setCell ⟨g + 1, 4, none⟩ v4) G T cs :=
  ((((((h.far (p := ⟨g, 0, none⟩) n1 h0).far (p := ⟨g, 1, none⟩) n1 h1).far (p := ⟨g + 1, 0, none⟩) n2 v0).far (p := ⟨g + 1, 1, none⟩) n2 v1).far (p := ⟨g + 1, 2, none⟩) n2 v2).far (p := ⟨g + 1, 3, none⟩) n2 v3).far (p := ⟨g + 1, 4, none⟩) n2 v4
theorem st7_below (hb : Below w.heap.size w V) (hg : w.heap.size ≤ g) : Below w.heap.size w (((((((V.setCell ⟨g, 0, none⟩ h0).setCell ⟨g, 1, none⟩ h1).setCell ⟨g + 1, 0, none⟩ v0).setCell ⟨g + 1, 1, none⟩ v1).setCell ⟨g + 1, 2, none⟩ v2).setCell ⟨g + 1, 3, none⟩ v3).setCell ⟨g + 1, 4, none⟩ v4) :=
  below_five ((hb.setCell (p := ⟨g, 0, none⟩) hg h0).setCell (p := ⟨g, 1, none⟩) hg h1) (by omega) v0 v1 v2 v3 v4
end
/-- The worlds of header.Parse: options, a header, a verdict. -/
theorem hp_worlds (a0 a1 a2 a3 a4 a5 : Bool) (w : World) : ∃ V, V = ((w.alloc (.cells #[.bool a0, .bool a1, .bool a2, .bool a3, .bool a4, .bool a5] 23)).alloc (.cells #[.int .i64 0, .int .i64 0] 94)).alloc (.cells #[.int .i64 0, .int .i64 0, .int .i64 0, .slice none 0 0, .int .i64 0] 49) ∧
    Own V w.heap.size 23 #[.bool a0, .bool a1, .bool a2, .bool a3, .bool a4, .bool a5] ∧ Own V (w.heap.size + 1) 94 #[.int .i64 0, .int .i64 0] ∧ Own V (w.heap.size + 1 + 1) 49 #[.int .i64 0, .int .i64 0, .int .i64 0, .slice none 0 0, .int .i64 0] ∧
    Below w.heap.size w V ∧ V.heap.size = w.heap.size + 1 + 1 + 1 := by
  refine ⟨_, rfl, ?_, ?_, ?_, bl_alloc (bl_alloc (bl_alloc (bl_refl w) _) _) _, by simp⟩
  · exact ((Own.new w _ _).alloc _).alloc _
  · have h := (Own.new (w.alloc (.cells #[.bool a0, .bool a1, .bool a2, .bool a3, .bool a4, .bool a5] 23)) 94 #[.int .i64 0, .int .i64 0]).alloc (.cells #[.int .i64 0, .int .i64 0, .int .i64 0, .slice none 0 0, .int .i64 0] 49)
    rw [show (w.alloc (.cells #[.bool a0, .bool a1, .bool a2, .bool a3, .bool a4, .bool a5] 23)).heap.size = w.heap.size + 1 by simp] at h
    exact h
  · have h := Own.new ((w.alloc (.cells #[.bool a0, .bool a1, .bool a2, .bool a3, .bool a4, .bool a5] 23)).alloc (.cells #[.int .i64 0, .int .i64 0] 94)) 49 #[.int .i64 0, .int .i64 0, .int .i64 0, .slice none 0 0, .int .i64 0]
    rw [show ((w.alloc (.cells #[.bool a0, .bool a1, .bool a2, .bool a3, .bool a4, .bool a5] 23)).alloc (.cells #[.int .i64 0, .int .i64 0] 94)).heap.size = w.heap.size + 1 + 1 by simp] at h
    exact h
set_option maxRecDepth 100000 in
theorem idx_mark {A : Option Addr} {n c : Nat} {xs : List Int} {w : World} (hx : Bytes w w.heap.size A n xs) (hn : n ≤ 1000000000) (i m : Nat) (him : i < m) (hm : m ≤ n) (hall : ∀ j, j < i → nth xs j = 255) (hne : nth xs i ≠ 255) :
    Calls Tryd.prog 54 #[.slice A m c, .func (.func 55) #[] #[]] w fun e w' => e = .returned (.int .i64 i) ∧ w = w' := by
  have key : ∀ j, j < m → nth (xs.take m) j = nth xs j := fun j hj => by unfold nth; rw [List.getD_eq_getElem?_getD, List.getElem?_take_of_lt hj, List.getD_eq_getElem?_getD]
  refine (idx_any _ rfl A m c (xs.take m) w w.heap.size (hx.front hm) (by omega)).mono ?_
  rintro e w' ⟨rfl, ⟨rfl, h⟩ | ⟨k, hk, rfl, h1, h2⟩⟩
  · exact absurd ((key i him).symm.trans (h i him)) hne
  · have e1 : k = i := by
      rcases Nat.lt_trichotomy k i with h3 | h3 | h3
      · exact absurd ((key k hk).trans (hall k h3)) h2
      · exact h3
      · exact absurd ((key i him).symm.trans (h1 i h3)) hne
    rw [e1]
    exact ⟨rfl, rfl⟩
set_option maxRecDepth 100000 in
theorem idx_none {A : Option Addr} {n c : Nat} {xs : List Int} {w : World} (hx : Bytes w w.heap.size A n xs) (hn : n ≤ 1000000000) (m : Nat) (hm : m ≤ n) (hall : ∀ j, j < m → nth xs j = 255) :
    Calls Tryd.prog 54 #[.slice A m c, .func (.func 55) #[] #[]] w fun e w' => e = .returned (.int .i64 (-1)) ∧ w = w' := by
  have key : ∀ j, j < m → nth (xs.take m) j = nth xs j := fun j hj => by unfold nth; rw [List.getD_eq_getElem?_getD, List.getElem?_take_of_lt hj, List.getD_eq_getElem?_getD]
  refine (idx_any _ rfl A m c (xs.take m) w w.heap.size (hx.front hm) (by omega)).mono ?_
  rintro e w' ⟨rfl, ⟨rfl, h⟩ | ⟨k, hk, rfl, h1, h2⟩⟩
  · exact ⟨rfl, rfl⟩
  · exact absurd ((key k hk).trans (hall k hk)) h2
set_option maxRecDepth 100000 in
set_option maxHeartbeats 3200000 in
theorem hparse_mark (a0 a1 a2 a3 a4 a5 : Bool) (A : Option Addr) (n c : Nat) (xs : List Int) (w : World) (hx : Bytes w w.heap.size A n xs) (hc : n ≤ c) (hn : n ≤ 1000000000) (i : Nat) (hi : i < 16) (hin : i < n) (hall : ∀ j, j < i → nth xs j = 255) (hne : nth xs i ≠ 255) :
    Calls Tryd.prog 43 #[.agg #[.bool a0, .bool a1, .bool a2, .bool a3, .bool a4, .bool a5], .slice A n c] w fun e w' => ∃ G, e = .returned (.tuple #[.agg #[.int .i64 0, .int .i64 0], .agg #[.int .i64 4, .int .i64 1, .int .i64 1, .slice (some ⟨G, 0, none⟩) 0 0, .int .i64 i]]) ∧ Below w.heap.size w w' := by
  obtain ⟨V, hV, oO, oH, oV, hb0, hsz⟩ := hp_worlds a0 a1 a2 a3 a4 a5 w
  have hx1 := (hx.below hb0).more hb0.size
  have HA := Lib.hid hall
  have HE := Lib.hid hne
  clear hall hne
  go_enter Tryd.func43, Tryd.ntmps43
  go_wp2_with fail
  all_goals
    rw [← hV]
    refine (idx_mark hx1 hn i _ (by omega) (by omega) HA.out HE.out).mono ?_
    rintro e w' ⟨rfl, rfl⟩
    clear hV
    go_wp2_with fail
    refine (failure_any 1 i none 0 0 [] _ (Bytes.nil _ _ _) (by omega)).mono ?_
    rintro e w1 ⟨G, rfl, hG, hoG, hb1⟩
    have hbw := bl_trans hb0 hb1
    have pH := oH.step hb1
    have pV := oV.step hb1
    have h0 := pH.cell (i := 0) (v := .int .i64 0) rfl
    have h1 := pH.cell (i := 1) (v := .int .i64 0) rfl
    have v0 := pV.cell (i := 0) (v := .int .i64 0) rfl
    have v1 := pV.cell (i := 1) (v := .int .i64 0) rfl
    have v2 := pV.cell (i := 2) (v := .int .i64 0) rfl
    have v3 := pV.cell (i := 3) (v := .slice none 0 0) rfl
    have v4 := pV.cell (i := 4) (v := .int .i64 0) rfl
    have g0 := pH.frozen 0
    have g1 := pH.frozen 1
    have f0 := pV.frozen 0
    have f1 := pV.frozen 1
    have f2 := pV.frozen 2
    have f3 := pV.frozen 3
    have f4 := pV.frozen 4
    have hlt1 := pH.lt
    have hlt2 := pV.lt
    clear oO oH oV hb1 hb0 hoG hx hx1
    go_wp2
    refine bodyPost_ret (results_two (p := 4) (q := 5) (fn := Tryd.f43) rfl _ _ (w.heap.size + 1) 94 #[.int .i64 0, .int .i64 0] _ (w.heap.size + 1 + 1) 49 #[.int .i64 4, .int .i64 1, .int .i64 1, .slice (some ⟨G, 0, none⟩) 0 0, .int .i64 i] _ rfl (st7_own1 pH) hd_desc rfl (hd_info _ _) rfl (st7_own2 pV) vd_desc rfl (vd_info _ _ _ _ _)) rfl ⟨_, rfl, (st7_below hbw (by omega))⟩
set_option maxRecDepth 100000 in
set_option maxHeartbeats 3200000 in
theorem hparse_short (a0 a1 a2 a3 a4 a5 : Bool) (A : Option Addr) (n c : Nat) (xs : List Int) (w : World) (hx : Bytes w w.heap.size A n xs) (hc : n ≤ c) (hn : n ≤ 1000000000) (hall : ∀ j, j < 16 → j < n → nth xs j = 255) (hs : n < 19) :
    Calls Tryd.prog 43 #[.agg #[.bool a0, .bool a1, .bool a2, .bool a3, .bool a4, .bool a5], .slice A n c] w fun e w' => ∃ G, e = .returned (.tuple #[.agg #[.int .i64 0, .int .i64 0], .agg #[.int .i64 4, .int .i64 1, .int .i64 2, .slice (some ⟨G, 0, none⟩) 0 0, .int .i64 n]]) ∧ Below w.heap.size w w' := by
  obtain ⟨V, hV, oO, oH, oV, hb0, hsz⟩ := hp_worlds a0 a1 a2 a3 a4 a5 w
  have hx1 := (hx.below hb0).more hb0.size
  have HA := Lib.hid hall
  clear hall
  go_enter Tryd.func43, Tryd.ntmps43
  go_wp2_with fail
  all_goals
    rw [← hV]
    refine (idx_none hx1 hn _ (by omega) (fun j hj => HA.out j (by omega) (by omega))).mono ?_
    rintro e w' ⟨rfl, rfl⟩
    clear hV
    go_wp2_with fail
    refine (failure_any 2 n none 0 0 [] _ (Bytes.nil _ _ _) (by omega)).mono ?_
    rintro e w1 ⟨G, rfl, hG, hoG, hb1⟩
    have hbw := bl_trans hb0 hb1
    have pH := oH.step hb1
    have pV := oV.step hb1
    have h0 := pH.cell (i := 0) (v := .int .i64 0) rfl
    have h1 := pH.cell (i := 1) (v := .int .i64 0) rfl
    have v0 := pV.cell (i := 0) (v := .int .i64 0) rfl
    have v1 := pV.cell (i := 1) (v := .int .i64 0) rfl
    have v2 := pV.cell (i := 2) (v := .int .i64 0) rfl
    have v3 := pV.cell (i := 3) (v := .slice none 0 0) rfl
    have v4 := pV.cell (i := 4) (v := .int .i64 0) rfl
    have g0 := pH.frozen 0
    have g1 := pH.frozen 1
    have f0 := pV.frozen 0
    have f1 := pV.frozen 1
    have f2 := pV.frozen 2
    have f3 := pV.frozen 3
    have f4 := pV.frozen 4
    have hlt1 := pH.lt
    have hlt2 := pV.lt
    clear oO oH oV hb1 hb0 hoG hx hx1
    go_wp2
    refine bodyPost_ret (results_two (p := 4) (q := 5) (fn := Tryd.f43) rfl _ _ (w.heap.size + 1) 94 #[.int .i64 0, .int .i64 0] _ (w.heap.size + 1 + 1) 49 #[.int .i64 4, .int .i64 1, .int .i64 2, .slice (some ⟨G, 0, none⟩) 0 0, .int .i64 n] _ rfl (st7_own1 pH) hd_desc rfl (hd_info _ _) rfl (st7_own2 pV) vd_desc rfl (vd_info _ _ _ _ _)) rfl ⟨_, rfl, (st7_below hbw (by omega))⟩
theorem or_byte_h (a x : Int) (h0 : 0 ≤ a) (h1 : a ≤ 255) (hx0 : 0 ≤ x) (hx1 : x ≤ 255) : bits BinOp.or IntKind.i64 (a * 256) x = a * 256 + x := by
  have e1 : (BitVec.ofInt 64 (a * 256)).toNat = a.toNat * 2 ^ 8 := by rw [BitVec.toNat_ofInt]; omega
  have e2 : (BitVec.ofInt 64 x).toNat = x.toNat := by rw [BitVec.toNat_ofInt]; omega
  show IntKind.i64.wrap ((BitVec.ofInt 64 (a * 256) ||| BitVec.ofInt 64 x).toNat : Int) = _
  rw [BitVec.toNat_or, e1, e2, ← Nat.shiftLeft_eq, Nat.shiftLeft_add_eq_or_of_lt (by omega) a.toNat |>.symm, Nat.shiftLeft_eq, IntKind.wrap_i64]
  omega
/-- Bytes 16, 17 and 18 of what came in. -/
theorem Bytes.three {w : World} {B n : Nat} {A : Option Addr} {xs : List Int} (h : Bytes w B A n xs) (hn : 19 ≤ n) :
    ∃ (b o : Nat), A = some ⟨b, o, none⟩ ∧ b < B ∧ w.cell? ⟨b, o + 16, none⟩ = some (.int .u8 (nth xs 16)) ∧ w.cell? ⟨b, o + 17, none⟩ = some (.int .u8 (nth xs 17)) ∧ w.cell? ⟨b, o + 18, none⟩ = some (.int .u8 (nth xs 18)) ∧
      0 ≤ nth xs 16 ∧ nth xs 16 ≤ 255 ∧ 0 ≤ nth xs 17 ∧ nth xs 17 ≤ 255 ∧ 0 ≤ nth xs 18 ∧ nth xs 18 ≤ 255 := by
  obtain ⟨b, o, rfl, hb, c0, l0, u0⟩ := h.at_ (k := 16) (by omega)
  obtain ⟨b1, o1, e1, _, c1, l1, u1⟩ := h.at_ (k := 17) (by omega)
  obtain ⟨b2, o2, e2, _, c2, l2, u2⟩ := h.at_ (k := 18) (by omega)
  obtain ⟨rfl, rfl⟩ : b = b1 ∧ o = o1 := by simpa using e1
  obtain ⟨rfl, rfl⟩ : b = b2 ∧ o = o2 := by simpa using e2
  exact ⟨b, o, rfl, hb, c0, c1, c2, l0, u0, l1, u1, l2, u2⟩
theorem cell_far4 {w : World} {b o g i : Nat} (u : Value) (hne : b ≠ g) : (w.setCell ⟨g, i, none⟩ u).cell? ⟨b, o, none⟩ = w.cell? ⟨b, o, none⟩ := World.cell?_of_block (a := ⟨b, o, none⟩) (Below.heap_setCell w ⟨g, i, none⟩ u b hne)
theorem st7_cell {V : World} {g b o : Nat} (n1 : b ≠ g) (n2 : b ≠ g + 1) (h0 h1 v0 v1 v2 v3 v4 : Value) : (((((((V.setCell ⟨g, 0, none⟩ h0).setCell ⟨g, 1, none⟩ h1).setCell ⟨g + 1, 0, none⟩ v0).setCell ⟨g + 1, 1, none⟩ v1).setCell ⟨g + 1, 2, none⟩ v2).setCell ⟨g + 1, 3, none⟩ v3).setCell ⟨g + 1, 4, none⟩ v4).cell? ⟨b, o, none⟩ = V.cell? ⟨b, o, none⟩ := by
  rw [cell_far4 _ n2, cell_far4 _ n2, cell_far4 _ n2, cell_far4 _ n2, cell_far4 _ n2, cell_far4 _ n1, cell_far4 _ n1]
theorem st2_cell {V : World} {g b o : Nat} (n1 : b ≠ g) (h0 h1 : Value) : ((V.setCell ⟨g, 0, none⟩ h0).setCell ⟨g, 1, none⟩ h1).cell? ⟨b, o, none⟩ = V.cell? ⟨b, o, none⟩ := by
  rw [cell_far4 _ n1, cell_far4 _ n1]
theorem st2_three {w : World} {g b o : Nat} {x y z : Value} (n1 : b ≠ g) (q0 : w.cell? ⟨b, o + 16, none⟩ = some x) (q1 : w.cell? ⟨b, o + 17, none⟩ = some y) (q2 : w.cell? ⟨b, o + 18, none⟩ = some z) (h0 h1 : Value) :
    ((w.setCell ⟨g, 0, none⟩ h0).setCell ⟨g, 1, none⟩ h1).cell? ⟨b, o + 16, none⟩ = some x ∧ ((w.setCell ⟨g, 0, none⟩ h0).setCell ⟨g, 1, none⟩ h1).cell? ⟨b, o + 17, none⟩ = some y ∧ ((w.setCell ⟨g, 0, none⟩ h0).setCell ⟨g, 1, none⟩ h1).cell? ⟨b, o + 18, none⟩ = some z :=
  ⟨(st2_cell n1 h0 h1).trans q0, (st2_cell n1 h0 h1).trans q1, (st2_cell n1 h0 h1).trans q2⟩
theorem st7_three {w : World} {g b o : Nat} {x y z : Value} (n1 : b ≠ g) (n2 : b ≠ g + 1) (q0 : w.cell? ⟨b, o + 16, none⟩ = some x) (q1 : w.cell? ⟨b, o + 17, none⟩ = some y) (q2 : w.cell? ⟨b, o + 18, none⟩ = some z) (h0 h1 v0 v1 v2 v3 v4 : Value) :
    (((((((w.setCell ⟨g, 0, none⟩ h0).setCell ⟨g, 1, none⟩ h1).setCell ⟨g + 1, 0, none⟩ v0).setCell ⟨g + 1, 1, none⟩ v1).setCell ⟨g + 1, 2, none⟩ v2).setCell ⟨g + 1, 3, none⟩ v3).setCell ⟨g + 1, 4, none⟩ v4).cell? ⟨b, o + 16, none⟩ = some x ∧ (((((((w.setCell ⟨g, 0, none⟩ h0).setCell ⟨g, 1, none⟩ h1).setCell ⟨g + 1, 0, none⟩ v0).setCell ⟨g + 1, 1, none⟩ v1).setCell ⟨g + 1, 2, none⟩ v2).setCell ⟨g + 1, 3, none⟩ v3).setCell ⟨g + 1, 4, none⟩ v4).cell? ⟨b, o + 17, none⟩ = some y ∧ (((((((w.setCell ⟨g, 0, none⟩ h0).setCell ⟨g, 1, none⟩ h1).setCell ⟨g + 1, 0, none⟩ v0).setCell ⟨g + 1, 1, none⟩ v1).setCell ⟨g + 1, 2, none⟩ v2).setCell ⟨g + 1, 3, none⟩ v3).setCell ⟨g + 1, 4, none⟩ v4).cell? ⟨b, o + 18, none⟩ = some z := by
  have key : ∀ k, (((((((w.setCell ⟨g, 0, none⟩ h0).setCell ⟨g, 1, none⟩ h1).setCell ⟨g + 1, 0, none⟩ v0).setCell ⟨g + 1, 1, none⟩ v1).setCell ⟨g + 1, 2, none⟩ v2).setCell ⟨g + 1, 3, none⟩ v3).setCell ⟨g + 1, 4, none⟩ v4).cell? ⟨b, k, none⟩ = w.cell? ⟨b, k, none⟩ := fun k => st7_cell n1 n2 h0 h1 v0 v1 v2 v3 v4
  generalize (((((((w.setCell ⟨g, 0, none⟩ h0).setCell ⟨g, 1, none⟩ h1).setCell ⟨g + 1, 0, none⟩ v0).setCell ⟨g + 1, 1, none⟩ v1).setCell ⟨g + 1, 2, none⟩ v2).setCell ⟨g + 1, 3, none⟩ v3).setCell ⟨g + 1, 4, none⟩ v4) = W7 at key ⊢
  exact ⟨(key _).trans q0, (key _).trans q1, (key _).trans q2⟩
set_option maxRecDepth 100000 in
set_option maxHeartbeats 3200000 in
theorem hparse_len (a0 a1 a2 a3 a4 a5 : Bool) (A : Option Addr) (n c : Nat) (xs : List Int) (w : World) (hx : Bytes w w.heap.size A n xs) (hc : n ≤ c) (hn : n ≤ 1000000000) (hall : ∀ j, j < 16 → nth xs j = 255) (hs : 19 ≤ n) (hl : nth xs 16 * 256 + nth xs 17 < 19 ∨ (if a1 then 65535 else 4096) < nth xs 16 * 256 + nth xs 17) :
    Calls Tryd.prog 43 #[.agg #[.bool a0, .bool a1, .bool a2, .bool a3, .bool a4, .bool a5], .slice A n c] w fun e w' => ∃ G, e = .returned (.tuple #[.agg #[.int .i64 0, .int .i64 0], .agg #[.int .i64 4, .int .i64 1, .int .i64 2, .slice (some ⟨G, 0, none⟩) 2 2, .int .i64 16]]) ∧ Own w' G 5 #[.int .u8 (nth xs 16), .int .u8 (nth xs 17)] ∧ Below w.heap.size w w' := by
  obtain ⟨V, hV, oO, oH, oV, hb0, hsz⟩ := hp_worlds a0 a1 a2 a3 a4 a5 w
  have hx1 := (hx.below hb0).more hb0.size
  have HA := Lib.hid hall
  clear hall
  obtain ⟨b, o, rfl, hb, c16, c17, c18, l0, u0, l1, u1, l2, u2⟩ := hx1.three hs
  have hbw0 := hx.three hs
  have hbw : b < w.heap.size := by obtain ⟨b', o', eb, h, _⟩ := hbw0; obtain ⟨rfl, rfl⟩ : b = b' ∧ o = o' := by simpa using eb
                                   exact h
  clear hbw0
  have i16 : (16 : Int) < (n : Int) := by omega
  have i17 : (17 : Int) < (n : Int) := by omega
  have i18 : (18 : Int) < (n : Int) := by omega
  have n1 : b ≠ w.heap.size + 1 := by omega
  have n2 : b ≠ w.heap.size + 1 + 1 := by omega
  have hor := or_byte_h _ _ l0 u0 l1 u1
  have e16 : IntKind.i64.wrap (nth xs 16) = nth xs 16 := by rw [IntKind.wrap_i64]; omega
  have e17 : IntKind.i64.wrap (nth xs 17) = nth xs 17 := by rw [IntKind.wrap_i64]; omega
  have e18 : IntKind.i64.wrap (nth xs 18) = nth xs 18 := by rw [IntKind.wrap_i64]; omega
  have em : IntKind.i64.wrap (nth xs 16 * 256) = nth xs 16 * 256 := by rw [IntKind.wrap_i64]; omega
  have hN : ∃ N, N = nth xs 16 * 256 + nth xs 17 := ⟨_, rfl⟩
  obtain ⟨N, hN⟩ := hN
  rw [← hN] at hor hl
  have HN := Lib.hid hN
  clear hN
  generalize nth xs 16 = y0 at *
  generalize nth xs 17 = y1 at *
  generalize nth xs 18 = y2 at *
  go_enter Tryd.func43, Tryd.ntmps43
  go_wp2_with fail
  rw [← hV]
  refine (idx_none hx1 hn 16 (by omega) (fun j hj => HA.out j hj)).mono ?_
  rintro e w' ⟨rfl, rfl⟩
  clear hV
  go_wp2_with fail
  have HS0 : V.drew.cell? ⟨b, o + 16, none⟩ = some (.int .u8 y0) ∧ V.drew.cell? ⟨b, o + 17, none⟩ = some (.int .u8 y1) ∧ V.drew.cell? ⟨b, o + 18, none⟩ = some (.int .u8 y2) := ⟨c16, c17, c18⟩
  go_region_held3 (fun W => W.cell? ⟨b, o + 16, none⟩ = some (.int .u8 y0) ∧ W.cell? ⟨b, o + 17, none⟩ = some (.int .u8 y1) ∧ W.cell? ⟨b, o + 18, none⟩ = some (.int .u8 y2)) (with_reducible exact HS0) (fail)
  have c1 : V.drew.cell? ⟨w.heap.size, 1, none⟩ = some (.bool a1) := oO.cell rfl
  have hb1 := hb0.drew
  have HH := Lib.hid oH.drew
  have HVV := Lib.hid oV.drew
  have HO := Lib.hid oO.drew
  have HZ := Lib.hid (show w.heap.size + 1 + 1 + 1 ≤ V.drew.heap.size from Nat.le_of_eq hsz.symm)
  clear oO oH oV hb0 hx hx1 hsz
  generalize V.drew = U at *
  have c16 := HS0.1
  have c17 := HS0.2.1
  have c18 := HS0.2.2
  cases a1
  · by_cases h19 : N < 19
    · have d0 : decide (N < 19) = true := by simpa using h19
      clear hl h19
      go_wp2_with fail
      have HS1 : U.drew.cell? ⟨b, o + 16, none⟩ = some (.int .u8 y0) ∧ U.drew.cell? ⟨b, o + 17, none⟩ = some (.int .u8 y1) ∧ U.drew.cell? ⟨b, o + 18, none⟩ = some (.int .u8 y2) := ⟨c16, c17, c18⟩
      have hbU : b < U.heap.size := by have := HZ.out; omega
      have HSA : (U.alloc (.cells #[.int .u8 y0, .int .u8 y1] 5)).drew.cell? ⟨b, o + 16, none⟩ = some (.int .u8 y0) ∧ (U.alloc (.cells #[.int .u8 y0, .int .u8 y1] 5)).drew.cell? ⟨b, o + 17, none⟩ = some (.int .u8 y1) ∧ (U.alloc (.cells #[.int .u8 y0, .int .u8 y1] 5)).drew.cell? ⟨b, o + 18, none⟩ = some (.int .u8 y2) := ⟨((bl_alloc (bl_refl U) _).cell (p := ⟨b, o + 16, none⟩) hbU).trans c16, ((bl_alloc (bl_refl U) _).cell (p := ⟨b, o + 17, none⟩) hbU).trans c17, ((bl_alloc (bl_refl U) _).cell (p := ⟨b, o + 18, none⟩) hbU).trans c18⟩
      have oD := (Own.new U 5 #[.int .u8 y0, .int .u8 y1]).drew
      have hBD := Bytes.of_owned (xs := [y0, y1]) oD (by intro x hx; simp at hx; omega) oD.lt
      have hbA := (bl_alloc (bl_refl U) (.cells #[.int .u8 y0, .int .u8 y1] 5)).drew
      go_region_held3 (fun W => W.cell? ⟨b, o + 16, none⟩ = some (.int .u8 y0) ∧ W.cell? ⟨b, o + 17, none⟩ = some (.int .u8 y1) ∧ W.cell? ⟨b, o + 18, none⟩ = some (.int .u8 y2)) (with_reducible first | exact HS1 | exact HSA | exact HS2 | exact HS3 _ _ | exact HS4 _ _ _ _ _ _ _) ((first
        | (go_at_call 56; (with_reducible refine (failure_any 2 16 _ 2 2 [y0, y1] _ hBD (by omega)).mono ?_); rintro e w1 ⟨G, rfl, hG, hoG, hbf⟩; have hbw := bl_trans hb1 (hbA.trans (hbf.mono (by simp [World.drew]))); have q16 := (hbf.cell (p := ⟨b, o + 16, none⟩) (by simp [World.drew]; omega)).trans HSA.1; have q17 := (hbf.cell (p := ⟨b, o + 17, none⟩) (by simp [World.drew]; omega)).trans HSA.2.1; have q18 := (hbf.cell (p := ⟨b, o + 18, none⟩) (by simp [World.drew]; omega)).trans HSA.2.2; have HS2 : w1.cell? ⟨b, o + 16, none⟩ = some (.int .u8 y0) ∧ w1.cell? ⟨b, o + 17, none⟩ = some (.int .u8 y1) ∧ w1.cell? ⟨b, o + 18, none⟩ = some (.int .u8 y2) := ⟨q16, q17, q18⟩; have HS3 := fun x y => st2_three (w := w1) n1 q16 q17 q18 x y; have HS4 := fun x y z t u v s => st7_three (w := w1) n1 n2 q16 q17 q18 x y z t u v s; have pH := (HH.out.alloc (.cells #[.int .u8 y0, .int .u8 y1] 5)).drew.step hbf; have pV := (HVV.out.alloc (.cells #[.int .u8 y0, .int .u8 y1] 5)).drew.step hbf; have hGs : w.heap.size + 1 + 1 + 1 ≤ G := (by have := HZ.out; simp [World.drew] at hG; omega); have h0 := pH.cell (i := 0) (v := .int .i64 0) rfl; have h1 := pH.cell (i := 1) (v := .int .i64 0) rfl; have v0 := pV.cell (i := 0) (v := .int .i64 0) rfl; have v1 := pV.cell (i := 1) (v := .int .i64 0) rfl; have v2 := pV.cell (i := 2) (v := .int .i64 0) rfl; have v3 := pV.cell (i := 3) (v := .slice none 0 0) rfl; have v4 := pV.cell (i := 4) (v := .int .i64 0) rfl; have g0 := pH.frozen 0; have g1 := pH.frozen 1; have f0 := pV.frozen 0; have f1 := pV.frozen 1; have f2 := pV.frozen 2; have f3 := pV.frozen 3; have f4 := pV.frozen 4; have hlt1 := pH.lt; have hlt2 := pV.lt)))
      go_wp2
      refine bodyPost_ret (results_two (p := 4) (q := 5) (fn := Tryd.f43) rfl _ _ (w.heap.size + 1) 94 #[.int .i64 0, .int .i64 0] _ (w.heap.size + 1 + 1) 49 #[.int .i64 4, .int .i64 1, .int .i64 2, .slice (some ⟨G, 0, none⟩) 2 2, .int .i64 16] _ rfl (st7_own1 pH) hd_desc rfl (hd_info _ _) rfl (st7_own2 pV) vd_desc rfl (vd_info _ _ _ _ _)) rfl ⟨_, rfl, (st7_far hoG (by omega) (by omega)), (st7_below hbw (by omega))⟩
    · have d0 : decide (N < 19) = false := by simpa using h19
      have d1 : decide (4096 < N) = true := by simp at hl ⊢; omega
      clear hl h19
      go_wp2_with fail
      have HS1 : U.drew.cell? ⟨b, o + 16, none⟩ = some (.int .u8 y0) ∧ U.drew.cell? ⟨b, o + 17, none⟩ = some (.int .u8 y1) ∧ U.drew.cell? ⟨b, o + 18, none⟩ = some (.int .u8 y2) := ⟨c16, c17, c18⟩
      have hbU : b < U.heap.size := by have := HZ.out; omega
      have HSA : (U.alloc (.cells #[.int .u8 y0, .int .u8 y1] 5)).drew.cell? ⟨b, o + 16, none⟩ = some (.int .u8 y0) ∧ (U.alloc (.cells #[.int .u8 y0, .int .u8 y1] 5)).drew.cell? ⟨b, o + 17, none⟩ = some (.int .u8 y1) ∧ (U.alloc (.cells #[.int .u8 y0, .int .u8 y1] 5)).drew.cell? ⟨b, o + 18, none⟩ = some (.int .u8 y2) := ⟨((bl_alloc (bl_refl U) _).cell (p := ⟨b, o + 16, none⟩) hbU).trans c16, ((bl_alloc (bl_refl U) _).cell (p := ⟨b, o + 17, none⟩) hbU).trans c17, ((bl_alloc (bl_refl U) _).cell (p := ⟨b, o + 18, none⟩) hbU).trans c18⟩
      have oD := (Own.new U 5 #[.int .u8 y0, .int .u8 y1]).drew
      have hBD := Bytes.of_owned (xs := [y0, y1]) oD (by intro x hx; simp at hx; omega) oD.lt
      have hbA := (bl_alloc (bl_refl U) (.cells #[.int .u8 y0, .int .u8 y1] 5)).drew
      go_region_held3 (fun W => W.cell? ⟨b, o + 16, none⟩ = some (.int .u8 y0) ∧ W.cell? ⟨b, o + 17, none⟩ = some (.int .u8 y1) ∧ W.cell? ⟨b, o + 18, none⟩ = some (.int .u8 y2)) (with_reducible first | exact HS1 | exact HSA | exact HS2 | exact HS3 _ _ | exact HS4 _ _ _ _ _ _ _) ((first
        | (go_at_call 56; (with_reducible refine (failure_any 2 16 _ 2 2 [y0, y1] _ hBD (by omega)).mono ?_); rintro e w1 ⟨G, rfl, hG, hoG, hbf⟩; have hbw := bl_trans hb1 (hbA.trans (hbf.mono (by simp [World.drew]))); have q16 := (hbf.cell (p := ⟨b, o + 16, none⟩) (by simp [World.drew]; omega)).trans HSA.1; have q17 := (hbf.cell (p := ⟨b, o + 17, none⟩) (by simp [World.drew]; omega)).trans HSA.2.1; have q18 := (hbf.cell (p := ⟨b, o + 18, none⟩) (by simp [World.drew]; omega)).trans HSA.2.2; have HS2 : w1.cell? ⟨b, o + 16, none⟩ = some (.int .u8 y0) ∧ w1.cell? ⟨b, o + 17, none⟩ = some (.int .u8 y1) ∧ w1.cell? ⟨b, o + 18, none⟩ = some (.int .u8 y2) := ⟨q16, q17, q18⟩; have HS3 := fun x y => st2_three (w := w1) n1 q16 q17 q18 x y; have HS4 := fun x y z t u v s => st7_three (w := w1) n1 n2 q16 q17 q18 x y z t u v s; have pH := (HH.out.alloc (.cells #[.int .u8 y0, .int .u8 y1] 5)).drew.step hbf; have pV := (HVV.out.alloc (.cells #[.int .u8 y0, .int .u8 y1] 5)).drew.step hbf; have hGs : w.heap.size + 1 + 1 + 1 ≤ G := (by have := HZ.out; simp [World.drew] at hG; omega); have h0 := pH.cell (i := 0) (v := .int .i64 0) rfl; have h1 := pH.cell (i := 1) (v := .int .i64 0) rfl; have v0 := pV.cell (i := 0) (v := .int .i64 0) rfl; have v1 := pV.cell (i := 1) (v := .int .i64 0) rfl; have v2 := pV.cell (i := 2) (v := .int .i64 0) rfl; have v3 := pV.cell (i := 3) (v := .slice none 0 0) rfl; have v4 := pV.cell (i := 4) (v := .int .i64 0) rfl; have g0 := pH.frozen 0; have g1 := pH.frozen 1; have f0 := pV.frozen 0; have f1 := pV.frozen 1; have f2 := pV.frozen 2; have f3 := pV.frozen 3; have f4 := pV.frozen 4; have hlt1 := pH.lt; have hlt2 := pV.lt)))
      go_wp2
      refine bodyPost_ret (results_two (p := 4) (q := 5) (fn := Tryd.f43) rfl _ _ (w.heap.size + 1) 94 #[.int .i64 0, .int .i64 0] _ (w.heap.size + 1 + 1) 49 #[.int .i64 4, .int .i64 1, .int .i64 2, .slice (some ⟨G, 0, none⟩) 2 2, .int .i64 16] _ rfl (st7_own1 pH) hd_desc rfl (hd_info _ _) rfl (st7_own2 pV) vd_desc rfl (vd_info _ _ _ _ _)) rfl ⟨_, rfl, (st7_far hoG (by omega) (by omega)), (st7_below hbw (by omega))⟩
  · by_cases h19 : N < 19
    · have d0 : decide (N < 19) = true := by simpa using h19
      clear hl h19
      go_wp2_with fail
      have HS1 : U.drew.cell? ⟨b, o + 16, none⟩ = some (.int .u8 y0) ∧ U.drew.cell? ⟨b, o + 17, none⟩ = some (.int .u8 y1) ∧ U.drew.cell? ⟨b, o + 18, none⟩ = some (.int .u8 y2) := ⟨c16, c17, c18⟩
      have hbU : b < U.heap.size := by have := HZ.out; omega
      have HSA : (U.alloc (.cells #[.int .u8 y0, .int .u8 y1] 5)).drew.cell? ⟨b, o + 16, none⟩ = some (.int .u8 y0) ∧ (U.alloc (.cells #[.int .u8 y0, .int .u8 y1] 5)).drew.cell? ⟨b, o + 17, none⟩ = some (.int .u8 y1) ∧ (U.alloc (.cells #[.int .u8 y0, .int .u8 y1] 5)).drew.cell? ⟨b, o + 18, none⟩ = some (.int .u8 y2) := ⟨((bl_alloc (bl_refl U) _).cell (p := ⟨b, o + 16, none⟩) hbU).trans c16, ((bl_alloc (bl_refl U) _).cell (p := ⟨b, o + 17, none⟩) hbU).trans c17, ((bl_alloc (bl_refl U) _).cell (p := ⟨b, o + 18, none⟩) hbU).trans c18⟩
      have oD := (Own.new U 5 #[.int .u8 y0, .int .u8 y1]).drew
      have hBD := Bytes.of_owned (xs := [y0, y1]) oD (by intro x hx; simp at hx; omega) oD.lt
      have hbA := (bl_alloc (bl_refl U) (.cells #[.int .u8 y0, .int .u8 y1] 5)).drew
      go_region_held3 (fun W => W.cell? ⟨b, o + 16, none⟩ = some (.int .u8 y0) ∧ W.cell? ⟨b, o + 17, none⟩ = some (.int .u8 y1) ∧ W.cell? ⟨b, o + 18, none⟩ = some (.int .u8 y2)) (with_reducible first | exact HS1 | exact HSA | exact HS2 | exact HS3 _ _ | exact HS4 _ _ _ _ _ _ _) ((first
        | (go_at_call 56; (with_reducible refine (failure_any 2 16 _ 2 2 [y0, y1] _ hBD (by omega)).mono ?_); rintro e w1 ⟨G, rfl, hG, hoG, hbf⟩; have hbw := bl_trans hb1 (hbA.trans (hbf.mono (by simp [World.drew]))); have q16 := (hbf.cell (p := ⟨b, o + 16, none⟩) (by simp [World.drew]; omega)).trans HSA.1; have q17 := (hbf.cell (p := ⟨b, o + 17, none⟩) (by simp [World.drew]; omega)).trans HSA.2.1; have q18 := (hbf.cell (p := ⟨b, o + 18, none⟩) (by simp [World.drew]; omega)).trans HSA.2.2; have HS2 : w1.cell? ⟨b, o + 16, none⟩ = some (.int .u8 y0) ∧ w1.cell? ⟨b, o + 17, none⟩ = some (.int .u8 y1) ∧ w1.cell? ⟨b, o + 18, none⟩ = some (.int .u8 y2) := ⟨q16, q17, q18⟩; have HS3 := fun x y => st2_three (w := w1) n1 q16 q17 q18 x y; have HS4 := fun x y z t u v s => st7_three (w := w1) n1 n2 q16 q17 q18 x y z t u v s; have pH := (HH.out.alloc (.cells #[.int .u8 y0, .int .u8 y1] 5)).drew.step hbf; have pV := (HVV.out.alloc (.cells #[.int .u8 y0, .int .u8 y1] 5)).drew.step hbf; have hGs : w.heap.size + 1 + 1 + 1 ≤ G := (by have := HZ.out; simp [World.drew] at hG; omega); have h0 := pH.cell (i := 0) (v := .int .i64 0) rfl; have h1 := pH.cell (i := 1) (v := .int .i64 0) rfl; have v0 := pV.cell (i := 0) (v := .int .i64 0) rfl; have v1 := pV.cell (i := 1) (v := .int .i64 0) rfl; have v2 := pV.cell (i := 2) (v := .int .i64 0) rfl; have v3 := pV.cell (i := 3) (v := .slice none 0 0) rfl; have v4 := pV.cell (i := 4) (v := .int .i64 0) rfl; have g0 := pH.frozen 0; have g1 := pH.frozen 1; have f0 := pV.frozen 0; have f1 := pV.frozen 1; have f2 := pV.frozen 2; have f3 := pV.frozen 3; have f4 := pV.frozen 4; have hlt1 := pH.lt; have hlt2 := pV.lt)))
      go_wp2
      refine bodyPost_ret (results_two (p := 4) (q := 5) (fn := Tryd.f43) rfl _ _ (w.heap.size + 1) 94 #[.int .i64 0, .int .i64 0] _ (w.heap.size + 1 + 1) 49 #[.int .i64 4, .int .i64 1, .int .i64 2, .slice (some ⟨G, 0, none⟩) 2 2, .int .i64 16] _ rfl (st7_own1 pH) hd_desc rfl (hd_info _ _) rfl (st7_own2 pV) vd_desc rfl (vd_info _ _ _ _ _)) rfl ⟨_, rfl, (st7_far hoG (by omega) (by omega)), (st7_below hbw (by omega))⟩
    · have d0 : decide (N < 19) = false := by simpa using h19
      have d1 : decide (65535 < N) = true := by simp at hl ⊢; omega
      clear hl h19
      go_wp2_with fail
      have HS1 : U.drew.cell? ⟨b, o + 16, none⟩ = some (.int .u8 y0) ∧ U.drew.cell? ⟨b, o + 17, none⟩ = some (.int .u8 y1) ∧ U.drew.cell? ⟨b, o + 18, none⟩ = some (.int .u8 y2) := ⟨c16, c17, c18⟩
      have hbU : b < U.heap.size := by have := HZ.out; omega
      have HSA : (U.alloc (.cells #[.int .u8 y0, .int .u8 y1] 5)).drew.cell? ⟨b, o + 16, none⟩ = some (.int .u8 y0) ∧ (U.alloc (.cells #[.int .u8 y0, .int .u8 y1] 5)).drew.cell? ⟨b, o + 17, none⟩ = some (.int .u8 y1) ∧ (U.alloc (.cells #[.int .u8 y0, .int .u8 y1] 5)).drew.cell? ⟨b, o + 18, none⟩ = some (.int .u8 y2) := ⟨((bl_alloc (bl_refl U) _).cell (p := ⟨b, o + 16, none⟩) hbU).trans c16, ((bl_alloc (bl_refl U) _).cell (p := ⟨b, o + 17, none⟩) hbU).trans c17, ((bl_alloc (bl_refl U) _).cell (p := ⟨b, o + 18, none⟩) hbU).trans c18⟩
      have oD := (Own.new U 5 #[.int .u8 y0, .int .u8 y1]).drew
      have hBD := Bytes.of_owned (xs := [y0, y1]) oD (by intro x hx; simp at hx; omega) oD.lt
      have hbA := (bl_alloc (bl_refl U) (.cells #[.int .u8 y0, .int .u8 y1] 5)).drew
      go_region_held3 (fun W => W.cell? ⟨b, o + 16, none⟩ = some (.int .u8 y0) ∧ W.cell? ⟨b, o + 17, none⟩ = some (.int .u8 y1) ∧ W.cell? ⟨b, o + 18, none⟩ = some (.int .u8 y2)) (with_reducible first | exact HS1 | exact HSA | exact HS2 | exact HS3 _ _ | exact HS4 _ _ _ _ _ _ _) ((first
        | (go_at_call 56; (with_reducible refine (failure_any 2 16 _ 2 2 [y0, y1] _ hBD (by omega)).mono ?_); rintro e w1 ⟨G, rfl, hG, hoG, hbf⟩; have hbw := bl_trans hb1 (hbA.trans (hbf.mono (by simp [World.drew]))); have q16 := (hbf.cell (p := ⟨b, o + 16, none⟩) (by simp [World.drew]; omega)).trans HSA.1; have q17 := (hbf.cell (p := ⟨b, o + 17, none⟩) (by simp [World.drew]; omega)).trans HSA.2.1; have q18 := (hbf.cell (p := ⟨b, o + 18, none⟩) (by simp [World.drew]; omega)).trans HSA.2.2; have HS2 : w1.cell? ⟨b, o + 16, none⟩ = some (.int .u8 y0) ∧ w1.cell? ⟨b, o + 17, none⟩ = some (.int .u8 y1) ∧ w1.cell? ⟨b, o + 18, none⟩ = some (.int .u8 y2) := ⟨q16, q17, q18⟩; have HS3 := fun x y => st2_three (w := w1) n1 q16 q17 q18 x y; have HS4 := fun x y z t u v s => st7_three (w := w1) n1 n2 q16 q17 q18 x y z t u v s; have pH := (HH.out.alloc (.cells #[.int .u8 y0, .int .u8 y1] 5)).drew.step hbf; have pV := (HVV.out.alloc (.cells #[.int .u8 y0, .int .u8 y1] 5)).drew.step hbf; have hGs : w.heap.size + 1 + 1 + 1 ≤ G := (by have := HZ.out; simp [World.drew] at hG; omega); have h0 := pH.cell (i := 0) (v := .int .i64 0) rfl; have h1 := pH.cell (i := 1) (v := .int .i64 0) rfl; have v0 := pV.cell (i := 0) (v := .int .i64 0) rfl; have v1 := pV.cell (i := 1) (v := .int .i64 0) rfl; have v2 := pV.cell (i := 2) (v := .int .i64 0) rfl; have v3 := pV.cell (i := 3) (v := .slice none 0 0) rfl; have v4 := pV.cell (i := 4) (v := .int .i64 0) rfl; have g0 := pH.frozen 0; have g1 := pH.frozen 1; have f0 := pV.frozen 0; have f1 := pV.frozen 1; have f2 := pV.frozen 2; have f3 := pV.frozen 3; have f4 := pV.frozen 4; have hlt1 := pH.lt; have hlt2 := pV.lt)))
      go_wp2
      refine bodyPost_ret (results_two (p := 4) (q := 5) (fn := Tryd.f43) rfl _ _ (w.heap.size + 1) 94 #[.int .i64 0, .int .i64 0] _ (w.heap.size + 1 + 1) 49 #[.int .i64 4, .int .i64 1, .int .i64 2, .slice (some ⟨G, 0, none⟩) 2 2, .int .i64 16] _ rfl (st7_own1 pH) hd_desc rfl (hd_info _ _) rfl (st7_own2 pV) vd_desc rfl (vd_info _ _ _ _ _)) rfl ⟨_, rfl, (st7_far hoG (by omega) (by omega)), (st7_below hbw (by omega))⟩
end Go.Proofs.YtgahjchngmojlabDoor

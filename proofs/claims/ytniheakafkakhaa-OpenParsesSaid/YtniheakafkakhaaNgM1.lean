/- XNgM1: XNgA, XNgB, XNgC, XNgD, XNgE, XNgI in one text -/
import Derived.Test.YtniheakafkakhaaCqR
import Derived.Test.YtniheakafkakhaaCpD
import Derived.Deep.DeepCutAuto
/- negotiate: what an end says -/
namespace Go.Proofs.Ytniheakafkakhaa
open Go.RowKit

/-- An end in memory: its numbers and its capabilities. -/
def endA (p q r : Int) (A : Option Addr) (n c : Nat) : Array Value := #[.int .u32 p, .int .i64 q, .int .u32 r, .slice A n c]
theorem own_end {w : World} {g : Nat} {T : TypeId} {p q r : Int} {A : Option Addr} {n c : Nat} (h : Own w g T #[.int .u32 p, .int .i64 q, .int .u32 r, .slice A n c]) :
    w.cell? ⟨g, 0, none⟩ = some (.int .u32 p) ∧ w.cell? ⟨g, 1, none⟩ = some (.int .i64 q) ∧ w.cell? ⟨g, 2, none⟩ = some (.int .u32 r) ∧ w.cell? ⟨g, 3, none⟩ = some (.slice A n c) := ⟨h.cell rfl, h.cell rfl, h.cell rfl, h.cell rfl⟩
def givesB (m : Int) : Bool := m == 2 || m == 3
def takesB (m : Int) : Bool := m == 1 || m == 3
end Go.Proofs.Ytniheakafkakhaa

/- negotiate.toward -/
namespace Go.Proofs.Ytniheakafkakhaa
open Go.RowKit

/-- The options of one direction. -/
def towK (K M : List (Int × List Int)) : Array Value := #[.bool ((sysK K).isSome && (sysK M).isSome), .bool (hasK 6 0 K && hasK 6 0 M), .bool (famK 1 K && famK 1 M), .bool (famK 2 K && famK 2 M), .bool (givesB (modK 1 K) && takesB (modK 1 M)), .bool ((givesB (modK 2 K) && takesB (modK 2 M)) && (famK 2 K && famK 2 M))]
def fndA (x0 x1 x2 x3 x4 x5 : Bool) : Nat → Array Value
  | 0 => #[.bool false, .bool false, .bool false, .bool false, .bool false, .bool false]
  | 1 => #[.bool x0, .bool false, .bool false, .bool false, .bool false, .bool false]
  | 2 => #[.bool x0, .bool x1, .bool false, .bool false, .bool false, .bool false]
  | 3 => #[.bool x0, .bool x1, .bool x2, .bool false, .bool false, .bool false]
  | 4 => #[.bool x0, .bool x1, .bool x2, .bool x3, .bool false, .bool false]
  | 5 => #[.bool x0, .bool x1, .bool x2, .bool x3, .bool x4, .bool false]
  | _ => #[.bool x0, .bool x1, .bool x2, .bool x3, .bool x4, .bool x5]
theorem own_six {w : World} {g : Nat} {T : TypeId} {a0 a1 a2 a3 a4 a5 : Value} (h : Own w g T #[a0, a1, a2, a3, a4, a5]) :
    w.cell? ⟨g, 0, none⟩ = some a0 ∧ w.cell? ⟨g, 1, none⟩ = some a1 ∧ w.cell? ⟨g, 2, none⟩ = some a2 ∧ w.cell? ⟨g, 3, none⟩ = some a3 ∧ w.cell? ⟨g, 4, none⟩ = some a4 ∧ w.cell? ⟨g, 5, none⟩ = some a5 := ⟨h.cell rfl, h.cell rfl, h.cell rfl, h.cell rfl, h.cell rfl, h.cell rfl⟩
theorem own_twoF {w : World} {g : Nat} {T : TypeId} {a0 a1 : Value} (h : Own w g T #[a0, a1]) : w.cell? ⟨g, 0, none⟩ = some a0 ∧ w.cell? ⟨g, 1, none⟩ = some a1 := ⟨h.cell rfl, h.cell rfl⟩
theorem five_boxesN (w : World) (c0 c1 c2 c3 c4 : Array Value) (t0 t1 t2 t3 t4 : TypeId) : ∃ W, W = (((((w.alloc (.cells c0 t0)).alloc (.cells c1 t1)).alloc (.cells c2 t2)).alloc (.cells c3 t3)).alloc (.cells c4 t4)) ∧ Own W w.heap.size t0 c0 ∧ Own W (w.heap.size + 1) t1 c1 ∧ Own W (w.heap.size + 1 + 1) t2 c2 ∧ Own W (w.heap.size + 1 + 1 + 1) t3 c3 ∧ Own W (w.heap.size + 1 + 1 + 1 + 1) t4 c4 ∧ Below w.heap.size w W ∧ W.heap.size = w.heap.size + 1 + 1 + 1 + 1 + 1 := by
  have s1 : (w.alloc (.cells c0 t0)).heap.size = w.heap.size + 1 := by simp
  have s2 : ((w.alloc (.cells c0 t0)).alloc (.cells c1 t1)).heap.size = w.heap.size + 1 + 1 := by simp
  have s3 : (((w.alloc (.cells c0 t0)).alloc (.cells c1 t1)).alloc (.cells c2 t2)).heap.size = w.heap.size + 1 + 1 + 1 := by simp
  have s4 : ((((w.alloc (.cells c0 t0)).alloc (.cells c1 t1)).alloc (.cells c2 t2)).alloc (.cells c3 t3)).heap.size = w.heap.size + 1 + 1 + 1 + 1 := by simp
  have o1 := Own.new (w.alloc (.cells c0 t0)) t1 c1
  have o2 := Own.new ((w.alloc (.cells c0 t0)).alloc (.cells c1 t1)) t2 c2
  have o3 := Own.new (((w.alloc (.cells c0 t0)).alloc (.cells c1 t1)).alloc (.cells c2 t2)) t3 c3
  have o4 := Own.new ((((w.alloc (.cells c0 t0)).alloc (.cells c1 t1)).alloc (.cells c2 t2)).alloc (.cells c3 t3)) t4 c4
  rw [s1] at o1
  rw [s2] at o2
  rw [s3] at o3
  rw [s4] at o4
  exact ⟨_, rfl, (((((Own.new w t0 c0).alloc _).alloc _).alloc _).alloc _), ((o1.alloc _).alloc _).alloc _, (o2.alloc _).alloc _, o3.alloc _, o4, bl_alloc (bl_alloc (bl_alloc (bl_alloc (bl_alloc (bl_refl w) _) _) _) _) _, by simp⟩
theorem results_cell1N {P : Program} {fn : Func} {p : Tmp} {ty : TypeId} (h : fn.results = #[.cell p ty]) (tmps : Array Value) (w : World) (g : Nat) (T : TypeId) (cs : Array Value) (d : TypeDesc)
    (hp : tmps.getD p undef = .pointer (some ⟨g, 0, none⟩)) (hg : Own w g T cs) (hu : P.underlying ty = some d) (hd : (match d with | .struct _ | .array _ _ => true | _ => false) = true) (hi : (P.info? ty).map (·.size) = some cs.size) :
    (results fn tmps).run P w = .ok (.agg cs) w := by
  have hp' : tmps[p]?.getD undef = .pointer (some ⟨g, 0, none⟩) := by simpa using hp
  simp [results, h, hp', asAddr, run_loadVar_row w g T ty cs (0, 0) d hg hu hd hi]
@[go_sem] theorem run_store_fnN (P : Program) (w : World) (a : Addr) (f : Fn) (ts cs : Array Value) (m : Mode) : (store a (.func f ts cs) m).run P w = stored P w a (.func f ts cs) m := run_store P w a _ m rfl
end Go.Proofs.Ytniheakafkakhaa

/- layer 22: Given, Between, Hold, Winner, Internal -/
namespace Go.Proofs.Ytniheakafkakhaa
open Go.RowKit

set_option maxRecDepth 100000 in
theorem op_descN : Try.prog.underlying 27 = some (.struct (Try.prog.fieldsOf 27)) := by kernel_rfl
set_option maxRecDepth 100000 in
theorem op_infoN (a b c d : Value) : (Try.prog.info? 27).map (·.size) = some (#[a, b, c, d] : Array Value).size := by kernel_rfl

/-- Cells that can be no capabilities'. -/
def NoCap (cs : Array Value) : Prop := (∀ o : Nat, ¬ ((∃ k : Int, cs[o]? = some (Value.int .i64 k)) ∧ ∃ (a : Option Addr) (n c : Nat), cs[o + 1]? = some (Value.slice a n c))) ∧ ∀ (o : Nat) (z : Int), cs[o]? ≠ some (Value.int .u8 z)
theorem noCap_open (p q r : Int) (v : Value) (hv : ∀ z, v ≠ .int .u8 z) (_hv2 : ∀ z, v ≠ .int .i64 z) : NoCap #[.int .u32 p, .int .i64 q, .int .u32 r, v] := by
  refine ⟨fun o => ?_, fun o z => ?_⟩
  · match o with
    | 0 => simp
    | 1 => simp
    | 2 => simp
    | 3 => simp
    | o + 4 => simp
  · match o with
    | 0 => simp
    | 1 => simp
    | 2 => simp
    | 3 => simpa using hv z
    | o + 4 => simp
theorem noCap_opts (a b c d e f : Bool) : NoCap #[.bool a, .bool b, .bool c, .bool d, .bool e, .bool f] := by
  refine ⟨fun o => ?_, fun o z => ?_⟩
  · match o with
    | 0 => simp
    | 1 => simp
    | 2 => simp
    | 3 => simp
    | 4 => simp
    | 5 => simp
    | o + 6 => simp
  · match o with
    | 0 => simp
    | 1 => simp
    | 2 => simp
    | 3 => simp
    | 4 => simp
    | 5 => simp
    | o + 6 => simp
theorem own_get {w : World} {g o : Nat} {T : TypeId} {cs : Array Value} {v : Value} (h : Own w g T cs) (hc : w.cell? ⟨g, o, none⟩ = some v) : cs[o]? = some v := (cell_of_row w g o cs T (0, 0) h).symm.trans hc
theorem Caps.otherW {w : World} {B n g : Nat} {A : Option Addr} {ss : List Cp} {T : TypeId} {cs : Array Value} (h : Caps w B A n ss) (ho : Own w g T cs) (hc : NoCap cs) (i : Nat) (u : Value) : Caps (w.setCell ⟨g, i, none⟩ u) B A n ss := by
  obtain ⟨hn, hs, h0⟩ := h
  have far : ∀ b o, b ≠ g → (w.setCell ⟨g, i, none⟩ u).cell? ⟨b, o, none⟩ = w.cell? ⟨b, o, none⟩ := fun b o hb => World.cell?_setCell_other _ _ _ _ (by simp only [ne_eq, Addr.mk.injEq]; omega)
  refine ⟨hn, fun s m => ⟨⟨(hs s m).1.1, (hs s m).1.2.1, ?_⟩, (hs s m).2⟩, ?_⟩
  · rcases (hs s m).1.2.2 with h1 | ⟨b, o, hA, hB, hcell⟩
    · exact .inl h1
    · by_cases hx : s.xs = []
      · left
        rw [hx]
        rfl
      · refine .inr ⟨b, o, hA, hB, fun j v hj => ?_⟩
        have hbg : b ≠ g := by
          intro e
          subst e
          match hxs : s.xs with
          | [] => exact hx hxs
          | x :: xs =>
            have := hcell 0 (.int .u8 x) (by rw [hxs]; rfl)
            exact hc.2 _ x (own_get ho this)
        rw [far b _ hbg]
        exact hcell j v hj
  · rcases h0 with h0 | ⟨b, o, hA, hB, hcell⟩
    · exact .inl h0
    · match hss : ss with
      | [] => exact .inl rfl
      | s :: rest =>
        have hbg : b ≠ g := by
          intro e
          subst e
          have h2 := hcell 0 s rfl
          exact hc.1 _ ⟨⟨_, own_get ho h2.1⟩, ⟨_, _, _, own_get ho h2.2⟩⟩
        refine .inr ⟨b, o, hA, hB, fun j v hj => ?_⟩
        rw [far b _ hbg, far b _ hbg]
        exact hcell j v hj
set_option maxRecDepth 100000 in
set_option maxHeartbeats 1600000 in
theorem given17_any (p q r : Int) (A : Option Addr) (n c : Nat) (ss : List Cp) (w : World) (h : Caps w w.heap.size A n ss) (hn : n ≤ 100000) :
    Calls Try.prog 15 #[.agg #[.int .u32 p, .int .i64 q, .int .u32 r, .slice A n c]] w fun e w' => ∃ A' c', e = .returned (.agg #[.int .u32 p, .int .i64 q, .int .u32 r, .slice A' n c']) ∧ Caps w' w'.heap.size A' n ss ∧ Below w.heap.size w w' := by
  have hb0 := bl_alloc (bl_alloc (bl_refl w) (.cells #[.int .u32 p, .int .i64 q, .int .u32 r, .slice A n c] 34)) (.cells #[.int .u32 0, .int .i64 0, .int .u32 0, .slice none 0 0] 27)
  have o0 := (Own.new w 34 #[.int .u32 p, .int .i64 q, .int .u32 r, .slice A n c]).alloc (.cells #[.int .u32 0, .int .i64 0, .int .u32 0, .slice none 0 0] 27)
  have o1 := Own.new (w.alloc (.cells #[.int .u32 p, .int .i64 q, .int .u32 r, .slice A n c] 34)) 27 #[.int .u32 0, .int .i64 0, .int .u32 0, .slice none 0 0]
  have HC := Lib.hid (h.step hb0)
  rw [show (w.alloc (.cells #[.int .u32 p, .int .i64 q, .int .u32 r, .slice A n c] 34)).heap.size = w.heap.size + 1 by simp] at o1
  clear h
  go_enter Try.func15, Try.ntmps15
  go_wp2_with fail
  generalize ((w.alloc (.cells #[.int .u32 p, .int .i64 q, .int .u32 r, .slice A n c] 34)).alloc (.cells #[.int .u32 0, .int .i64 0, .int .u32 0, .slice none 0 0] 27)) = X at *
  refine wp_region_held_drew (S := (fun X => Own X w.heap.size 34 #[.int .u32 p, .int .i64 q, .int .u32 r, .slice A n c])) (by kernel_rfl) o0.drew (fun hHeld => ?_)
  refine wpAnyH_take (i := 0) (v := ?_) rfl (by kernel_rfl) (by kernel_rfl) (by kernel_rfl) (fun _ _ _ h => h) (Or.inl ⟨by rfl, ?_⟩) (by assumption) ?_
  rotate_left
  · (intro W hSw; have s0 : Own W w.heap.size 34 #[.int .u32 p, .int .i64 q, .int .u32 r, .slice A n c] := hSw; obtain ⟨e0, e1, e2, e3⟩ := own_end s0; go_simp; try with_reducible rfl)
  simp only [Act.put, List.getElem_toArray, List.getElem_cons_zero, List.setIfInBounds_toArray, List.set_cons_zero, List.set_cons_succ]
  refine wpAnyH_take (i := 1) (v := ?_) rfl (by kernel_rfl) (by kernel_rfl) (by kernel_rfl) (fun _ _ _ h => h) (Or.inl ⟨by rfl, ?_⟩) (by assumption) ?_
  rotate_left
  · (intro W hSw; have s0 : Own W w.heap.size 34 #[.int .u32 p, .int .i64 q, .int .u32 r, .slice A n c] := hSw; obtain ⟨e0, e1, e2, e3⟩ := own_end s0; go_simp; try with_reducible rfl)
  simp only [Act.put, List.getElem_toArray, List.getElem_cons_zero, List.getElem_cons_succ, List.setIfInBounds_toArray, List.set_cons_zero, List.set_cons_succ]
  refine wpAnyH_take (i := 2) (v := ?_) rfl (by kernel_rfl) (by kernel_rfl) (by kernel_rfl) (fun _ _ _ h => h) (Or.inl ⟨by rfl, ?_⟩) (by assumption) ?_
  rotate_left
  · (intro W hSw; have s0 : Own W w.heap.size 34 #[.int .u32 p, .int .i64 q, .int .u32 r, .slice A n c] := hSw; obtain ⟨e0, e1, e2, e3⟩ := own_end s0; go_simp; try with_reducible rfl)
  simp only [Act.put, List.getElem_toArray, List.getElem_cons_zero, List.getElem_cons_succ, List.setIfInBounds_toArray, List.set_cons_zero, List.set_cons_succ]
  refine wpAnyH_take (i := 3) (v := ?_) rfl (by kernel_rfl) (by kernel_rfl) (by kernel_rfl) (fun _ _ _ h => h) (Or.inl ⟨by rfl, ?_⟩) (by assumption) ?_
  rotate_left
  · (intro W hSw; have s0 : Own W w.heap.size 34 #[.int .u32 p, .int .i64 q, .int .u32 r, .slice A n c] := hSw; obtain ⟨e0, e1, e2, e3⟩ := own_end s0; go_simp; try with_reducible rfl)
  simp only [Act.put, List.getElem_toArray, List.getElem_cons_zero, List.getElem_cons_succ, List.setIfInBounds_toArray, List.set_cons_zero, List.set_cons_succ]
  refine wpAnyH_take (i := 4) (v := ?_) rfl (by kernel_rfl) (by kernel_rfl) (by kernel_rfl) (fun _ _ _ h => h) (Or.inl ⟨by rfl, ?_⟩) (by assumption) ?_
  rotate_left
  · (intro W hSw; have s0 : Own W w.heap.size 34 #[.int .u32 p, .int .i64 q, .int .u32 r, .slice A n c] := hSw; obtain ⟨e0, e1, e2, e3⟩ := own_end s0; go_simp; try with_reducible rfl)
  simp only [Act.put, List.getElem_toArray, List.getElem_cons_zero, List.getElem_cons_succ, List.setIfInBounds_toArray, List.set_cons_zero, List.set_cons_succ]
  refine wpAnyH_take (i := 5) (v := ?_) rfl (by kernel_rfl) (by kernel_rfl) (by kernel_rfl) (fun _ _ _ h => h) (Or.inl ⟨by rfl, ?_⟩) (by assumption) ?_
  rotate_left
  · (intro W hSw; have s0 : Own W w.heap.size 34 #[.int .u32 p, .int .i64 q, .int .u32 r, .slice A n c] := hSw; obtain ⟨e0, e1, e2, e3⟩ := own_end s0; go_simp; try with_reducible rfl)
  simp only [Act.put, List.getElem_toArray, List.getElem_cons_zero, List.getElem_cons_succ, List.setIfInBounds_toArray, List.set_cons_zero, List.set_cons_succ]
  refine wpAnyH_take (i := 6) (v := ?_) rfl (by kernel_rfl) (by kernel_rfl) (by kernel_rfl) (fun _ _ _ h => h) (Or.inl ⟨by rfl, ?_⟩) (by assumption) ?_
  rotate_left
  · (intro W hSw; have s0 : Own W w.heap.size 34 #[.int .u32 p, .int .i64 q, .int .u32 r, .slice A n c] := hSw; obtain ⟨e0, e1, e2, e3⟩ := own_end s0; go_simp; try with_reducible rfl)
  simp only [Act.put, List.getElem_toArray, List.getElem_cons_zero, List.getElem_cons_succ, List.setIfInBounds_toArray, List.set_cons_zero, List.set_cons_succ]
  refine wpAnyH_take (i := 7) (v := ?_) rfl (by kernel_rfl) (by kernel_rfl) (by kernel_rfl) (fun _ _ _ h => h) (Or.inl ⟨by rfl, ?_⟩) (by assumption) ?_
  rotate_left
  · (intro W hSw; have s0 : Own W w.heap.size 34 #[.int .u32 p, .int .i64 q, .int .u32 r, .slice A n c] := hSw; obtain ⟨e0, e1, e2, e3⟩ := own_end s0; go_simp; try with_reducible rfl)
  simp only [Act.put, List.getElem_toArray, List.getElem_cons_zero, List.getElem_cons_succ, List.setIfInBounds_toArray, List.set_cons_zero, List.set_cons_succ]
  refine wpAnyH_ready (rs := [8]) (by kernel_rfl) (by simp) ?_
  refine (AllReadyH.cons rfl (fun K hK => ?_) AllReadyH.nil)
  go_simp
  go_at_call 39
  refine (given_any A n c ss X.drew (HC.out.step (bl_drewN (bl_refl X) 1)) hn).mono ?_
  rintro e w2 ⟨A2, c2, rfl, hC2, hb2⟩
  have hb3 := bl_trans (bl_drewN (bl_refl X) 1) hb2
  have o2 := o0.step hb3
  have o3 := o1.step hb3
  refine hK.out _ _ o2 (fun hHeld2 => ?_)
  clear hK K hHeld
  have hHeld := hHeld2
  clear hHeld2
  try simp only [Act.put, List.getElem_toArray, List.getElem_cons_zero, List.getElem_cons_succ, List.setIfInBounds_toArray, List.set_cons_zero, List.set_cons_succ]
  refine wpAnyH_take (i := 9) (v := ?_) rfl (by kernel_rfl) (by kernel_rfl) (by kernel_rfl) (fun _ _ _ h => h) (Or.inl ⟨by rfl, ?_⟩) (by assumption) ?_
  rotate_left
  · (intro W hSw; skip; go_simp; try with_reducible rfl)
  simp only [Act.put, List.getElem_toArray, List.getElem_cons_zero, List.getElem_cons_succ, List.setIfInBounds_toArray, List.set_cons_zero, List.set_cons_succ]
  have oZ := (((o3.set_ 0 (.int .u32 p)).set_ 1 (.int .i64 q)).set_ 2 (.int .u32 r)).set_ 3 (.slice A2 n c2)
  have hbx := bl_trans hb0 hb3
  have hl1 : w.heap.size ≤ w.heap.size + 1 := by omega
  have hl2 := hbx.size
  have hl3 : w2.heap.size ≤ w2.heap.size := Nat.le_refl _
  have hbZ := (((hbx.setCell (p := ⟨w.heap.size + 1, 0, none⟩) hl1 (.int .u32 p)).setCell (p := ⟨w.heap.size + 1, 1, none⟩) hl1 (.int .i64 q)).setCell (p := ⟨w.heap.size + 1, 2, none⟩) hl1 (.int .u32 r)).setCell (p := ⟨w.heap.size + 1, 3, none⟩) hl1 (.slice A2 n c2)
  have hCZ : Caps ((((w2.setCell ⟨w.heap.size + 1, 0, none⟩ (.int .u32 p)).setCell ⟨w.heap.size + 1, 1, none⟩ (.int .i64 q)).setCell ⟨w.heap.size + 1, 2, none⟩ (.int .u32 r)).setCell ⟨w.heap.size + 1, 3, none⟩ (.slice A2 n c2)) w2.heap.size A2 n ss := (((hC2.otherW o3 (noCap_open 0 0 0 _ (by simp) (by simp)) 0 (.int .u32 p)).otherW (o3.set_ 0 (.int .u32 p)) (noCap_open p 0 0 _ (by simp) (by simp)) 1 (.int .i64 q)).otherW ((o3.set_ 0 (.int .u32 p)).set_ 1 (.int .i64 q)) (noCap_open p q 0 _ (by simp) (by simp)) 2 (.int .u32 r)).otherW (((o3.set_ 0 (.int .u32 p)).set_ 1 (.int .i64 q)).set_ 2 (.int .u32 r)) (noCap_open p q r _ (by simp) (by simp)) 3 (.slice A2 n c2)
  have oY := (((o2.far (p := ⟨w.heap.size + 1, 0, none⟩) (by show _ ≠ _; simp <;> omega) (.int .u32 p)).far (p := ⟨w.heap.size + 1, 1, none⟩) (by show _ ≠ _; simp <;> omega) (.int .i64 q)).far (p := ⟨w.heap.size + 1, 2, none⟩) (by show _ ≠ _; simp <;> omega) (.int .u32 r)).far (p := ⟨w.heap.size + 1, 3, none⟩) (by show _ ≠ _; simp <;> omega) (.slice A2 n c2)
  refine wpAnyH_ready (rs := [10]) (by kernel_rfl) (by simp) ?_
  refine (AllReadyH.cons rfl (fun K hK => ?_) AllReadyH.nil)
  have z0 := o3.frozen 0
  have z1 := o3.frozen 1
  have z2 := o3.frozen 2
  have z3 := o3.frozen 3
  obtain ⟨y0, y1, y2, y3⟩ := own_end o3
  go_simp
  refine hK.out _ _ oY (fun hHeld2 => ?_)
  clear hK K hHeld
  have hHeld := hHeld2
  clear hHeld2
  try simp only [Act.put, List.getElem_toArray, List.getElem_cons_zero, List.getElem_cons_succ, List.setIfInBounds_toArray, List.set_cons_zero, List.set_cons_succ]
  refine wpAnyH_done (by kernel_rfl) ?_ _
  go_wp2
  exact bodyPost_ret (results_cell1N (p := 2) (fn := Try.f15) rfl _ _ (w.heap.size + 1) 27 #[.int .u32 p, .int .i64 q, .int .u32 r, .slice A2 n c2] _ rfl oZ op_descN rfl (op_infoN _ _ _ _)) rfl ⟨A2, c2, rfl, hCZ.more (by simp), hbZ⟩
end Go.Proofs.Ytniheakafkakhaa

/- layer 22: Between, Hold, Internal, Winner -/
namespace Go.Proofs.Ytniheakafkakhaa
open Go.RowKit

theorem four_boxesN (w : World) (c0 c1 c2 c3 : Array Value) (t0 t1 t2 t3 : TypeId) : ∃ W, W = ((((w.alloc (.cells c0 t0)).alloc (.cells c1 t1)).alloc (.cells c2 t2)).alloc (.cells c3 t3)) ∧ Own W w.heap.size t0 c0 ∧ Own W (w.heap.size + 1) t1 c1 ∧ Own W (w.heap.size + 1 + 1) t2 c2 ∧ Own W (w.heap.size + 1 + 1 + 1) t3 c3 ∧ Below w.heap.size w W ∧ W.heap.size = w.heap.size + 1 + 1 + 1 + 1 := by
  have s1 : (w.alloc (.cells c0 t0)).heap.size = w.heap.size + 1 := by simp
  have s2 : ((w.alloc (.cells c0 t0)).alloc (.cells c1 t1)).heap.size = w.heap.size + 1 + 1 := by simp
  have s3 : (((w.alloc (.cells c0 t0)).alloc (.cells c1 t1)).alloc (.cells c2 t2)).heap.size = w.heap.size + 1 + 1 + 1 := by simp
  have o1 := Own.new (w.alloc (.cells c0 t0)) t1 c1
  have o2 := Own.new ((w.alloc (.cells c0 t0)).alloc (.cells c1 t1)) t2 c2
  have o3 := Own.new (((w.alloc (.cells c0 t0)).alloc (.cells c1 t1)).alloc (.cells c2 t2)) t3 c3
  rw [s1] at o1
  rw [s2] at o2
  rw [s3] at o3
  exact ⟨_, rfl, ((((Own.new w t0 c0).alloc _).alloc _).alloc _), ((o1.alloc _).alloc _), o2.alloc _, o3, bl_alloc (bl_alloc (bl_alloc (bl_alloc (bl_refl w) _) _) _) _, by simp⟩
theorem two_boxesN (w : World) (c0 c1 : Array Value) (t0 t1 : TypeId) : ∃ W, W = ((w.alloc (.cells c0 t0)).alloc (.cells c1 t1)) ∧ Own W w.heap.size t0 c0 ∧ Own W (w.heap.size + 1) t1 c1 ∧ Below w.heap.size w W ∧ W.heap.size = w.heap.size + 1 + 1 := by
  have s1 : (w.alloc (.cells c0 t0)).heap.size = w.heap.size + 1 := by simp
  have o1 := Own.new (w.alloc (.cells c0 t0)) t1 c1
  rw [s1] at o1
  exact ⟨_, rfl, (Own.new w t0 c0).alloc _, o1, bl_alloc (bl_alloc (bl_refl w) _) _, by simp⟩
theorem results_twoN {P : Program} {fn : Func} {p q : Tmp} {ty ty2 : TypeId} (h : fn.results = #[.cell p ty, .cell q ty2]) (tmps : Array Value) (w : World) (g : Nat) (T : TypeId) (cs : Array Value) (d : TypeDesc) (g2 : Nat) (T2 : TypeId) (cs2 : Array Value) (d2 : TypeDesc)
    (hp : tmps.getD p undef = .pointer (some ⟨g, 0, none⟩)) (hg : Own w g T cs) (hu : P.underlying ty = some d) (hd : (match d with | .struct _ | .array _ _ => true | _ => false) = true) (hi : (P.info? ty).map (·.size) = some cs.size)
    (hp2 : tmps.getD q undef = .pointer (some ⟨g2, 0, none⟩)) (hg2 : Own w g2 T2 cs2) (hu2 : P.underlying ty2 = some d2) (hd2 : (match d2 with | .struct _ | .array _ _ => true | _ => false) = true) (hi2 : (P.info? ty2).map (·.size) = some cs2.size) :
    (results fn tmps).run P w = .ok (.tuple #[.agg cs, .agg cs2]) w := by
  have hp' : tmps[p]?.getD undef = .pointer (some ⟨g, 0, none⟩) := by simpa using hp
  have hp2' : tmps[q]?.getD undef = .pointer (some ⟨g2, 0, none⟩) := by simpa using hp2
  simp [results, h, hp', hp2', asAddr, run_loadVar_row w g T ty cs (0, 0) d hg hu hd hi, run_loadVar_row w g2 T2 ty2 cs2 (0, 0) d2 hg2 hu2 hd2 hi2]
def sets6 (w : World) (g : Nat) (a b c d e f : Value) : World := (((((w.setCell ⟨g, 0, none⟩ a).setCell ⟨g, 1, none⟩ b).setCell ⟨g, 2, none⟩ c).setCell ⟨g, 3, none⟩ d).setCell ⟨g, 4, none⟩ e).setCell ⟨g, 5, none⟩ f
section
variable {w : World} {g : Nat} {a b c d e f : Value}
theorem sets6_own {T : TypeId} {x0 x1 x2 x3 x4 x5 : Value} (h : Own w g T #[x0, x1, x2, x3, x4, x5]) : Own (sets6 w g a b c d e f) g T #[a, b, c, d, e, f] := (((((h.set_ 0 a).set_ 1 b).set_ 2 c).set_ 3 d).set_ 4 e).set_ 5 f
theorem sets6_far {k : Nat} {T : TypeId} {cs : Array Value} (h : Own w k T cs) (hk : k ≠ g) : Own (sets6 w g a b c d e f) k T cs := (((((h.far (p := ⟨g, 0, none⟩) hk a).far (p := ⟨g, 1, none⟩) hk b).far (p := ⟨g, 2, none⟩) hk c).far (p := ⟨g, 3, none⟩) hk d).far (p := ⟨g, 4, none⟩) hk e).far (p := ⟨g, 5, none⟩) hk f
theorem sets6_below {w0 : World} {B : Nat} (h : Below B w0 w) (hg : B ≤ g) : Below B w0 (sets6 w g a b c d e f) := (((((h.setCell (p := ⟨g, 0, none⟩) hg a).setCell (p := ⟨g, 1, none⟩) hg b).setCell (p := ⟨g, 2, none⟩) hg c).setCell (p := ⟨g, 3, none⟩) hg d).setCell (p := ⟨g, 4, none⟩) hg e).setCell (p := ⟨g, 5, none⟩) hg f
end
/-- What Between leaves. -/
def towX (K M : List (Int × List Int)) : Value := .agg (towK K M)
end Go.Proofs.Ytniheakafkakhaa

/- layer 22: Hold, Internal, Winner -/
namespace Go.Proofs.Ytniheakafkakhaa
open Go.RowKit Go.Sort

def holdK (q q' : Int) : Int := if q = 0 then 0 else if q' = 0 then 0 else min q q'
def cmpU (x y : Int) : Int := if x < y then -1 else if y < x then 1 else 0
def orK (x y : Int) : Int := if x = 0 then y else x
def winV (c : Int) : Int := if c = 1 then 1 else if c = -1 then 2 else 0
def winK (p r p' r' : Int) : Int := winV (orK (cmpU r r') (cmpU p p'))
theorem cmpU_cases (x y : Int) : cmpU x y = -1 ∨ cmpU x y = 0 ∨ cmpU x y = 1 := by
  unfold cmpU
  split
  · exact .inl rfl
  · split
    · exact .inr (.inr rfl)
    · exact .inr (.inl rfl)
theorem or_cases (x y : Int) (hx : x = -1 ∨ x = 0 ∨ x = 1) (hy : y = -1 ∨ y = 0 ∨ y = 1) : orK x y = -1 ∨ orK x y = 0 ∨ orK x y = 1 := by unfold orK; split <;> assumption
theorem win_eq (p r p' r' : Int) : winK p r p' r' = if r = r' then (if p = p' then 0 else if p' < p then 1 else 2) else if r' < r then 1 else 2 := by
  unfold winK winV orK cmpU
  by_cases h1 : r = r'
  · subst h1
    simp only [Int.lt_irrefl, if_false, if_true]
    by_cases h2 : p = p'
    · subst h2; simp
    · rcases Int.lt_or_gt_of_ne h2 with h3 | h3
      · simp only [if_pos h3, if_neg h2, if_neg (show ¬ p' < p by omega)]; rfl
      · simp only [if_neg (show ¬ p < p' by omega), if_pos (show p' < p from h3), if_neg h2]; rfl
  · rcases Int.lt_or_gt_of_ne h1 with h3 | h3
    · simp only [if_pos h3, if_neg h1, if_neg (show ¬ r' < r by omega)]; rfl
    · simp only [if_neg (show ¬ r < r' by omega), if_pos (show r' < r from h3), if_neg h1]; rfl
end Go.Proofs.Ytniheakafkakhaa

/- layer 22: peerageref22.One -/
namespace Go.Proofs.Ytniheakafkakhaa
open Go.RowKit Go.Sort

theorem three_boxesN (w : World) (c0 c1 c2 : Array Value) (t0 t1 t2 : TypeId) : ∃ W, W = (((w.alloc (.cells c0 t0)).alloc (.cells c1 t1)).alloc (.cells c2 t2)) ∧ Own W w.heap.size t0 c0 ∧ Own W (w.heap.size + 1) t1 c1 ∧ Own W (w.heap.size + 1 + 1) t2 c2 ∧ Below w.heap.size w W ∧ W.heap.size = w.heap.size + 1 + 1 + 1 := by
  have s1 : (w.alloc (.cells c0 t0)).heap.size = w.heap.size + 1 := by simp
  have s2 : ((w.alloc (.cells c0 t0)).alloc (.cells c1 t1)).heap.size = w.heap.size + 1 + 1 := by simp
  have o1 := Own.new (w.alloc (.cells c0 t0)) t1 c1
  have o2 := Own.new ((w.alloc (.cells c0 t0)).alloc (.cells c1 t1)) t2 c2
  rw [s1] at o1
  rw [s2] at o2
  exact ⟨_, rfl, (((Own.new w t0 c0).alloc _).alloc _), (o1.alloc _), o2, bl_alloc (bl_alloc (bl_alloc (bl_refl w) _) _) _, by simp⟩
end Go.Proofs.Ytniheakafkakhaa

/- community.Text at valid attributes -/
import Derived.Test.YtngeldgohijheaaDoorCmT
import Derived.Test.YtngeldgohijheaaDoorApAt
namespace Go.Proofs.YtngeldgohijheaaDoor
open Go.RowKit Go.Shelf

attribute [local go_sem] Oper.semAt_some

def cmTxt (k : Int) (ts : List Tup) : ByteArray := joinB (cmNm k :: ts.map (formB k)) [32]
theorem own_cells {β : Type} (g : Nat) (t : TypeId) (cs : Array Value) : Go.Own (fun (_ : β) W => Own W g t cs) := fun _ _ _ _ hs hg hrow =>
  Own.grown hs hg (fun e => by
    obtain ⟨o, ho, hc⟩ := hrow g e.symm
    rw [show _ = _ from hs] at ho
    cases ho
    cases hc)
theorem bx_step {W X : World} {B : Nat} {t : TypeId} {v : Value} (h : Boxed W B t v) (hb : Below W.heap.size W X) : Boxed X B t v := (hb.block B h.lt).trans h
theorem bx_typed {W : World} {B : Nat} {t : TypeId} {v : Value} (h : Boxed W B t v) : Typed W B t := ⟨_, h⟩
/-- Between two rounds. -/
structure TxI (w : World) (k : Int) (nm : ByteArray) (cs : Array Value) (gW gB : Nat) (v : Value) (pre : List Tup) (W : World) : Prop where
  box : Boxed W gW 65 v
  row : W.ownsRow w.heap.size 9 1 v (pre.length + 1) ((nm :: pre.map (formB k)).map Value.string)
  o1 : Own W w.heap.size 29 cs
  o2 : Own W gB 29 cs
  bel : Below w.heap.size w W
  le : w.heap.size ≤ gW
theorem txI_own (w : World) (k : Int) (nm : ByteArray) (cs : Array Value) (gW gB B : Nat) (hB : w.heap.size ≤ B) : OwnFrom B (fun pre W => ∃ v, TxI w k nm cs gW gB v pre W) := by
  rintro s X Y row ⟨v, hs⟩ hg hr
  obtain ⟨v', h1, h2, e⟩ := (holdsRow_own w.heap.size gW 65 9 1 (fun pre : List Tup => pre.length + 1) (fun pre => (nm :: pre.map (formB k)).map Value.string) (fun _ u => u = v)).from B s X Y row ⟨v, hs.box, hs.row, rfl⟩ hg hr
  subst e
  exact ⟨v', h1, h2, (own_cells (β := Unit) _ _ _).from B () X Y row hs.o1 hg hr, (own_cells (β := Unit) _ _ _).from B () X Y row hs.o2 hg hr, ownFrom_below (β := Unit) (Nat.le_refl _) hB () X Y row hs.bel hg hr, hs.le⟩
/-- What the region's loads read. -/
def TxS (w : World) (_gW Bx : Nat) (k : Int) (x : Tup) : World → Prop := fun X => X.cell? ⟨w.heap.size, 0, none⟩ = some (.int .i64 k) ∧ X.cell? ⟨Bx, 0, none⟩ = some (.int .u32 x.a) ∧ X.cell? ⟨Bx, 1, none⟩ = some (.int .u32 x.b) ∧ X.cell? ⟨Bx, 2, none⟩ = some (.int .u32 x.c)
section
variable {w W X w5 : World} {k : Int} {nm : ByteArray} {cs : List Value} {gW gB Bx : Nat} {v v5 : Value} {pre : List Tup} {x : Tup}
theorem tx_Sb (hI : TxI w k nm (Value.int .i64 k :: cs).toArray gW gB v pre W) (oX : Own W Bx 70 #[.int .u32 x.a, .int .u32 x.b, .int .u32 x.c]) (hb : Below W.heap.size W X) : TxS w gW Bx k x X :=
  ⟨(hI.o1.step hb).cell (i := 0) rfl, (oX.step hb).cell (i := 0) rfl, (oX.step hb).cell (i := 1) rfl, (oX.step hb).cell (i := 2) rfl⟩
theorem tx_types : 65 ≠ 9 ∧ 29 ≠ 9 ∧ 29 ≠ 65 ∧ 70 ≠ 9 ∧ 70 ≠ 65 := by decide
theorem tx_S (hI : TxI w k nm (Value.int .i64 k :: cs).toArray gW gB v pre W) (oX : Own W Bx 70 #[.int .u32 x.a, .int .u32 x.b, .int .u32 x.c]) (hb : Below W.heap.size W X) (hg5 : X.grownBy w5 v.ownBlock) : TxS w gW Bx k x w5 ∧ Boxed w5 gW 65 v ∧ Own w5 w.heap.size 29 (Value.int .i64 k :: cs).toArray ∧ Own w5 Bx 70 #[.int .u32 x.a, .int .u32 x.b, .int .u32 x.c] := by
  have hr := own_belowG hI.row hb
  have ne : ∀ {j t}, Typed X j t → t ≠ 9 → some j ≠ v.ownBlock := fun hj ht e => (row_typed hr e.symm).1.ne hj (Ne.symm ht) rfl
  have b1 := (bx_step hI.box hb).kept hg5 (ne (bx_typed (bx_step hI.box hb)) tx_types.1)
  have o1 := (hI.o1.step hb).grown hg5 (ne (hI.o1.step hb).typed tx_types.2.1)
  have o2 := (oX.step hb).grown hg5 (ne (oX.step hb).typed tx_types.2.2.2.1)
  exact ⟨⟨o1.cell (i := 0) rfl, o2.cell (i := 0) rfl, o2.cell (i := 1) rfl, o2.cell (i := 2) rfl⟩, b1, o1, o2⟩
theorem tx_S6 (h : TxS w gW Bx k x w5 ∧ Boxed w5 gW 65 v ∧ Own w5 w.heap.size 29 (Value.int .i64 k :: cs).toArray ∧ Own w5 Bx 70 #[.int .u32 x.a, .int .u32 x.b, .int .u32 x.c]) (u : Value) : TxS w gW Bx k x (w5.setCell ⟨gW, 0, none⟩ u) := by
  have o1 := h.2.2.1.far (p := ⟨gW, 0, none⟩) (h.2.2.1.typed.ne (bx_typed h.2.1) tx_types.2.2.1) u
  have o2 := h.2.2.2.far (p := ⟨gW, 0, none⟩) (h.2.2.2.typed.ne (bx_typed h.2.1) tx_types.2.2.2.2) u
  exact ⟨o1.cell (i := 0) rfl, o2.cell (i := 0) rfl, o2.cell (i := 1) rfl, o2.cell (i := 2) rfl⟩
/-- What the body of the loop leaves. -/
theorem tx_end {B : Nat} (hI : TxI w k nm (Value.int .i64 k :: cs).toArray gW gB v pre W) (oX : Own W Bx 70 #[.int .u32 x.a, .int .u32 x.b, .int .u32 x.c]) (hb : Below W.heap.size W X)
    (ho5 : w5.ownsRow w.heap.size 9 1 v5 (pre.length + 1 + 1) ((nm :: pre.map (formB k)).map Value.string ++ [.string (formB k x)])) (hg5 : X.grownBy w5 v.ownBlock) :
    KeepsFrom B W (w5.setCell ⟨gW, 0, none⟩ v5) ∧ KpB w.heap.size gB W (w5.setCell ⟨gW, 0, none⟩ v5) ∧ ∃ u, TxI w k nm (Value.int .i64 k :: cs).toArray gW gB u (pre ++ [x]) (w5.setCell ⟨gW, 0, none⟩ v5) := by
  have R5 : Rest W w5 (fun i => v.ownBlock = some i) := (Rest.of_below hb (fun i => v.ownBlock = some i)).trans (Rest.of_grown hg5 (P := fun i => v.ownBlock = some i) (fun j hj => hj)) (fun i _ h => h)
  have R : Rest W (w5.setCell ⟨gW, 0, none⟩ v5) (fun i => i = gW ∨ v.ownBlock = some i) := (R5.mono (fun i h => .inr h)).trans (Rest.setCell w5 ⟨gW, 0, none⟩ v5) (fun i _ h => .inl h)
  have hS := tx_S hI oX hb hg5
  have hrb : ∀ i, v.ownBlock = some i → Typed W i 9 ∧ w.heap.size ≤ i := fun i hi => row_typed hI.row hi
  have hnB : ¬ (gB = gW ∨ v.ownBlock = some gB) := by
    rintro (e | e)
    · exact hI.o2.typed.ne (bx_typed hI.box) tx_types.2.2.1 e
    · exact (hrb _ e).1.ne hI.o2.typed (Ne.symm tx_types.2.1) rfl
  have hlow : ∀ i, i < w.heap.size → ¬ (i = gW ∨ v.ownBlock = some i) := by
    rintro i hi (e | e)
    · have := hI.le; omega
    · have := (hrb _ e).2; omega
  have hB6 := R.to_below hI.bel.size hlow
  have hno : ¬ (w.heap.size = gW ∨ v.ownBlock = some w.heap.size) := by
    rintro (e | e)
    · exact hI.o1.typed.ne (bx_typed hI.box) tx_types.2.2.1 e
    · exact (hrb _ e).1.ne hI.o1.typed (Ne.symm tx_types.2.1) rfl
  refine ⟨⟨R.size, fun j o _ hj ho => ?_⟩, ⟨hB6, R.block gB hI.o2.lt hnB⟩, _, hS.2.1.set v5, ?_, R.own hI.o1 hno, R.own hI.o2 hnB, hI.bel.trans hB6, hI.le⟩
  · refine (R.block j (Array.getElem?_eq_some_iff.1 hj).1 ?_).trans hj
    rintro (e | e)
    · subst e
      rw [show W.heap[_]? = _ from hI.box] at hj
      cases hj
      cases ho
    · obtain ⟨⟨cs', hc⟩, _⟩ := hrb _ e
      rw [hc] at hj
      cases hj
      cases ho
  · have h6 := row_rest ho5 (Rest.setCell w5 ⟨gW, 0, none⟩ v5) (fun j hj e => (row_typed ho5 hj).1.ne (bx_typed hS.2.1) (Ne.symm tx_types.1) e)
    rw [List.length_append, List.map_append, ← List.cons_append, List.map_append]
    exact h6
end
set_option maxRecDepth 100000 in
set_option maxHeartbeats 6400000 in
theorem cmtext_yes (a : At) (g m : Nat) (ls : List Int) (h : CmIn a g m ls) (hv : cmOk a = true) (w : World) (ht : Tens w) (hU : U32s w w.heap.size a.A2 a.n2 ls) (hm : m ≤ 1000) :
    Calls Tryd.prog 21 #[.agg (atc a)] w fun e w' => e = .returned (.string (cmTxt a.k (tups g ls h.hR m))) ∧ Below w.heap.size w w' := by
  have hV := Lib.hid (fun W => cmvalid_any a W (Nat.le_trans h.hnc h.hcm))
  rw [hv] at hV
  have hN := Lib.hid (fun W => cmname_any a.k W)
  have hGr := Lib.hid (fun W => cmgroups_any a W)
  have hFm := Lib.hid (fun (t : Tup) W (hW : Tens W) => form_any a.k t W hW (by have := h.hg; have := h.hg1; omega))
  have hSt := Lib.hid (fun (Bn : Nat) (W : World) (hBn : Own W Bn 29 (atc a)) (hU : U32s W w.heap.size a.A2 a.n2 ls) (hn0 : w.heap.size ≤ W.heap.size) => groups_stops 8 (by omega) Bn w.heap.size a g m ls h W hBn hU hn0)
  have HU := Lib.hid hU
  have HT := Lib.hid ht
  have hO := Lib.hid (show cmTxt a.k (tups g ls h.hR m) = joinB (cmNm a.k :: (tups g ls h.hR m).map (formB a.k)) [32] from rfl)
  have hTl := Lib.hid (tups_length g ls h.hR m)
  have hNz := cmNm_size a.k
  generalize cmNm a.k = nm at *
  generalize cmTxt a.k (tups g ls h.hR m) = V at *
  generalize tups g ls h.hR m = ts at *
  generalize tups g ls h.hR = tsf at *
  have hb0 := bl_alloc (bl_refl w) (.cells (atc a) 29)
  have o0 := Own.new w 29 (atc a)
  clear h hU ht hv
  obtain ⟨k, p, N, M, A1, n1, c1, A2, n2, c2, A3, n3, c3, f, A4, n4, c4⟩ := a
  unfold atc at *
  dsimp only at *
  refine (callsIn_wide (n := 9)).1 ?_
  refine callsIn_of_wp_marks Tryd.func21 rfl trivial ?_ rfl
  simp only [Tryd.ntmps21, List.size_toArray, List.length_cons, List.length_nil, Nat.reduceAdd, Nat.reduceSub, Array.replicate_succ, Array.replicate_zero, List.push_toArray, List.append_toArray, List.nil_append, List.cons_append]
  gi_wp2_with (first
    | (refine ⟨trivial, ?_⟩; gi_at_call 20; refine (callsIn_wide.2 (hV.out _)).mono ?_; rintro e w1 ⟨rfl, hb1⟩; have o1 := o0.step hb1; have hb2 := bl_trans hb0 hb1; have hs1 := hb2.size; obtain ⟨e0, e1, e2, e3, e4, e5, e6, e7, e8⟩ := at_cells o1)
    | (refine ⟨trivial, ?_⟩; gi_at_call 47; refine (callsIn_wide.2 (hN.out _)).mono ?_; rintro e w' ⟨rfl, rfl⟩; have o2 := (o1.alloc (.cells #[.string nm] 9)).alloc (.cells #[.slice (some ⟨w1.heap.size, 0, none⟩) 1 1] 65); obtain ⟨f0, f1, f2, f3, f4, f5, f6, f7, f8⟩ := at_cells o2; clear e0 e1 e2 e3 e4 e5 e6 e7 e8)
    | (refine ⟨trivial, ?_⟩; gi_at_call 48; refine (callsIn_wide.2 (hGr.out _)).mono ?_; rintro e w' ⟨rfl, rfl⟩; clear f0 f1 f2 f3 f4 f5 f6 f7 f8))
  have oN := ((Own.new w1 9 #[.string nm]).alloc (.cells #[.slice (some ⟨w1.heap.size, 0, none⟩) 1 1] 65)).alloc (.cells #[.int .i64 k, .bool p, .int .u32 N, .int .u32 M, .slice A1 n1 c1, .slice A2 n2 c2, .slice A3 n3 c3, .int .i64 f, .slice A4 n4 c4] 29)
  have bW := (Boxed.new (w1.alloc (.cells #[.string nm] 9)) 65 (.slice (some ⟨w1.heap.size, 0, none⟩) 1 1)).alloc (.cells #[.int .i64 k, .bool p, .int .u32 N, .int .u32 M, .slice A1 n1 c1, .slice A2 n2 c2, .slice A3 n3 c3, .int .i64 f, .slice A4 n4 c4] 29)
  have oB := Own.new ((w1.alloc (.cells #[.string nm] 9)).alloc (.cells #[.slice (some ⟨w1.heap.size, 0, none⟩) 1 1] 65)) 29 #[.int .i64 k, .bool p, .int .u32 N, .int .u32 M, .slice A1 n1 c1, .slice A2 n2 c2, .slice A3 n3 c3, .int .i64 f, .slice A4 n4 c4]
  have o3 := o2.alloc (.cells #[.int .i64 k, .bool p, .int .u32 N, .int .u32 M, .slice A1 n1 c1, .slice A2 n2 c2, .slice A3 n3 c3, .int .i64 f, .slice A4 n4 c4] 29)
  have hB0 := bl_alloc (bl_alloc (bl_alloc hb2 (.cells #[.string nm] 9)) (.cells #[.slice (some ⟨w1.heap.size, 0, none⟩) 1 1] 65)) (.cells #[.int .i64 k, .bool p, .int .u32 N, .int .u32 M, .slice A1 n1 c1, .slice A2 n2 c2, .slice A3 n3 c3, .int .i64 f, .slice A4 n4 c4] 29)
  have hsz : (((w1.alloc (.cells #[.string nm] 9)).alloc (.cells #[.slice (some ⟨w1.heap.size, 0, none⟩) 1 1] 65)).alloc (.cells #[.int .i64 k, .bool p, .int .u32 N, .int .u32 M, .slice A1 n1 c1, .slice A2 n2 c2, .slice A3 n3 c3, .int .i64 f, .slice A4 n4 c4] 29)).heap.size = w1.heap.size + 1 + 1 + 1 := by simp
  simp only [World.size_alloc] at bW oB
  obtain ⟨W0, hW0⟩ : ∃ W0, ((w1.alloc (.cells #[.string nm] 9)).alloc (.cells #[.slice (some ⟨w1.heap.size, 0, none⟩) 1 1] 65)).alloc (.cells #[.int .i64 k, .bool p, .int .u32 N, .int .u32 M, .slice A1 n1 c1, .slice A2 n2 c2, .slice A3 n3 c3, .int .i64 f, .slice A4 n4 c4] 29) = W0 := ⟨_, rfl⟩
  rw [hW0] at oN bW oB o3 hB0 hsz ⊢
  clear hW0 o2 o1 o0 hb0 hb1 hb2
  have hRow : W0.ownsRow w.heap.size 9 1 (.slice (some ⟨w1.heap.size, 0, none⟩) 1 1) 1 [.string nm] := Own.row (cs := [.string nm]) oN rfl hs1 (by unfold maxLen; omega)
  refine wpIn_rangeFunc_ownH rfl (by omega) (gf := 66) (lb := #[.pointer (some ⟨w1.heap.size + 1 + 1, 0, none⟩)]) rfl trivial (enters_of Tryd.func66 (by kernel_rfl) rfl)
    (hSt.out (w1.heap.size + 1 + 1) W0 oB (HU.out.below hB0) hB0.size) (fun h k => kpB_t h k) (kpB_b hB0.size oB.lt) (Below.refl _ _) (fun _ => rfl)
    (fun pre W => ∃ v, TxI w k nm #[.int .i64 k, .bool p, .int .u32 N, .int .u32 M, .slice A1 n1 c1, .slice A2 n2 c2, .slice A3 n3 c3, .int .i64 f, .slice A4 n4 c4] (w1.heap.size + 1) (w1.heap.size + 1 + 1) v pre W)
    (fun _ _ _ => False)
    (txI_own _ _ _ _ _ _ _ hB0.size)
    (fun _ _ _ _ _ hs _ _ => hs)
    ⟨_, bW, by simpa using hRow, o3, oB, hB0, by omega⟩
    (fun x a' W => ∃ Bx, Own W Bx 70 #[.int .u32 x.a, .int .u32 x.b, .int .u32 x.c] ∧ a' = { tmps := #[.agg #[.int .i64 k, .bool p, .int .u32 N, .int .u32 M, .slice A1 n1 c1, .slice A2 n2 c2, .slice A3 n3 c3, .int .i64 f, .slice A4 n4 c4], .pointer (some ⟨w.heap.size, 0, none⟩), .string ⟨#[]⟩, .pointer (some ⟨w1.heap.size + 1, 0, none⟩), .pointer (some ⟨Bx, 0, none⟩), .agg #[.int .i64 k, .bool p, .int .u32 N, .int .u32 M, .slice A1 n1 c1, .slice A2 n2 c2, .slice A3 n3 c3, .int .i64 f, .slice A4 n4 c4], .bool true, .bool false, .pointer (some ⟨w.heap.size, 0, none⟩), .int .i64 k, .string nm, .slice (some ⟨w1.heap.size, 0, none⟩) 1 1, .agg #[.int .i64 k, .bool p, .int .u32 N, .int .u32 M, .slice A1 n1 c1, .slice A2 n2 c2, .slice A3 n3 c3, .int .i64 f, .slice A4 n4 c4], .func (.func 66) #[] #[.pointer (some ⟨w1.heap.size + 1 + 1, 0, none⟩)], .agg #[.int .u32 x.a, .int .u32 x.b, .int .u32 x.c], undef, undef, undef, undef, undef, undef, undef, undef, undef], defers := [] })
    (fun x a' _ X Y row hs hg hr => by obtain ⟨Bx, h1, h2⟩ := hs; exact ⟨Bx, (own_cells (β := Unit) _ _ _).from _ () X Y row h1 hg hr, h2⟩)
    ?assign ?body ?done ?stop
  case assign =>
    rintro l pre x W K ⟨v, hI⟩ hK
    unfold tupEnc
    gi_wp2
    exact hK _ _ ((KeepsOthers.alloc _ _).from _) ⟨(Below.refl _ W).alloc hI.bel.size _, Below.heap_alloc W _ _ hI.o2.lt⟩ ⟨v, hI.box.alloc _, hI.row.alloc _, hI.o1.alloc _, hI.o2.alloc _, bl_alloc hI.bel _, hI.le⟩ ⟨W.heap.size, Own.new W _ _, rfl⟩
  case body =>
    rintro l pre x a' W hl _ ⟨v, hI⟩ ⟨Bx, oX, rfl⟩ hlt
    obtain ⟨A5, c5, rfl⟩ := own_form hI.row
    have hrow := hI.row
    have hbX := bl_drewN (bl_refl W) 1
    have HS0 := tx_Sb (X := W.drew) hI oX hbX
    gi_wp2
    refine round_held (S := TxS w (w1.heap.size + 1) Bx k x) (by kernel_rfl) (fun ⟨_, _, hq⟩ => hq) (by kernel_rfl) HS0 (fun hHeld => ?_)
    refine wpAnyH_take (i := 1) (v := ?_) rfl (by kernel_rfl) (by kernel_rfl) (by kernel_rfl) (fun _ _ _ h => h) (Or.inl ⟨by rfl, ?_⟩) (by assumption) ?_
    rotate_left
    · (intro W hSw; obtain ⟨s0, s1, s2, s3⟩ := hSw; go_simp; try with_reducible rfl)
    simp only [Act.put, List.getElem_toArray, List.getElem_cons_zero, List.getElem_cons_succ, List.setIfInBounds_toArray, List.set_cons_zero, List.set_cons_succ]
    refine wpAnyH_take (i := 2) (v := ?_) rfl (by kernel_rfl) (by kernel_rfl) (by kernel_rfl) (fun _ _ _ h => h) (Or.inl ⟨by rfl, ?_⟩) (by assumption) ?_
    rotate_left
    · (intro W hSw; obtain ⟨s0, s1, s2, s3⟩ := hSw; go_simp; try with_reducible rfl)
    simp only [Act.put, List.getElem_toArray, List.getElem_cons_zero, List.getElem_cons_succ, List.setIfInBounds_toArray, List.set_cons_zero, List.set_cons_succ]
    refine wpAnyH_take (i := 3) (v := ?_) rfl (by kernel_rfl) (by kernel_rfl) (by kernel_rfl) (fun _ _ _ h => h) (Or.inl ⟨by rfl, ?_⟩) (by assumption) ?_
    rotate_left
    · (intro W hSw; obtain ⟨s0, s1, s2, s3⟩ := hSw; go_simp; try with_reducible rfl)
    simp only [Act.put, List.getElem_toArray, List.getElem_cons_zero, List.getElem_cons_succ, List.setIfInBounds_toArray, List.set_cons_zero, List.set_cons_succ]
    refine wpAnyH_ready (rs := [0, 4]) (by kernel_rfl) (by simp) ?_
    refine AllReadyH.cons rfl (fun K hK => ?_) (AllReadyH.cons rfl (fun K hK => ?_) AllReadyH.nil)
    · skip
      have c0 := (bx_step hI.box hbX).cell
      have c00 := hI.box.cell
      go_simp
      refine hK.out _ _ hHeld (fun hHeld2 => ?_)
      clear hK K hHeld
      have hHeld := hHeld2
      clear hHeld2
      try simp only [Act.put, List.getElem_toArray, List.getElem_cons_zero, List.getElem_cons_succ, List.setIfInBounds_toArray, List.set_cons_zero, List.set_cons_succ]
      refine wpAnyH_ready (rs := [4]) (by kernel_rfl) (by simp) ?_
      refine AllReadyH.cons rfl (fun K hK => ?_) AllReadyH.nil
      go_simp
      go_at_call 49
      refine (hFm.out x _ (HT.out.below (bl_trans hI.bel hbX))).mono ?_
      rintro e w4 ⟨rfl, hb4⟩
      replace hbX := bl_trans hbX hb4
      have HS4 := tx_Sb hI oX hbX
      clear hb4
      refine hK.out _ _ HS4 (fun hHeld2 => ?_)
      clear hK K hHeld
      have hHeld := hHeld2
      clear hHeld2
      try simp only [Act.put, List.getElem_toArray, List.getElem_cons_zero, List.getElem_cons_succ, List.setIfInBounds_toArray, List.set_cons_zero, List.set_cons_succ]
      refine wpAnyH_ready (rs := [5]) (by kernel_rfl) (by simp) ?_
      refine AllReadyH.cons rfl (fun K hK => ?_) AllReadyH.nil
      go_simp
      have hsh := Shows.of_owned (B := w4.heap.size + 1) (Own.new w4 9 #[.string (formB k x)]) (by simp)
      replace hbX := bl_alloc hbX (.cells #[.string (formB k x)] 9)
      have HS5 := tx_Sb hI oX hbX
      refine hK.out _ _ HS5 (fun hHeld2 => ?_)
      clear hK K hHeld
      have hHeld := hHeld2
      clear hHeld2
      try simp only [Act.put, List.getElem_toArray, List.getElem_cons_zero, List.getElem_cons_succ, List.setIfInBounds_toArray, List.set_cons_zero, List.set_cons_succ]
      refine wpAnyH_ready (rs := [6]) (by kernel_rfl) (by simp) ?_
      refine AllReadyH.cons rfl (fun K hK => ?_) AllReadyH.nil
      refine step_append_at _ rfl _ _ rfl sl_strA w.heap.size _ _ _ rfl (own_belowG hrow hbX) _ (some ⟨w4.heap.size, 0, none⟩) 1 1 [_] rfl rfl hsh (one1 rfl) (by unfold maxLen; omega) (by omega) (Nat.le_trans hI.bel.size hbX.size) ?_
      intro v5 w5 ho5 hg5 _
      obtain ⟨g5, c5, rfl⟩ := ownsRow_succ ho5
      have hfin := tx_end (B := W0.heap.size) hI oX hbX ho5 hg5
      have hS5 := tx_S hI oX hbX hg5
      have hc5 := hS5.2.1.cell
      have hf5 := hS5.2.1.frozen
      refine hK.out _ _ hS5.1 (fun hHeld2 => ?_)
      clear hK K hHeld
      have hHeld := hHeld2
      clear hHeld2
      try simp only [Act.put, List.getElem_toArray, List.getElem_cons_zero, List.getElem_cons_succ, List.setIfInBounds_toArray, List.set_cons_zero, List.set_cons_succ]
      refine wpAnyH_ready (rs := [7]) (by kernel_rfl) (by simp) ?_
      refine AllReadyH.cons rfl (fun K hK => ?_) AllReadyH.nil
      go_simp
      refine hK.out _ _ (tx_S6 hS5 _) (fun hHeld2 => ?_)
      clear hK K hHeld
      have hHeld := hHeld2
      clear hHeld2
      try simp only [Act.put, List.getElem_toArray, List.getElem_cons_zero, List.getElem_cons_succ]
      refine wpAnyH_done (by kernel_rfl) ?_ _
      exact hfin
    · skip
      go_simp
      go_at_call 49
      refine (hFm.out x _ (HT.out.below (bl_trans hI.bel hbX))).mono ?_
      rintro e w4 ⟨rfl, hb4⟩
      replace hbX := bl_trans hbX hb4
      have HS4 := tx_Sb hI oX hbX
      clear hb4
      refine hK.out _ _ HS4 (fun hHeld2 => ?_)
      clear hK K hHeld
      have hHeld := hHeld2
      clear hHeld2
      try simp only [Act.put, List.getElem_toArray, List.getElem_cons_zero, List.getElem_cons_succ, List.setIfInBounds_toArray, List.set_cons_zero, List.set_cons_succ]
      refine wpAnyH_ready (rs := [0, 5]) (by kernel_rfl) (by simp) ?_
      refine AllReadyH.cons rfl (fun K hK => ?_) (AllReadyH.cons rfl (fun K hK => ?_) AllReadyH.nil)
      · skip
        have c0 := (bx_step hI.box hbX).cell
        have c00 := hI.box.cell
        go_simp
        refine hK.out _ _ hHeld (fun hHeld2 => ?_)
        clear hK K hHeld
        have hHeld := hHeld2
        clear hHeld2
        try simp only [Act.put, List.getElem_toArray, List.getElem_cons_zero, List.getElem_cons_succ, List.setIfInBounds_toArray, List.set_cons_zero, List.set_cons_succ]
        refine wpAnyH_ready (rs := [5]) (by kernel_rfl) (by simp) ?_
        refine AllReadyH.cons rfl (fun K hK => ?_) AllReadyH.nil
        go_simp
        have hsh := Shows.of_owned (B := w4.heap.size + 1) (Own.new w4 9 #[.string (formB k x)]) (by simp)
        replace hbX := bl_alloc hbX (.cells #[.string (formB k x)] 9)
        have HS5 := tx_Sb hI oX hbX
        refine hK.out _ _ HS5 (fun hHeld2 => ?_)
        clear hK K hHeld
        have hHeld := hHeld2
        clear hHeld2
        try simp only [Act.put, List.getElem_toArray, List.getElem_cons_zero, List.getElem_cons_succ, List.setIfInBounds_toArray, List.set_cons_zero, List.set_cons_succ]
        refine wpAnyH_ready (rs := [6]) (by kernel_rfl) (by simp) ?_
        refine AllReadyH.cons rfl (fun K hK => ?_) AllReadyH.nil
        refine step_append_at _ rfl _ _ rfl sl_strA w.heap.size _ _ _ rfl (own_belowG hrow hbX) _ (some ⟨w4.heap.size, 0, none⟩) 1 1 [_] rfl rfl hsh (one1 rfl) (by unfold maxLen; omega) (by omega) (Nat.le_trans hI.bel.size hbX.size) ?_
        intro v5 w5 ho5 hg5 _
        obtain ⟨g5, c5, rfl⟩ := ownsRow_succ ho5
        have hfin := tx_end (B := W0.heap.size) hI oX hbX ho5 hg5
        have hS5 := tx_S hI oX hbX hg5
        have hc5 := hS5.2.1.cell
        have hf5 := hS5.2.1.frozen
        refine hK.out _ _ hS5.1 (fun hHeld2 => ?_)
        clear hK K hHeld
        have hHeld := hHeld2
        clear hHeld2
        try simp only [Act.put, List.getElem_toArray, List.getElem_cons_zero, List.getElem_cons_succ, List.setIfInBounds_toArray, List.set_cons_zero, List.set_cons_succ]
        refine wpAnyH_ready (rs := [7]) (by kernel_rfl) (by simp) ?_
        refine AllReadyH.cons rfl (fun K hK => ?_) AllReadyH.nil
        go_simp
        refine hK.out _ _ (tx_S6 hS5 _) (fun hHeld2 => ?_)
        clear hK K hHeld
        have hHeld := hHeld2
        clear hHeld2
        try simp only [Act.put, List.getElem_toArray, List.getElem_cons_zero, List.getElem_cons_succ]
        refine wpAnyH_done (by kernel_rfl) ?_ _
        exact hfin
      · skip
        go_simp
        have hsh := Shows.of_owned (B := w4.heap.size + 1) (Own.new w4 9 #[.string (formB k x)]) (by simp)
        replace hbX := bl_alloc hbX (.cells #[.string (formB k x)] 9)
        have HS5 := tx_Sb hI oX hbX
        refine hK.out _ _ HS5 (fun hHeld2 => ?_)
        clear hK K hHeld
        have hHeld := hHeld2
        clear hHeld2
        try simp only [Act.put, List.getElem_toArray, List.getElem_cons_zero, List.getElem_cons_succ, List.setIfInBounds_toArray, List.set_cons_zero, List.set_cons_succ]
        refine wpAnyH_ready (rs := [0]) (by kernel_rfl) (by simp) ?_
        refine AllReadyH.cons rfl (fun K hK => ?_) AllReadyH.nil
        have c0 := (bx_step hI.box hbX).cell
        have c00 := hI.box.cell
        go_simp
        refine hK.out _ _ hHeld (fun hHeld2 => ?_)
        clear hK K hHeld
        have hHeld := hHeld2
        clear hHeld2
        try simp only [Act.put, List.getElem_toArray, List.getElem_cons_zero, List.getElem_cons_succ, List.setIfInBounds_toArray, List.set_cons_zero, List.set_cons_succ]
        refine wpAnyH_ready (rs := [6]) (by kernel_rfl) (by simp) ?_
        refine AllReadyH.cons rfl (fun K hK => ?_) AllReadyH.nil
        refine step_append_at _ rfl _ _ rfl sl_strA w.heap.size _ _ _ rfl (own_belowG hrow hbX) _ (some ⟨w4.heap.size, 0, none⟩) 1 1 [_] rfl rfl hsh (one1 rfl) (by unfold maxLen; omega) (by omega) (Nat.le_trans hI.bel.size hbX.size) ?_
        intro v5 w5 ho5 hg5 _
        obtain ⟨g5, c5, rfl⟩ := ownsRow_succ ho5
        have hfin := tx_end (B := W0.heap.size) hI oX hbX ho5 hg5
        have hS5 := tx_S hI oX hbX hg5
        have hc5 := hS5.2.1.cell
        have hf5 := hS5.2.1.frozen
        refine hK.out _ _ hS5.1 (fun hHeld2 => ?_)
        clear hK K hHeld
        have hHeld := hHeld2
        clear hHeld2
        try simp only [Act.put, List.getElem_toArray, List.getElem_cons_zero, List.getElem_cons_succ, List.setIfInBounds_toArray, List.set_cons_zero, List.set_cons_succ]
        refine wpAnyH_ready (rs := [7]) (by kernel_rfl) (by simp) ?_
        refine AllReadyH.cons rfl (fun K hK => ?_) AllReadyH.nil
        go_simp
        refine hK.out _ _ (tx_S6 hS5 _) (fun hHeld2 => ?_)
        clear hK K hHeld
        have hHeld := hHeld2
        clear hHeld2
        try simp only [Act.put, List.getElem_toArray, List.getElem_cons_zero, List.getElem_cons_succ]
        refine wpAnyH_done (by kernel_rfl) ?_ _
        exact hfin
  case done =>
    rintro D zs W hD rfl ⟨v, hI⟩ hK
    obtain ⟨A5, c5, rfl⟩ := own_form hI.row
    have hc := hI.box.cell
    have hjr : W.ownsRow w.heap.size 9 1 (.slice A5 (zs.length + 1) c5) (nm :: zs.map (formB k)).length ((nm :: zs.map (formB k)).map Value.string) := by simpa using hI.row
    have hJ := Lib.hid (join_row 80 ⟨#[32]⟩ hjr (by have := hTl.out; simp; omega) (by
      intro y hy
      rcases List.mem_cons.1 hy with rfl | hy
      · have : y.data.toList.length = y.size := by rw [Array.length_toList]; rfl
        omega
      · obtain ⟨t, _, rfl⟩ := List.mem_map.1 hy
        have h1 := formB_size k t
        have : (formB k t).data.toList.length = (formB k t).size := by rw [Array.length_toList]; rfl
        omega) (by omega) (by decide))
    clear hjr
    gi_wp2_with (refine ⟨trivial, ?_⟩; gi_at_call 50; refine (callsIn_wide.2 hJ.out).mono ?_; rintro e w5 ⟨rfl, hb5⟩)
    have hK5 := (hb5.block D (Array.getElem?_eq_some_iff.1 hK).1).trans hK
    refine ⟨by simp, .inl ⟨_, _, rfl, run_takeDeferred hK5, ?_⟩⟩
    exact ⟨_, results_tmp rfl _ _ _, by rw [hO.out]; rfl, (bl_trans hI.bel hb5).trans (belowK_b (w := W0) hB0.size w5 D _ _ hD hK5 rfl rfl)⟩
  case stop =>
    rintro D c pre W _ _ h _
    exact h.elim
end Go.Proofs.YtngeldgohijheaaDoor

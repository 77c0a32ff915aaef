/- community.Read -/
import Derived.Test.YtngeldgohijheaaDoorCmL
import Derived.Test.YtngeldgohijheaaDoorSgX
import Derived.Test.YtngeldgohijheaaDoorRdrB
namespace Go.Proofs.YtngeldgohijheaaDoor
open Go.RowKit Go.Sort

/-- A reader stays where an attribute changes. -/
theorem RdrB.far9 {B : Nat} {w : World} {g g7 p i : Nat} {xs : List Int} (h : RdrB B w g xs p) {k N M f : Int} {q : Bool} {A1 A2 A3 A4 : Option Addr} {n1 c1 n2 c2 n3 c3 n4 c4 : Nat} (o : Own w g7 29 #[.int .i64 k, .bool q, .int .u32 N, .int .u32 M, .slice A1 n1 c1, .slice A2 n2 c2, .slice A3 n3 c3, .int .i64 f, .slice A4 n4 c4]) (hne : g7 ≠ g) (v : Value) : RdrB B (w.setCell ⟨g7, i, none⟩ v) g xs p := by
  obtain ⟨A, n, c, ho, hc, hB, hs⟩ := h
  refine ⟨A, n, c, ho.far (p := ⟨g7, i, none⟩) (Ne.symm hne) v, hc, ?_, by simpa using hs⟩
  rcases xs with _ | ⟨x, t⟩
  · exact ⟨hB.1, hB.2.1, .inl rfl⟩
  · rcases hB.2.2 with h0 | ⟨b, o', hA, hb, hcl⟩
    · cases h0
    · have h1 := hcl 0 (.int .u8 x) rfl
      have hbn : b ≠ g7 := by
        intro e
        subst e
        have h2 := cell_of_row w b (o' + 0) _ 29 (0, 0) o
        rw [h1] at h2
        have h3 := List.mem_of_getElem? (l := (#[Value.int .i64 k, .bool q, .int .u32 N, .int .u32 M, .slice A1 n1 c1, .slice A2 n2 c2, .slice A3 n3 c3, .int .i64 f, .slice A4 n4 c4] : Array Value).toList) (by rw [Array.getElem?_toList]; exact h2.symm)
        simp at h3
      exact ⟨hB.1, hB.2.1, .inr ⟨b, o', hA, hb, fun j u hu => (World.cell?_of_block (a := ⟨b, o' + j, none⟩) (Below.heap_setCell w ⟨g7, i, none⟩ v b hbn)).trans (hcl j u hu)⟩⟩
theorem RdrB.typedC {B : Nat} {w : World} {g p : Nat} {xs : List Int} (h : RdrB B w g xs p) : Typed w g 93 := by
  obtain ⟨A, n, c, ho, _⟩ := h
  exact ho.typed
theorem cr_types : (29 : TypeId) ≠ 93 ∧ (24 : TypeId) ≠ 93 ∧ (29 : TypeId) ≠ 24 := by decide
def cmRd (k : Int) (n : Nat) : Bool := decide (cmG k ≠ 0 ∧ n ≠ 0 ∧ n % (4 * cmG k) = 0)
theorem cm_rem (n g : Nat) : ((n : Int).tmod (4 * (g : Int))) = ((n % (4 * g) : Nat) : Int) := by
  rw [show (4 * (g : Int)) = ((4 * g : Nat) : Int) by omega, Int.ofNat_tmod]
set_option maxRecDepth 100000 in
set_option maxHeartbeats 1600000 in
theorem cmread_no (k : Int) (A : Option Addr) (n c : Nat) (w : World) (h : cmRd k n = false) (hm : n ≤ maxLen) :
    Calls Tryd.prog 10 #[.int .i64 k, .slice A n c] w fun e w' => e = .returned (.tuple #[.agg (atc (atL 0 false none 0 0)), .int .i64 2]) ∧ Below w.heap.size w w' := by
  unfold maxLen at hm
  have hb0 := bl_alloc (bl_refl w) (.cells #[.int .i64 0, .bool false, .int .u32 0, .int .u32 0, .slice none 0 0, .slice none 0 0, .slice none 0 0, .int .i64 0, .slice none 0 0] 29)
  have o0 := Own.new w 29 #[.int .i64 0, .bool false, .int .u32 0, .int .u32 0, .slice none 0 0, .slice none 0 0, .slice none 0 0, .int .i64 0, .slice none 0 0]
  have hG := Lib.hid (cmgroup_any k)
  have hg3 := cmG_le k
  have hrm := cm_rem n (cmG k)
  have HO := Lib.hid (of_decide_eq_false h)
  clear h
  generalize cmG k = g at *
  have hw4 : IntKind.i64.wrap (4 * (g : Int)) = 4 * (g : Int) := IntWalk.i64_in _ (by omega)
  unfold atL atc
  dsimp only
  by_cases hg : g = 0
  · have q1 : ((g : Int) == 0) = true := by simp; omega
    clear hg hrm
    go_enter Tryd.func10, Tryd.ntmps10
    go_wp2_with fail
    refine (hG.out _).mono ?_
    rintro e w' ⟨rfl, rfl⟩
    go_wp2
    exact bodyPost_ret (results_cell_tmp (p := 4) (t := 5) (fn := Tryd.f10) rfl _ _ w.heap.size 29 _ _ rfl o0 at_desc rfl (at_info9 _ _ _ _ _ _ _ _ _)) rfl ⟨rfl, hb0⟩
  have q1 : ((g : Int) == 0) = false := by simp; omega
  by_cases hn : n = 0
  · have q2 : ((n : Int) == 0) = true := by simp; omega
    clear hg hn hrm
    go_enter Tryd.func10, Tryd.ntmps10
    go_wp2_with fail
    refine (hG.out _).mono ?_
    rintro e w' ⟨rfl, rfl⟩
    go_wp2
    exact bodyPost_ret (results_cell_tmp (p := 4) (t := 5) (fn := Tryd.f10) rfl _ _ w.heap.size 29 _ _ rfl o0 at_desc rfl (at_info9 _ _ _ _ _ _ _ _ _)) rfl ⟨rfl, hb0⟩
  have q2 : ((n : Int) == 0) = false := by simp; omega
  have hz : n % (4 * g) ≠ 0 := fun e => HO.out ⟨hg, hn, e⟩
  have hml : n % (4 * g) < 4 * g := Nat.mod_lt _ (by omega)
  have hgz : ¬ (4 * (g : Int)) = 0 := by omega
  generalize n % (4 * g) = m at *
  have q3 : ((m : Int) != 0) = true := by simp; omega
  clear HO hn hz
  go_enter Tryd.func10, Tryd.ntmps10
  go_wp2_with fail
  refine (hG.out _).mono ?_
  rintro e w' ⟨rfl, rfl⟩
  go_wp2
  exact bodyPost_ret (results_cell_tmp (p := 4) (t := 5) (fn := Tryd.f10) rfl _ _ w.heap.size 29 _ _ rfl o0 at_desc rfl (at_info9 _ _ _ _ _ _ _ _ _)) rfl ⟨rfl, hb0⟩
def lenCell (w : World) (a : Addr) : Nat := match w.cell? a with | some (.slice _ n _) => n | _ => 0
theorem lenCell_eq {w : World} {a : Addr} {A : Option Addr} {n c : Nat} (h : w.cell? a = some (.slice A n c)) : lenCell w a = n := by unfold lenCell; rw [h]
theorem four_of {ys : List Int} (h : 4 ≤ ys.length) : ∃ a b c d t, ys = a :: b :: c :: d :: t := by
  match ys, h with
  | a :: b :: c :: d :: t, _ => exact ⟨a, b, c, d, t, rfl⟩
set_option maxRecDepth 100000 in
set_option maxHeartbeats 6400000 in
theorem cmread_yes (k : Int) (A : Option Addr) (n c m : Nat) (xs : List Int) (w : World) (hx : Bytes w w.heap.size A n xs) (h : cmRd k n = true) (hm : n = 4 * m) (hn : n ≤ 4000) :
    Calls Tryd.prog 10 #[.int .i64 k, .slice A n c] w fun e w' => ∃ A' c', e = .returned (.tuple #[.agg (atc (atL k false A' m c')), .int .i64 0]) ∧ w'.ownsRow w.heap.size 24 1 (.slice A' m c') m ((nums 4 m xs).map (Value.int .u32)) ∧ Below w.heap.size w w' := by
  have hb0 := bl_alloc (bl_refl w) (.cells #[.int .i64 0, .bool false, .int .u32 0, .int .u32 0, .slice none 0 0, .slice none 0 0, .slice none 0 0, .int .i64 0, .slice none 0 0] 29)
  have hb1 := bl_alloc hb0 (.cells #[.int .i64 k, .bool false, .int .u32 0, .int .u32 0, .slice none 0 0, .slice none 0 0, .slice none 0 0, .int .i64 0, .slice none 0 0] 29)
  have o0 := (Own.new w 29 #[.int .i64 0, .bool false, .int .u32 0, .int .u32 0, .slice none 0 0, .slice none 0 0, .slice none 0 0, .int .i64 0, .slice none 0 0]).alloc (.cells #[.int .i64 k, .bool false, .int .u32 0, .int .u32 0, .slice none 0 0, .slice none 0 0, .slice none 0 0, .int .i64 0, .slice none 0 0] 29)
  have o1 := Own.new (w.alloc (.cells #[.int .i64 0, .bool false, .int .u32 0, .int .u32 0, .slice none 0 0, .slice none 0 0, .slice none 0 0, .int .i64 0, .slice none 0 0] 29)) 29 #[.int .i64 k, .bool false, .int .u32 0, .int .u32 0, .slice none 0 0, .slice none 0 0, .slice none 0 0, .int .i64 0, .slice none 0 0]
  rw [show (w.alloc (.cells #[.int .i64 0, .bool false, .int .u32 0, .int .u32 0, .slice none 0 0, .slice none 0 0, .slice none 0 0, .int .i64 0, .slice none 0 0] 29)).heap.size = w.heap.size + 1 by simp] at o1
  have hG := Lib.hid (cmgroup_any k)
  have hg3 := cmG_le k
  have hrm := cm_rem n (cmG k)
  have hd := of_decide_eq_true h
  have hX := Lib.hid ((hx.below hb1).more hb1.size)
  have hL := Lib.hid (show xs.length = 4 * m by rw [← hx.1]; exact hm)
  have HMn := Lib.hid hm
  rw [hd.2.2] at hrm
  have hg0 := hd.1
  have hn0 := hd.2.1
  have hm1 : m ≤ 1000 := by omega
  clear h hd hx hm
  generalize cmG k = g at *
  have hw4 : IntKind.i64.wrap (4 * (g : Int)) = 4 * (g : Int) := IntWalk.i64_in _ (by omega)
  have q1 : ((g : Int) == 0) = false := by simp; omega
  have q2 : ((n : Int) == 0) = false := by simp; omega
  have hgz : ¬ (4 * (g : Int)) = 0 := by omega
  unfold atL atc
  dsimp only
  clear hg0 hn0
  go_enter Tryd.func10, Tryd.ntmps10
  go_wp2_with fail
  refine (hG.out _).mono ?_
  rintro e w' ⟨rfl, rfl⟩
  go_wp2_with fail
  refine (new_any A n c xs _ hX.out (by omega)).mono ?_
  rintro e w1 ⟨gr, rfl, hgr, hr, hbn⟩
  have rB := hr.toB
  have hb2 := bl_trans hb1 hbn
  have oA := o1.step hbn
  have oZ := o0.step hbn
  have hgl := rB.lt
  have hs2 : w.heap.size + 1 + 1 ≤ w1.heap.size := by have := hbn.size; simpa using this
  have hgr2 : w.heap.size + 1 + 1 ≤ gr := by simpa using hgr
  clear hb0 hb1 hbn o0 o1 hr hX hrm hgr
  go_wp2_with fail
  go_loopw [9] (fun _ wr => ∃ (q : Nat) (A2 : Option Addr) (c2 : Nat), q ≤ m ∧ wr.ownsRow w1.heap.size 24 1 (.slice A2 q c2) q ((nums 4 q xs).map (Value.int .u32)) ∧ Own wr (w.heap.size + 1) 29 #[.int .i64 k, .bool false, .int .u32 0, .int .u32 0, .slice none 0 0, .slice A2 q c2, .slice none 0 0, .int .i64 0, .slice none 0 0] ∧ Own wr w.heap.size 29 #[.int .i64 0, .bool false, .int .u32 0, .int .u32 0, .slice none 0 0, .slice none 0 0, .slice none 0 0, .int .i64 0, .slice none 0 0] ∧ RdrB w1.heap.size wr gr (xs.drop (4 * q)) (4 * q) ∧ Below w.heap.size w wr) (fun _ wr => m - lenCell wr ⟨w.heap.size + 1, 5, none⟩)
  case atStart => exact ⟨0, none, 0, Nat.zero_le _, World.ownsRow_nil _ _ _ _, oA, oZ, by simpa using rB, hb2⟩
  case round =>
    obtain ⟨q, A2, c2, hq, hrow, oq, oz, rr, hbq⟩ := hrel
    clear oA oZ rB hb2
    have hlc := lenCell_eq (oq.cell (i := 5) rfl)
    have HLc := Lib.hid hlc
    clear hlc
    obtain ⟨ys, hys⟩ : ∃ ys, xs.drop (4 * q) = ys := ⟨_, rfl⟩
    have hyl : ys.length + 4 * q = n := by
      have h1 := congrArg List.length hys
      rw [List.length_drop, hL.out] at h1
      have := HMn.out
      omega
    have hnu := nums_succ 4 q xs
    rw [show q * 4 = 4 * q from Nat.mul_comm q 4, hys] at hnu
    rw [hys] at rr
    have HYs := Lib.hid hys
    clear hys
    by_cases hlt : q < m
    · obtain ⟨a, b, cc, d, t, rfl⟩ := four_of (ys := ys) (by have := HMn.out; omega)
      have hnu2 : nums 4 (q + 1) xs = nums 4 q xs ++ [big [a, b, cc, d]] := hnu
      have hdr : xs.drop (4 * (q + 1)) = t := by
        rw [show 4 * (q + 1) = 4 * q + 4 by omega, ← List.drop_drop, HYs.out]
        rfl
      have HNu := Lib.hid (show (nums 4 (q + 1) xs).map (Value.int .u32) = (nums 4 q xs).map (Value.int .u32) ++ [.int .u32 (big [a, b, cc, d])] by rw [hnu2, List.map_append]; rfl)
      have HDr := Lib.hid hdr
      simp only [List.length_cons] at hyl
      have hlf := Lib.hid (left_any gr _ (4 * q) wr rr.rdr)
      have hN := number_yesB w1.heap.size gr (a :: b :: cc :: d :: t) (4 * q) 4 wr rr (by simp; omega) (by omega) (by omega) (by omega) (by simp; omega)
      rw [show (a :: b :: cc :: d :: t).take (4 : Int).toNat = [a, b, cc, d] from rfl, show (a :: b :: cc :: d :: t).drop (4 : Int).toNat = t from rfl, show 4 * q + (4 : Int).toNat = 4 * (q + 1) by show 4 * q + 4 = _; omega] at hN
      have HN := Lib.hid hN
      have hgt := rr.typedC
      generalize big [a, b, cc, d] = x at *
      have HRow := Lib.hid hrow
      have HBq := Lib.hid hbq
      clear hnu hnu2 hdr hN rr hrow hbq
      go_wp2_with fail
      refine hlf.out.mono ?_
      rintro e w' ⟨rfl, rfl⟩
      go_wp2_with fail
      refine HN.out.mono ?_
      rintro e w2 ⟨rfl, r2, hg2⟩
      have R2 : Rest wr w2 (fun i => i = gr) := Rest.of_grown hg2 (fun j hj => (Option.some.inj hj).symm)
      have row2 := row_rest HRow.out R2 (fun j hj e => (row_typed HRow.out hj).1.ne hgt cr_types.2.1 e)
      have oq2 := R2.own oq (oq.typed.ne hgt cr_types.1)
      have oz2 := R2.own oz (oz.typed.ne hgt cr_types.1)
      have hbq2 := HBq.out.grown hg2 HBq.out.size (fun j hj => by have := Option.some.inj hj; omega)
      have hw1s := r2.size
      have e5 := oq2.cell (i := 5) rfl
      have hbs2 := hbq2.size
      clear R2 oq oz hlf hg2
      go_wp2_with (at_builtin; refine wpList_append_at _ rfl _ _ rfl sl_u32 w1.heap.size _ q _ rfl (row2.alloc _) (w2.heap.size + 1) (some ⟨w2.heap.size, 0, none⟩) 1 1 [_] rfl rfl (Shows.of_owned (Own.new _ _ _) (by simp)) (one1 rfl) (by unfold maxLen; omega) (by omega) (by simp; omega) ?_; intro v3 w3 ho3 hg3 _; obtain ⟨A3, c3, rfl⟩ := own_form ho3; have oq3 := (oq2.alloc (.cells #[.int .u32 x] 24)).grown hg3 (fun e => by have := own_base row2 _ e.symm; omega); have hc5 := oq3.cell (i := 5) rfl; have hf5 := oq3.frozen 5)
      have oz3 := (oz2.alloc (.cells #[.int .u32 x] 24)).grown hg3 (fun e => by have := own_base row2 _ e.symm; omega)
      have r3 := (r2.below (bl_alloc (bl_refl w2) (.cells #[.int .u32 x] 24))).keep hg3.size (fun i hi => hg3.block i (by rcases hi with hi | rfl; (simp; omega); (have := r2.lt; simp; omega)) (fun e => by have := own_base row2 _ e.symm; omega))
      have r4 := r3.far9 (i := 5) oq3 (by omega) (.slice A3 (q + 1) c3)
      have oq4 := oq3.set_ 5 (.slice A3 (q + 1) c3)
      have oz4 := oz3.far (p := ⟨w.heap.size + 1, 5, none⟩) (by simp) (.slice A3 (q + 1) c3)
      have row4 := row_rest ho3 (Rest.setCell w3 ⟨w.heap.size + 1, 5, none⟩ (.slice A3 (q + 1) c3)) (fun j hj e => by have := (row_typed ho3 hj).2; dsimp only at e; omega)
      have hb4 := ((hbq2.alloc hbq2.size (.cells #[.int .u32 x] 24)).grown hg3 (by simp; omega) (fun j hj => by have := own_base row2 _ hj; omega)).setCell (p := ⟨w.heap.size + 1, 5, none⟩) (by simp) (.slice A3 (q + 1) c3)
      rw [← HNu.out] at row4
      rw [← HDr.out] at r4
      have hl4 := Lib.hid (lenCell_eq (oq4.cell (i := 5) rfl))
      simp only [List.setIfInBounds_toArray, List.set_cons_succ, List.set_cons_zero] at oq4
      go_wp2
      go_roundw
      case rel => exact ⟨q + 1, A3, c3, by omega, row4, oq4, oz4, r4, hb4⟩
      case measure => rw [hl4.out, HLc.out]; omega
    · obtain rfl : q = m := by omega
      have hy0 : ys = [] := List.eq_nil_of_length_eq_zero (by have := HMn.out; omega)
      subst hy0
      have hlf := Lib.hid (left_any gr [] (4 * q) wr rr.rdr)
      obtain ⟨e0, e1, e2, e3, e4, e5, e6, e7, e8⟩ := at_cells oq
      have HRow := Lib.hid hrow
      have hbs := hbq.size
      clear hrow hnu
      go_wp2_with (first
        | (go_at_call 37; refine hlf.out.mono ?_; rintro e w' ⟨rfl, rfl⟩)
        | (refine wpList_store_row rfl 29 _ _ rfl w.heap.size #[.int .i64 k, .bool false, .int .u32 0, .int .u32 0, .slice none 0 0, .slice A2 q c2, .slice none 0 0, .int .i64 0, .slice none 0 0] rfl rfl 29 #[.int .i64 0, .bool false, .int .u32 0, .int .u32 0, .slice none 0 0, .slice none 0 0, .slice none 0 0, .int .i64 0, .slice none 0 0] oz (at_info9 _ _ _ _ _ _ _ _ _) rfl (by simp [Value.oneCell']) ?_))
      have row5 := own_leG (row_rest HRow.out (⟨rfl, rfl, rfl, by simp, fun i _ hn => setRow_other wr w.heap.size i _ hn⟩ : Rest wr (wr.setRow w.heap.size #[.int .i64 k, .bool false, .int .u32 0, .int .u32 0, .slice none 0 0, .slice A2 q c2, .slice none 0 0, .int .i64 0, .slice none 0 0]) (fun i => i = w.heap.size)) (fun j hj e => (row_typed HRow.out hj).1.ne oz.typed (Ne.symm cr_types.2.2) e)) (show w.heap.size ≤ w1.heap.size by omega)
      exact bodyPost_ret (results_cell_tmp (p := 4) (t := 5) (fn := Tryd.f10) rfl _ _ w.heap.size 29 _ _ rfl oz.setRow at_desc rfl (at_info9 _ _ _ _ _ _ _ _ _)) rfl ⟨A2, c2, rfl, row5, bl_setRow hbq (Nat.le_refl _)⟩
end Go.Proofs.YtngeldgohijheaaDoor

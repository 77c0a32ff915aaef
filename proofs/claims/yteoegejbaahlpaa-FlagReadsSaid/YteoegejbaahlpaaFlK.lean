/- peerageref10.Read -/
import Derived.Test.YteoegejbaahlpaaFlH
import Derived.Test.YteoegejbaahlpaaQread
namespace Go.Proofs.Yteoegejbaahlpaa
open Go.RowKit

theorem drew_four {W : World} {a b c d : Addr} {x y z t : Value} (h1 : W.cell? a = some x) (h2 : W.cell? b = some y) (h3 : W.cell? c = some z) (h4 : W.cell? d = some t) :
    W.drew.cell? a = some x ∧ W.drew.cell? b = some y ∧ W.drew.cell? c = some z ∧ W.drew.cell? d = some t := ⟨h1, h2, h3, h4⟩
def RHeadTo (xs : List Int) (p : Nat) (e : Ending) : Prop :=
  ∃ A1 n1 c1 p1, e = .returned (.tuple #[.agg #[.slice A1 n1 c1, .int .i64 p1], .agg (hR xs), .bool (hOk xs)]) ∧ (hOk xs = true → p1 = ((p + hN xs : Nat) : Int))
set_option maxRecDepth 100000 in
theorem rhd_desc : Try.prog.underlying 53 = some (.struct (Try.prog.fieldsOf 53)) := by kernel_rfl
set_option maxRecDepth 100000 in
theorem rhd_info (a b c : Value) : (Try.prog.info? 53).map (·.size) = some (#[a, b, c] : Array Value).size := by kernel_rfl

set_option maxRecDepth 100000 in
set_option maxHeartbeats 800000 in
theorem rfread_short (xs : List Int) (A : Option Addr) (n c p : Nat) (w : World) (hn : n < 2) (hx : xs.length = n) :
    Calls Try.prog 38 #[.agg #[.slice A n c, .int .i64 p]] w fun e w' => RHeadTo xs p e ∧ Below w.heap.size w w' := by
  have HX := Lib.hid (show hR xs = #[.int .i64 0, .int .i64 0, .int .i64 0] ∧ hOk xs = false by
    match xs, hx with
    | [], _ => exact ⟨rfl, rfl⟩
    | [a], _ => exact ⟨rfl, rfl⟩
    | a :: b :: zs, hx => (exfalso; simp at hx; omega))
  clear hx
  have o1 := (((Own.new w 64 #[.slice A n c, .int .i64 p]).alloc (.cells #[.slice none 0 0, .int .i64 0] 64)).alloc (.cells #[.int .i64 0, .int .i64 0, .int .i64 0] 53))
  have o2 := ((Own.new (w.alloc (.cells #[.slice A n c, .int .i64 p] 64)) 64 #[.slice none 0 0, .int .i64 0]).alloc (.cells #[.int .i64 0, .int .i64 0, .int .i64 0] 53))
  have o3 := Own.new ((w.alloc (.cells #[.slice A n c, .int .i64 p] 64)).alloc (.cells #[.slice none 0 0, .int .i64 0] 64)) 53 #[.int .i64 0, .int .i64 0, .int .i64 0]
  have hb0 := bl_alloc (bl_alloc (bl_alloc (bl_refl w) (.cells #[.slice A n c, .int .i64 p] 64)) (.cells #[.slice none 0 0, .int .i64 0] 64)) (.cells #[.int .i64 0, .int .i64 0, .int .i64 0] 53)
  have hs1 : (w.alloc (.cells #[.slice A n c, .int .i64 p] 64)).heap.size = w.heap.size + 1 := by simp
  have hs2 : ((w.alloc (.cells #[.slice A n c, .int .i64 p] 64)).alloc (.cells #[.slice none 0 0, .int .i64 0] 64)).heap.size = w.heap.size + 1 + 1 := by simp
  rw [hs1] at o2
  rw [hs2] at o3
  clear hs1 hs2
  go_enter Try.func38, Try.ntmps38
  go_wp2_with fail
  refine (rtake_no A n c p 2 _ (.inr (by omega)) (by omega)).mono ?_
  rintro e w1 ⟨rfl, hb1⟩
  have p1 := (o1.step hb1).alloc (.cells #[.slice A n c, .int .i64 p] 64)
  have p2 := (o2.step hb1).alloc (.cells #[.slice A n c, .int .i64 p] 64)
  have p3 := (o3.step hb1).alloc (.cells #[.slice A n c, .int .i64 p] 64)
  have hbW := bl_alloc (bl_trans hb0 hb1) (.cells #[.slice A n c, .int .i64 p] 64)
  clear o1 o2 o3 hb0 hb1
  go_upto_region 2 with (fail)
  generalize w1.alloc (.cells #[.slice A n c, .int .i64 p] 64) = W at p1 p2 p3 hbW ⊢
  have c10 := p1.cell (i := 0) (v := .slice A n c) rfl
  have c11 := p1.cell (i := 1) (v := .int .i64 p) rfl
  have c20 := p2.cell (i := 0) (v := .slice none 0 0) rfl
  have c21 := p2.cell (i := 1) (v := .int .i64 0) rfl
  have f20 := p2.frozen 0
  have f21 := p2.frozen 1
  have q2 := (own_two p2 (.slice A n c) (.int .i64 p)).1
  have q3 := own_far (o := 1) (own_far (o := 0) p3 (b := w.heap.size + 1) (by omega) (.slice A n c)) (b := w.heap.size + 1) (by omega) (.int .i64 p)
  have c30 := q3.cell (i := 0) (v := .int .i64 0) rfl
  have c31 := q3.cell (i := 1) (v := .int .i64 0) rfl
  have c32 := q3.cell (i := 2) (v := .int .i64 0) rfl
  have f30 := q3.frozen 0
  have f31 := q3.frozen 1
  have f32 := q3.frozen 2
  have hlt := p3.lt
  have hlt2 := p2.lt
  have hbQ := (hbW.setCell (p := ⟨w.heap.size + 1, 0, none⟩) (Nat.le_succ _) (.slice A n c)).setCell (p := ⟨w.heap.size + 1, 1, none⟩) (Nat.le_succ _) (.int .i64 p)
  go_wp2
  have r3 := own_three q3 (.int .i64 0) (.int .i64 0) (.int .i64 0)
  have r2 := own_far (o := 2) (own_far (o := 1) (own_far (o := 0) q2 (b := w.heap.size + 1 + 1) (by omega) (.int .i64 0)) (b := w.heap.size + 1 + 1) (by omega) (.int .i64 0)) (b := w.heap.size + 1 + 1) (by omega) (.int .i64 0)
  have hbF := ((hbQ.setCell (p := ⟨w.heap.size + 1 + 1, 0, none⟩) (by dsimp only; omega) (.int .i64 0)).setCell (p := ⟨w.heap.size + 1 + 1, 1, none⟩) (by dsimp only; omega) (.int .i64 0)).setCell (p := ⟨w.heap.size + 1 + 1, 2, none⟩) (by dsimp only; omega) (.int .i64 0)
  refine bodyPost_ret (results_2cells (p := 2) (q := 3) (t := 4) (fn := Try.f38) rfl _ _ (w.heap.size + 1) 64 #[.slice A n c, .int .i64 p] _ (w.heap.size + 1 + 1) 53 #[.int .i64 0, .int .i64 0, .int .i64 0] _ rfl r2 rrd_desc rfl (rrd_info _ _) rfl r3 rhd_desc rfl (rhd_info _ _ _)) rfl ⟨⟨A, n, c, p, by rw [HX.out.1, HX.out.2]; rfl, (by rw [HX.out.2]; intro h; cases h)⟩, hbF⟩

set_option maxRecDepth 100000 in
set_option maxHeartbeats 1600000 in
theorem rfread_no1 (a b : Int) (zs : List Int) (A : Option Addr) (n c p : Nat) (w : World) (hx : Bytes w w.heap.size A n (a :: b :: zs)) (hc : n ≤ c) (_hn : n ≤ 100000000) (hp : p ≤ 100000000) (hb : (bits BinOp.and IntKind.i64 a 16 != 0) = false) (hz : (zs.length : Int) < 1) :
    Calls Try.prog 38 #[.agg #[.slice A n c, .int .i64 p]] w fun e w' => RHeadTo (a :: b :: zs) p e ∧ Below w.heap.size w w' := by
  have hfk : fk a = 1 := by unfold fk; rw [hb]; rfl
  have hnl1 : n ≤ zs.length + 2 := Nat.le_of_eq hx.1
  have hnl2 : zs.length + 2 ≤ n := Nat.le_of_eq hx.1.symm
  have hra := hx.2.1 a (List.mem_cons_self ..)
  have hrb := hx.2.1 b (List.mem_cons_of_mem _ (List.mem_cons_self ..))
  have ha0 := hra.1
  have ha1 := hra.2
  have hbb0 := hrb.1
  have hbb1 := hrb.2
  have HB0 := Lib.hid hx
  obtain ⟨bb, oo, rfl, hbl, hca, _, _⟩ := hx.at_ (k := 0) (by omega)
  obtain ⟨b', o', e, _, hcb, _, _⟩ := hx.at_ (k := 1) (by omega)
  cases e
  have hca : w.cell? ⟨bb, oo, none⟩ = some (.int .u8 a) := hca
  have hcb : w.cell? ⟨bb, oo + 1, none⟩ = some (.int .u8 b) := hcb
  have HX := Lib.hid (show hR (a :: b :: zs) = #[.int .i64 0, .int .i64 0, .int .i64 0] ∧ hOk (a :: b :: zs) = false by
    have h0 : ¬ fk a ≤ (zs.length : Int) := by omega
    constructor
    · simp only [hR]; rw [if_neg h0]
    · simp only [hOk]; simp; omega)
  clear hx hra hrb hfk
  have o1 := (((Own.new w 64 #[.slice (some ⟨bb, oo, none⟩) n c, .int .i64 p]).alloc (.cells #[.slice none 0 0, .int .i64 0] 64)).alloc (.cells #[.int .i64 0, .int .i64 0, .int .i64 0] 53))
  have o2 := ((Own.new (w.alloc (.cells #[.slice (some ⟨bb, oo, none⟩) n c, .int .i64 p] 64)) 64 #[.slice none 0 0, .int .i64 0]).alloc (.cells #[.int .i64 0, .int .i64 0, .int .i64 0] 53))
  have o3 := Own.new ((w.alloc (.cells #[.slice (some ⟨bb, oo, none⟩) n c, .int .i64 p] 64)).alloc (.cells #[.slice none 0 0, .int .i64 0] 64)) 53 #[.int .i64 0, .int .i64 0, .int .i64 0]
  have hb0 := bl_alloc (bl_alloc (bl_alloc (bl_refl w) (.cells #[.slice (some ⟨bb, oo, none⟩) n c, .int .i64 p] 64)) (.cells #[.slice none 0 0, .int .i64 0] 64)) (.cells #[.int .i64 0, .int .i64 0, .int .i64 0] 53)
  have hs1 : (w.alloc (.cells #[.slice (some ⟨bb, oo, none⟩) n c, .int .i64 p] 64)).heap.size = w.heap.size + 1 := by simp
  have hs2 : ((w.alloc (.cells #[.slice (some ⟨bb, oo, none⟩) n c, .int .i64 p] 64)).alloc (.cells #[.slice none 0 0, .int .i64 0] 64)).heap.size = w.heap.size + 1 + 1 := by simp
  rw [hs1] at o2
  rw [hs2] at o3
  clear hs1 hs2
  go_enter Try.func38, Try.ntmps38
  go_wp2_with fail
  refine (rtake_yes (some ⟨bb, oo, none⟩) n c p 2 _ hc (by omega) (by omega) (by omega) (by omega) (by omega)).mono ?_
  rintro e w1 ⟨A1, c1, rfl, hc1, HBh, hb1⟩
  have hb5 := bl_alloc hb1 (.cells #[.slice A1 (n - 2) c1, .int .i64 ((p : Int) + 2)] 64)
  have p1 := o1.step hb5
  have p2 := o2.step hb5
  have p3 := o3.step hb5
  have p5 := Own.new w1 64 #[.slice A1 (n - 2) c1, .int .i64 ((p : Int) + 2)]
  have hbW := bl_trans hb0 hb5
  have h15 := (o3.step hb1).lt
  clear o1 o2 o3 hb0 hb1 hb5
  go_upto_region 2 with (fail)
  generalize hb5n : w1.heap.size = b5 at p5 h15 ⊢
  generalize w1.alloc (.cells #[.slice A1 (n - 2) c1, .int .i64 ((p : Int) + 2)] 64) = W at p1 p2 p3 p5 hbW ⊢
  clear hb5n
  have hca' : W.cell? ⟨bb, oo, none⟩ = some (.int .u8 a) := (hbW.cell (p := ⟨bb, oo, none⟩) hbl).trans hca
  have hcb' : W.cell? ⟨bb, oo + 1, none⟩ = some (.int .u8 b) := (hbW.cell (p := ⟨bb, oo + 1, none⟩) hbl).trans hcb
  go_wp2_with fail
  refine (rbits_any a 16 _).mono ?_
  rw [hb]
  rintro e w' ⟨rfl, rfl⟩
  have c50 := p5.cell (i := 0) (v := .slice A1 (n - 2) c1) rfl
  have c51 := p5.cell (i := 1) (v := .int .i64 ((p : Int) + 2)) rfl
  go_wp2_with fail
  refine (rnum_no A1 (n - 2) c1 ((p : Int) + 2) 1 _ (by omega) (by omega) (by omega) (by omega)).mono ?_
  rintro e w2 ⟨rfl, hb2⟩
  have o1 := p1.step hb2
  have o2 := p2.step hb2
  have o3 := p3.step hb2
  have o5 := p5.step hb2
  have hbV := bl_trans hbW hb2
  clear p1 p2 p3 p5 hbW hb2 c50 c51 hca' hcb'
  have c50 := o5.cell (i := 0) (v := .slice A1 (n - 2) c1) rfl
  have c51 := o5.cell (i := 1) (v := .int .i64 ((p : Int) + 2)) rfl
  have f50 := o5.frozen 0
  have f51 := o5.frozen 1
  have p5 := (own_two o5 (.slice A1 (n - 2) c1) (.int .i64 ((p : Int) + 2))).1
  have p1 := own_far (o := 1) (own_far (o := 0) o1 (b := b5) (by omega) (.slice A1 (n - 2) c1)) (b := b5) (by omega) (.int .i64 ((p : Int) + 2))
  have p2 := own_far (o := 1) (own_far (o := 0) o2 (b := b5) (by omega) (.slice A1 (n - 2) c1)) (b := b5) (by omega) (.int .i64 ((p : Int) + 2))
  have p3 := own_far (o := 1) (own_far (o := 0) o3 (b := b5) (by omega) (.slice A1 (n - 2) c1)) (b := b5) (by omega) (.int .i64 ((p : Int) + 2))
  have hbW := (hbV.setCell (p := ⟨b5, 0, none⟩) (by dsimp only; omega) (.slice A1 (n - 2) c1)).setCell (p := ⟨b5, 1, none⟩) (by dsimp only; omega) (.int .i64 ((p : Int) + 2))
  go_upto_region 8 with (fail)
  generalize (w2.setCell ⟨b5, 0, none⟩ (.slice A1 (n - 2) c1)).setCell ⟨b5, 1, none⟩ (.int .i64 ((p : Int) + 2)) = V at p1 p2 p3 p5 hbW ⊢
  clear o1 o2 o3 o5 hbV c50 c51 f50 f51
  have c10 := p1.cell (i := 0) (v := .slice (some ⟨bb, oo, none⟩) n c) rfl
  have c11 := p1.cell (i := 1) (v := .int .i64 p) rfl
  have c20 := p2.cell (i := 0) (v := .slice none 0 0) rfl
  have c21 := p2.cell (i := 1) (v := .int .i64 0) rfl
  have f20 := p2.frozen 0
  have f21 := p2.frozen 1
  have q2 := (own_two p2 (.slice (some ⟨bb, oo, none⟩) n c) (.int .i64 p)).1
  have q3 := own_far (o := 1) (own_far (o := 0) p3 (b := w.heap.size + 1) (by omega) (.slice (some ⟨bb, oo, none⟩) n c)) (b := w.heap.size + 1) (by omega) (.int .i64 p)
  have c30 := q3.cell (i := 0) (v := .int .i64 0) rfl
  have c31 := q3.cell (i := 1) (v := .int .i64 0) rfl
  have c32 := q3.cell (i := 2) (v := .int .i64 0) rfl
  have f30 := q3.frozen 0
  have f31 := q3.frozen 1
  have f32 := q3.frozen 2
  have hlt := p3.lt
  have hlt2 := p2.lt
  have hbQ := (hbW.setCell (p := ⟨w.heap.size + 1, 0, none⟩) (Nat.le_succ _) (.slice (some ⟨bb, oo, none⟩) n c)).setCell (p := ⟨w.heap.size + 1, 1, none⟩) (Nat.le_succ _) (.int .i64 p)
  go_wp2
  have r3 := own_three q3 (.int .i64 0) (.int .i64 0) (.int .i64 0)
  have r2 := own_far (o := 2) (own_far (o := 1) (own_far (o := 0) q2 (b := w.heap.size + 1 + 1) (by omega) (.int .i64 0)) (b := w.heap.size + 1 + 1) (by omega) (.int .i64 0)) (b := w.heap.size + 1 + 1) (by omega) (.int .i64 0)
  have hbF := ((hbQ.setCell (p := ⟨w.heap.size + 1 + 1, 0, none⟩) (by dsimp only; omega) (.int .i64 0)).setCell (p := ⟨w.heap.size + 1 + 1, 1, none⟩) (by dsimp only; omega) (.int .i64 0)).setCell (p := ⟨w.heap.size + 1 + 1, 2, none⟩) (by dsimp only; omega) (.int .i64 0)
  refine bodyPost_ret (results_2cells (p := 2) (q := 3) (t := 4) (fn := Try.f38) rfl _ _ (w.heap.size + 1) 64 #[.slice (some ⟨bb, oo, none⟩) n c, .int .i64 p] _ (w.heap.size + 1 + 1) 53 #[.int .i64 0, .int .i64 0, .int .i64 0] _ rfl r2 rrd_desc rfl (rrd_info _ _) rfl r3 rhd_desc rfl (rhd_info _ _ _)) rfl ⟨⟨some ⟨bb, oo, none⟩, n, c, p, by rw [HX.out.1, HX.out.2]; rfl, (by rw [HX.out.2]; intro h; cases h)⟩, hbF⟩

set_option maxRecDepth 100000 in
set_option maxHeartbeats 1600000 in
theorem rfread_yes1 (a b : Int) (zs : List Int) (A : Option Addr) (n c p : Nat) (w : World) (hx : Bytes w w.heap.size A n (a :: b :: zs)) (hc : n ≤ c) (hn : n ≤ 100000000) (hp : p ≤ 100000000) (hb : (bits BinOp.and IntKind.i64 a 16 != 0) = false) (hz : 1 ≤ (zs.length : Int)) :
    Calls Try.prog 38 #[.agg #[.slice A n c, .int .i64 p]] w fun e w' => RHeadTo (a :: b :: zs) p e ∧ Below w.heap.size w w' := by
  have hfk : fk a = 1 := by unfold fk; rw [hb]; rfl
  have hnl1 : n ≤ zs.length + 2 := Nat.le_of_eq hx.1
  have hnl2 : zs.length + 2 ≤ n := Nat.le_of_eq hx.1.symm
  have hra := hx.2.1 a (List.mem_cons_self ..)
  have hrb := hx.2.1 b (List.mem_cons_of_mem _ (List.mem_cons_self ..))
  have ha0 := hra.1
  have ha1 := hra.2
  have hbb0 := hrb.1
  have hbb1 := hrb.2
  have HB0 := Lib.hid hx
  obtain ⟨bb, oo, rfl, hbl, hca, _, _⟩ := hx.at_ (k := 0) (by omega)
  obtain ⟨b', o', e, _, hcb, _, _⟩ := hx.at_ (k := 1) (by omega)
  cases e
  have hca : w.cell? ⟨bb, oo, none⟩ = some (.int .u8 a) := hca
  have hcb : w.cell? ⟨bb, oo + 1, none⟩ = some (.int .u8 b) := hcb
  have HX := Lib.hid (show hR (a :: b :: zs) = #[.int .i64 a, .int .i64 b, .int .i64 (big (zs.take 1))] ∧ hOk (a :: b :: zs) = true ∧ hN (a :: b :: zs) = 2 + 1 by
    have h0 : fk a ≤ (zs.length : Int) := by omega
    refine ⟨?_, ?_, ?_⟩
    · simp only [hR]; rw [if_pos h0, hfk]; rfl
    · simp only [hOk]; simp; omega
    · unfold hN; rw [List.headD_cons, hfk]; rfl)
  have hbig := big_range 1 (zs.take 1) (by rw [List.length_take]; omega) (fun x hx' => HB0.out.2.1 x (List.mem_cons_of_mem _ (List.mem_cons_of_mem _ (List.mem_of_mem_take hx'))))
  have hbg0 := hbig.1
  have hbg1 : big (zs.take 1) < 65536 := by have := hbig.2; have e2 : (256 : Int) ^ 2 = 65536 := rfl; have e1 : (256 : Int) ^ 1 = 256 := rfl; omega
  clear hbig
  clear hx hra hrb hfk
  have o1 := (((Own.new w 64 #[.slice (some ⟨bb, oo, none⟩) n c, .int .i64 p]).alloc (.cells #[.slice none 0 0, .int .i64 0] 64)).alloc (.cells #[.int .i64 0, .int .i64 0, .int .i64 0] 53))
  have o2 := ((Own.new (w.alloc (.cells #[.slice (some ⟨bb, oo, none⟩) n c, .int .i64 p] 64)) 64 #[.slice none 0 0, .int .i64 0]).alloc (.cells #[.int .i64 0, .int .i64 0, .int .i64 0] 53))
  have o3 := Own.new ((w.alloc (.cells #[.slice (some ⟨bb, oo, none⟩) n c, .int .i64 p] 64)).alloc (.cells #[.slice none 0 0, .int .i64 0] 64)) 53 #[.int .i64 0, .int .i64 0, .int .i64 0]
  have hb0 := bl_alloc (bl_alloc (bl_alloc (bl_refl w) (.cells #[.slice (some ⟨bb, oo, none⟩) n c, .int .i64 p] 64)) (.cells #[.slice none 0 0, .int .i64 0] 64)) (.cells #[.int .i64 0, .int .i64 0, .int .i64 0] 53)
  have hs1 : (w.alloc (.cells #[.slice (some ⟨bb, oo, none⟩) n c, .int .i64 p] 64)).heap.size = w.heap.size + 1 := by simp
  have hs2 : ((w.alloc (.cells #[.slice (some ⟨bb, oo, none⟩) n c, .int .i64 p] 64)).alloc (.cells #[.slice none 0 0, .int .i64 0] 64)).heap.size = w.heap.size + 1 + 1 := by simp
  rw [hs1] at o2
  rw [hs2] at o3
  clear hs1 hs2
  go_enter Try.func38, Try.ntmps38
  go_wp2_with fail
  refine (rtake_yes (some ⟨bb, oo, none⟩) n c p 2 _ hc (by omega) (by omega) (by omega) (by omega) (by omega)).mono ?_
  rintro e w1 ⟨A1, c1, rfl, hc1, HBh, hb1⟩
  have hb5 := bl_alloc hb1 (.cells #[.slice A1 (n - 2) c1, .int .i64 ((p : Int) + 2)] 64)
  have p1 := o1.step hb5
  have p2 := o2.step hb5
  have p3 := o3.step hb5
  have p5 := Own.new w1 64 #[.slice A1 (n - 2) c1, .int .i64 ((p : Int) + 2)]
  have hbW := bl_trans hb0 hb5
  have h15 := (o3.step hb1).lt
  clear o1 o2 o3 hb0 hb1 hb5
  go_upto_region 2 with (fail)
  generalize hb5n : w1.heap.size = b5 at p5 h15 ⊢
  generalize w1.alloc (.cells #[.slice A1 (n - 2) c1, .int .i64 ((p : Int) + 2)] 64) = W at p1 p2 p3 p5 hbW ⊢
  clear hb5n
  have hca' : W.cell? ⟨bb, oo, none⟩ = some (.int .u8 a) := (hbW.cell (p := ⟨bb, oo, none⟩) hbl).trans hca
  have hcb' : W.cell? ⟨bb, oo + 1, none⟩ = some (.int .u8 b) := (hbW.cell (p := ⟨bb, oo + 1, none⟩) hbl).trans hcb
  go_wp2_with fail
  refine (rbits_any a 16 _).mono ?_
  rw [hb]
  rintro e w' ⟨rfl, rfl⟩
  have c50 := p5.cell (i := 0) (v := .slice A1 (n - 2) c1) rfl
  have c51 := p5.cell (i := 1) (v := .int .i64 ((p : Int) + 2)) rfl
  go_wp2_with fail
  have hy : Bytes W W.heap.size A1 (n - 2) zs := by
    have h := HBh W W.heap.size (a :: b :: zs) ((HB0.out.below hbW).more hbW.size)
    exact h
  refine (rnum_yes A1 (n - 2) c1 zs ((p : Int) + 2) 1 _ hy hc1 (by omega) (by omega) (by omega) (by omega) (by omega) (by omega)).mono ?_
  rintro e w2 ⟨A3, c3, rfl, hc3, _, hb2⟩
  clear hy
  have o1 := p1.step hb2
  have o2 := p2.step hb2
  have o3 := p3.step hb2
  have o5 := p5.step hb2
  have hbV := bl_trans hbW hb2
  clear p1 p2 p3 p5 hbW hb2 c50 c51 hca' hcb'
  have c50 := o5.cell (i := 0) (v := .slice A1 (n - 2) c1) rfl
  have c51 := o5.cell (i := 1) (v := .int .i64 ((p : Int) + 2)) rfl
  have f50 := o5.frozen 0
  have f51 := o5.frozen 1
  have p5 := (own_two o5 (.slice A3 (n - 2 - 1) c3) (.int .i64 ((p : Int) + 2 + 1))).1
  have p1 := own_far (o := 1) (own_far (o := 0) o1 (b := b5) (by omega) (.slice A3 (n - 2 - 1) c3)) (b := b5) (by omega) (.int .i64 ((p : Int) + 2 + 1))
  have p2 := own_far (o := 1) (own_far (o := 0) o2 (b := b5) (by omega) (.slice A3 (n - 2 - 1) c3)) (b := b5) (by omega) (.int .i64 ((p : Int) + 2 + 1))
  have p3 := own_far (o := 1) (own_far (o := 0) o3 (b := b5) (by omega) (.slice A3 (n - 2 - 1) c3)) (b := b5) (by omega) (.int .i64 ((p : Int) + 2 + 1))
  have hbW := (hbV.setCell (p := ⟨b5, 0, none⟩) (by dsimp only; omega) (.slice A3 (n - 2 - 1) c3)).setCell (p := ⟨b5, 1, none⟩) (by dsimp only; omega) (.int .i64 ((p : Int) + 2 + 1))
  go_upto_region 8 with (fail)
  generalize (w2.setCell ⟨b5, 0, none⟩ (.slice A3 (n - 2 - 1) c3)).setCell ⟨b5, 1, none⟩ (.int .i64 ((p : Int) + 2 + 1)) = V at p1 p2 p3 p5 hbW ⊢
  clear o1 o2 o3 o5 hbV c50 c51 f50 f51
  have hca' : V.cell? ⟨bb, oo, none⟩ = some (.int .u8 a) := (hbW.cell (p := ⟨bb, oo, none⟩) hbl).trans hca
  have hcb' : V.cell? ⟨bb, oo + 1, none⟩ = some (.int .u8 b) := (hbW.cell (p := ⟨bb, oo + 1, none⟩) hbl).trans hcb
  have c50 := p5.cell (i := 0) (v := .slice A3 (n - 2 - 1) c3) rfl
  have c51 := p5.cell (i := 1) (v := .int .i64 ((p : Int) + 2 + 1)) rfl
  have c20 := p2.cell (i := 0) (v := .slice none 0 0) rfl
  have c21 := p2.cell (i := 1) (v := .int .i64 0) rfl
  have f20 := p2.frozen 0
  have f21 := p2.frozen 1
  have q2 := (own_two p2 (.slice A3 (n - 2 - 1) c3) (.int .i64 ((p : Int) + 2 + 1))).1
  have q3 := own_far (o := 1) (own_far (o := 0) p3 (b := w.heap.size + 1) (by omega) (.slice A3 (n - 2 - 1) c3)) (b := w.heap.size + 1) (by omega) (.int .i64 ((p : Int) + 2 + 1))
  have c30 := q3.cell (i := 0) (v := .int .i64 0) rfl
  have c31 := q3.cell (i := 1) (v := .int .i64 0) rfl
  have c32 := q3.cell (i := 2) (v := .int .i64 0) rfl
  have f30 := q3.frozen 0
  have f31 := q3.frozen 1
  have f32 := q3.frozen 2
  have hlt := p3.lt
  have hlt2 := p2.lt
  have hbQ := (hbW.setCell (p := ⟨w.heap.size + 1, 0, none⟩) (Nat.le_succ _) (.slice A3 (n - 2 - 1) c3)).setCell (p := ⟨w.heap.size + 1, 1, none⟩) (Nat.le_succ _) (.int .i64 ((p : Int) + 2 + 1))
  have wbg : IntKind.i64.wrap (big (zs.take 1)) = big (zs.take 1) := by rw [IntKind.wrap_i64]; omega
  have wga : IntKind.i64.wrap a = a := by rw [IntKind.wrap_i64]; omega
  have wgb : IntKind.i64.wrap b = b := by rw [IntKind.wrap_i64]; omega
  have n1 : b5 ≠ w.heap.size + 1 := by omega
  have n2 : b5 ≠ w.heap.size + 1 + 1 := by omega
  have n3 : bb ≠ w.heap.size + 1 := by omega
  have n4 : bb ≠ w.heap.size + 1 + 1 := by omega
  go_upto_region 10 with (fail)
  have q5 := own_far (o := 1) (own_far (o := 0) p5 (b := w.heap.size + 1) (by omega) (.slice A3 (n - 2 - 1) c3)) (b := w.heap.size + 1) (by omega) (.int .i64 ((p : Int) + 2 + 1))
  have HS1 := drew_four (q5.cell (i := 0) (v := .slice A3 (n - 2 - 1) c3) rfl) (q5.cell (i := 1) (v := .int .i64 ((p : Int) + 2 + 1)) rfl) ((hbQ.cell (p := ⟨bb, oo, none⟩) hbl).trans hca) ((hbQ.cell (p := ⟨bb, oo + 1, none⟩) hbl).trans hcb)
  have HS0 := drew_four c50 c51 hca' hcb'
  have r3 := own_three q3 (.int .i64 a) (.int .i64 b) (.int .i64 (big (zs.take 1)))
  have r2 := own_far (o := 2) (own_far (o := 1) (own_far (o := 0) q2 (b := w.heap.size + 1 + 1) (by omega) (.int .i64 a)) (b := w.heap.size + 1 + 1) (by omega) (.int .i64 b)) (b := w.heap.size + 1 + 1) (by omega) (.int .i64 (big (zs.take 1)))
  have r5 := own_far (o := 2) (own_far (o := 1) (own_far (o := 0) q5 (b := w.heap.size + 1 + 1) (by omega) (.int .i64 a)) (b := w.heap.size + 1 + 1) (by omega) (.int .i64 b)) (b := w.heap.size + 1 + 1) (by omega) (.int .i64 (big (zs.take 1)))
  have hbF := ((hbQ.setCell (p := ⟨w.heap.size + 1 + 1, 0, none⟩) (by dsimp only; omega) (.int .i64 a)).setCell (p := ⟨w.heap.size + 1 + 1, 1, none⟩) (by dsimp only; omega) (.int .i64 b)).setCell (p := ⟨w.heap.size + 1 + 1, 2, none⟩) (by dsimp only; omega) (.int .i64 (big (zs.take 1)))
  have HS2 := drew_four (r5.cell (i := 0) (v := .slice A3 (n - 2 - 1) c3) rfl) (r5.cell (i := 1) (v := .int .i64 ((p : Int) + 2 + 1)) rfl) ((hbF.cell (p := ⟨bb, oo, none⟩) hbl).trans hca) ((hbF.cell (p := ⟨bb, oo + 1, none⟩) hbl).trans hcb)
  go_region_held3 (fun W => W.cell? ⟨b5, 0, none⟩ = some (.slice A3 (n - 2 - 1) c3) ∧ W.cell? ⟨b5, 1, none⟩ = some (.int .i64 ((p : Int) + 2 + 1)) ∧ W.cell? ⟨bb, oo, none⟩ = some (.int .u8 a) ∧ W.cell? ⟨bb, oo + 1, none⟩ = some (.int .u8 b)) (with_reducible first | exact HS0 | exact HS1 | exact HS2) (fail)
  go_wp2
  refine bodyPost_ret (results_2cells (p := 2) (q := 3) (t := 4) (fn := Try.f38) rfl _ _ (w.heap.size + 1) 64 #[.slice A3 (n - 2 - 1) c3, .int .i64 ((p : Int) + 2 + 1)] _ (w.heap.size + 1 + 1) 53 #[.int .i64 a, .int .i64 b, .int .i64 (big (zs.take 1))] _ rfl r2.drew rrd_desc rfl (rrd_info _ _) rfl r3.drew rhd_desc rfl (rhd_info _ _ _)) rfl ⟨⟨A3, n - 2 - 1, c3, (p : Int) + 2 + 1, by rw [HX.out.1, HX.out.2.1]; rfl, fun _ => by rw [HX.out.2.2]; omega⟩, hbF.drew⟩

set_option maxRecDepth 100000 in
set_option maxHeartbeats 1600000 in
theorem rfread_no2 (a b : Int) (zs : List Int) (A : Option Addr) (n c p : Nat) (w : World) (hx : Bytes w w.heap.size A n (a :: b :: zs)) (hc : n ≤ c) (_hn : n ≤ 100000000) (hp : p ≤ 100000000) (hb : (bits BinOp.and IntKind.i64 a 16 != 0) = true) (hz : (zs.length : Int) < 2) :
    Calls Try.prog 38 #[.agg #[.slice A n c, .int .i64 p]] w fun e w' => RHeadTo (a :: b :: zs) p e ∧ Below w.heap.size w w' := by
  have hfk : fk a = 2 := by unfold fk; rw [hb]; rfl
  have hnl1 : n ≤ zs.length + 2 := Nat.le_of_eq hx.1
  have hnl2 : zs.length + 2 ≤ n := Nat.le_of_eq hx.1.symm
  have hra := hx.2.1 a (List.mem_cons_self ..)
  have hrb := hx.2.1 b (List.mem_cons_of_mem _ (List.mem_cons_self ..))
  have ha0 := hra.1
  have ha1 := hra.2
  have hbb0 := hrb.1
  have hbb1 := hrb.2
  have HB0 := Lib.hid hx
  obtain ⟨bb, oo, rfl, hbl, hca, _, _⟩ := hx.at_ (k := 0) (by omega)
  obtain ⟨b', o', e, _, hcb, _, _⟩ := hx.at_ (k := 1) (by omega)
  cases e
  have hca : w.cell? ⟨bb, oo, none⟩ = some (.int .u8 a) := hca
  have hcb : w.cell? ⟨bb, oo + 1, none⟩ = some (.int .u8 b) := hcb
  have HX := Lib.hid (show hR (a :: b :: zs) = #[.int .i64 0, .int .i64 0, .int .i64 0] ∧ hOk (a :: b :: zs) = false by
    have h0 : ¬ fk a ≤ (zs.length : Int) := by omega
    constructor
    · simp only [hR]; rw [if_neg h0]
    · simp only [hOk]; simp; omega)
  clear hx hra hrb hfk
  have o1 := (((Own.new w 64 #[.slice (some ⟨bb, oo, none⟩) n c, .int .i64 p]).alloc (.cells #[.slice none 0 0, .int .i64 0] 64)).alloc (.cells #[.int .i64 0, .int .i64 0, .int .i64 0] 53))
  have o2 := ((Own.new (w.alloc (.cells #[.slice (some ⟨bb, oo, none⟩) n c, .int .i64 p] 64)) 64 #[.slice none 0 0, .int .i64 0]).alloc (.cells #[.int .i64 0, .int .i64 0, .int .i64 0] 53))
  have o3 := Own.new ((w.alloc (.cells #[.slice (some ⟨bb, oo, none⟩) n c, .int .i64 p] 64)).alloc (.cells #[.slice none 0 0, .int .i64 0] 64)) 53 #[.int .i64 0, .int .i64 0, .int .i64 0]
  have hb0 := bl_alloc (bl_alloc (bl_alloc (bl_refl w) (.cells #[.slice (some ⟨bb, oo, none⟩) n c, .int .i64 p] 64)) (.cells #[.slice none 0 0, .int .i64 0] 64)) (.cells #[.int .i64 0, .int .i64 0, .int .i64 0] 53)
  have hs1 : (w.alloc (.cells #[.slice (some ⟨bb, oo, none⟩) n c, .int .i64 p] 64)).heap.size = w.heap.size + 1 := by simp
  have hs2 : ((w.alloc (.cells #[.slice (some ⟨bb, oo, none⟩) n c, .int .i64 p] 64)).alloc (.cells #[.slice none 0 0, .int .i64 0] 64)).heap.size = w.heap.size + 1 + 1 := by simp
  rw [hs1] at o2
  rw [hs2] at o3
  clear hs1 hs2
  go_enter Try.func38, Try.ntmps38
  go_wp2_with fail
  refine (rtake_yes (some ⟨bb, oo, none⟩) n c p 2 _ hc (by omega) (by omega) (by omega) (by omega) (by omega)).mono ?_
  rintro e w1 ⟨A1, c1, rfl, hc1, HBh, hb1⟩
  have hb5 := bl_alloc hb1 (.cells #[.slice A1 (n - 2) c1, .int .i64 ((p : Int) + 2)] 64)
  have p1 := o1.step hb5
  have p2 := o2.step hb5
  have p3 := o3.step hb5
  have p5 := Own.new w1 64 #[.slice A1 (n - 2) c1, .int .i64 ((p : Int) + 2)]
  have hbW := bl_trans hb0 hb5
  have h15 := (o3.step hb1).lt
  clear o1 o2 o3 hb0 hb1 hb5
  go_upto_region 2 with (fail)
  generalize hb5n : w1.heap.size = b5 at p5 h15 ⊢
  generalize w1.alloc (.cells #[.slice A1 (n - 2) c1, .int .i64 ((p : Int) + 2)] 64) = W at p1 p2 p3 p5 hbW ⊢
  clear hb5n
  have hca' : W.cell? ⟨bb, oo, none⟩ = some (.int .u8 a) := (hbW.cell (p := ⟨bb, oo, none⟩) hbl).trans hca
  have hcb' : W.cell? ⟨bb, oo + 1, none⟩ = some (.int .u8 b) := (hbW.cell (p := ⟨bb, oo + 1, none⟩) hbl).trans hcb
  go_wp2_with fail
  refine (rbits_any a 16 _).mono ?_
  rw [hb]
  rintro e w' ⟨rfl, rfl⟩
  have c50 := p5.cell (i := 0) (v := .slice A1 (n - 2) c1) rfl
  have c51 := p5.cell (i := 1) (v := .int .i64 ((p : Int) + 2)) rfl
  go_wp2_with fail
  refine (rnum_no A1 (n - 2) c1 ((p : Int) + 2) 2 _ (by omega) (by omega) (by omega) (by omega)).mono ?_
  rintro e w2 ⟨rfl, hb2⟩
  have o1 := p1.step hb2
  have o2 := p2.step hb2
  have o3 := p3.step hb2
  have o5 := p5.step hb2
  have hbV := bl_trans hbW hb2
  clear p1 p2 p3 p5 hbW hb2 c50 c51 hca' hcb'
  have c50 := o5.cell (i := 0) (v := .slice A1 (n - 2) c1) rfl
  have c51 := o5.cell (i := 1) (v := .int .i64 ((p : Int) + 2)) rfl
  have f50 := o5.frozen 0
  have f51 := o5.frozen 1
  have p5 := (own_two o5 (.slice A1 (n - 2) c1) (.int .i64 ((p : Int) + 2))).1
  have p1 := own_far (o := 1) (own_far (o := 0) o1 (b := b5) (by omega) (.slice A1 (n - 2) c1)) (b := b5) (by omega) (.int .i64 ((p : Int) + 2))
  have p2 := own_far (o := 1) (own_far (o := 0) o2 (b := b5) (by omega) (.slice A1 (n - 2) c1)) (b := b5) (by omega) (.int .i64 ((p : Int) + 2))
  have p3 := own_far (o := 1) (own_far (o := 0) o3 (b := b5) (by omega) (.slice A1 (n - 2) c1)) (b := b5) (by omega) (.int .i64 ((p : Int) + 2))
  have hbW := (hbV.setCell (p := ⟨b5, 0, none⟩) (by dsimp only; omega) (.slice A1 (n - 2) c1)).setCell (p := ⟨b5, 1, none⟩) (by dsimp only; omega) (.int .i64 ((p : Int) + 2))
  go_upto_region 8 with (fail)
  generalize (w2.setCell ⟨b5, 0, none⟩ (.slice A1 (n - 2) c1)).setCell ⟨b5, 1, none⟩ (.int .i64 ((p : Int) + 2)) = V at p1 p2 p3 p5 hbW ⊢
  clear o1 o2 o3 o5 hbV c50 c51 f50 f51
  have c10 := p1.cell (i := 0) (v := .slice (some ⟨bb, oo, none⟩) n c) rfl
  have c11 := p1.cell (i := 1) (v := .int .i64 p) rfl
  have c20 := p2.cell (i := 0) (v := .slice none 0 0) rfl
  have c21 := p2.cell (i := 1) (v := .int .i64 0) rfl
  have f20 := p2.frozen 0
  have f21 := p2.frozen 1
  have q2 := (own_two p2 (.slice (some ⟨bb, oo, none⟩) n c) (.int .i64 p)).1
  have q3 := own_far (o := 1) (own_far (o := 0) p3 (b := w.heap.size + 1) (by omega) (.slice (some ⟨bb, oo, none⟩) n c)) (b := w.heap.size + 1) (by omega) (.int .i64 p)
  have c30 := q3.cell (i := 0) (v := .int .i64 0) rfl
  have c31 := q3.cell (i := 1) (v := .int .i64 0) rfl
  have c32 := q3.cell (i := 2) (v := .int .i64 0) rfl
  have f30 := q3.frozen 0
  have f31 := q3.frozen 1
  have f32 := q3.frozen 2
  have hlt := p3.lt
  have hlt2 := p2.lt
  have hbQ := (hbW.setCell (p := ⟨w.heap.size + 1, 0, none⟩) (Nat.le_succ _) (.slice (some ⟨bb, oo, none⟩) n c)).setCell (p := ⟨w.heap.size + 1, 1, none⟩) (Nat.le_succ _) (.int .i64 p)
  go_wp2
  have r3 := own_three q3 (.int .i64 0) (.int .i64 0) (.int .i64 0)
  have r2 := own_far (o := 2) (own_far (o := 1) (own_far (o := 0) q2 (b := w.heap.size + 1 + 1) (by omega) (.int .i64 0)) (b := w.heap.size + 1 + 1) (by omega) (.int .i64 0)) (b := w.heap.size + 1 + 1) (by omega) (.int .i64 0)
  have hbF := ((hbQ.setCell (p := ⟨w.heap.size + 1 + 1, 0, none⟩) (by dsimp only; omega) (.int .i64 0)).setCell (p := ⟨w.heap.size + 1 + 1, 1, none⟩) (by dsimp only; omega) (.int .i64 0)).setCell (p := ⟨w.heap.size + 1 + 1, 2, none⟩) (by dsimp only; omega) (.int .i64 0)
  refine bodyPost_ret (results_2cells (p := 2) (q := 3) (t := 4) (fn := Try.f38) rfl _ _ (w.heap.size + 1) 64 #[.slice (some ⟨bb, oo, none⟩) n c, .int .i64 p] _ (w.heap.size + 1 + 1) 53 #[.int .i64 0, .int .i64 0, .int .i64 0] _ rfl r2 rrd_desc rfl (rrd_info _ _) rfl r3 rhd_desc rfl (rhd_info _ _ _)) rfl ⟨⟨some ⟨bb, oo, none⟩, n, c, p, by rw [HX.out.1, HX.out.2]; rfl, (by rw [HX.out.2]; intro h; cases h)⟩, hbF⟩

set_option maxRecDepth 100000 in
set_option maxHeartbeats 1600000 in
theorem rfread_yes2 (a b : Int) (zs : List Int) (A : Option Addr) (n c p : Nat) (w : World) (hx : Bytes w w.heap.size A n (a :: b :: zs)) (hc : n ≤ c) (hn : n ≤ 100000000) (hp : p ≤ 100000000) (hb : (bits BinOp.and IntKind.i64 a 16 != 0) = true) (hz : 2 ≤ (zs.length : Int)) :
    Calls Try.prog 38 #[.agg #[.slice A n c, .int .i64 p]] w fun e w' => RHeadTo (a :: b :: zs) p e ∧ Below w.heap.size w w' := by
  have hfk : fk a = 2 := by unfold fk; rw [hb]; rfl
  have hnl1 : n ≤ zs.length + 2 := Nat.le_of_eq hx.1
  have hnl2 : zs.length + 2 ≤ n := Nat.le_of_eq hx.1.symm
  have hra := hx.2.1 a (List.mem_cons_self ..)
  have hrb := hx.2.1 b (List.mem_cons_of_mem _ (List.mem_cons_self ..))
  have ha0 := hra.1
  have ha1 := hra.2
  have hbb0 := hrb.1
  have hbb1 := hrb.2
  have HB0 := Lib.hid hx
  obtain ⟨bb, oo, rfl, hbl, hca, _, _⟩ := hx.at_ (k := 0) (by omega)
  obtain ⟨b', o', e, _, hcb, _, _⟩ := hx.at_ (k := 1) (by omega)
  cases e
  have hca : w.cell? ⟨bb, oo, none⟩ = some (.int .u8 a) := hca
  have hcb : w.cell? ⟨bb, oo + 1, none⟩ = some (.int .u8 b) := hcb
  have HX := Lib.hid (show hR (a :: b :: zs) = #[.int .i64 a, .int .i64 b, .int .i64 (big (zs.take 2))] ∧ hOk (a :: b :: zs) = true ∧ hN (a :: b :: zs) = 2 + 2 by
    have h0 : fk a ≤ (zs.length : Int) := by omega
    refine ⟨?_, ?_, ?_⟩
    · simp only [hR]; rw [if_pos h0, hfk]; rfl
    · simp only [hOk]; simp; omega
    · unfold hN; rw [List.headD_cons, hfk]; rfl)
  have hbig := big_range 2 (zs.take 2) (by rw [List.length_take]; omega) (fun x hx' => HB0.out.2.1 x (List.mem_cons_of_mem _ (List.mem_cons_of_mem _ (List.mem_of_mem_take hx'))))
  have hbg0 := hbig.1
  have hbg1 : big (zs.take 2) < 65536 := by have := hbig.2; have e2 : (256 : Int) ^ 2 = 65536 := rfl; have e1 : (256 : Int) ^ 1 = 256 := rfl; omega
  clear hbig
  clear hx hra hrb hfk
  have o1 := (((Own.new w 64 #[.slice (some ⟨bb, oo, none⟩) n c, .int .i64 p]).alloc (.cells #[.slice none 0 0, .int .i64 0] 64)).alloc (.cells #[.int .i64 0, .int .i64 0, .int .i64 0] 53))
  have o2 := ((Own.new (w.alloc (.cells #[.slice (some ⟨bb, oo, none⟩) n c, .int .i64 p] 64)) 64 #[.slice none 0 0, .int .i64 0]).alloc (.cells #[.int .i64 0, .int .i64 0, .int .i64 0] 53))
  have o3 := Own.new ((w.alloc (.cells #[.slice (some ⟨bb, oo, none⟩) n c, .int .i64 p] 64)).alloc (.cells #[.slice none 0 0, .int .i64 0] 64)) 53 #[.int .i64 0, .int .i64 0, .int .i64 0]
  have hb0 := bl_alloc (bl_alloc (bl_alloc (bl_refl w) (.cells #[.slice (some ⟨bb, oo, none⟩) n c, .int .i64 p] 64)) (.cells #[.slice none 0 0, .int .i64 0] 64)) (.cells #[.int .i64 0, .int .i64 0, .int .i64 0] 53)
  have hs1 : (w.alloc (.cells #[.slice (some ⟨bb, oo, none⟩) n c, .int .i64 p] 64)).heap.size = w.heap.size + 1 := by simp
  have hs2 : ((w.alloc (.cells #[.slice (some ⟨bb, oo, none⟩) n c, .int .i64 p] 64)).alloc (.cells #[.slice none 0 0, .int .i64 0] 64)).heap.size = w.heap.size + 1 + 1 := by simp
  rw [hs1] at o2
  rw [hs2] at o3
  clear hs1 hs2
  go_enter Try.func38, Try.ntmps38
  go_wp2_with fail
  refine (rtake_yes (some ⟨bb, oo, none⟩) n c p 2 _ hc (by omega) (by omega) (by omega) (by omega) (by omega)).mono ?_
  rintro e w1 ⟨A1, c1, rfl, hc1, HBh, hb1⟩
  have hb5 := bl_alloc hb1 (.cells #[.slice A1 (n - 2) c1, .int .i64 ((p : Int) + 2)] 64)
  have p1 := o1.step hb5
  have p2 := o2.step hb5
  have p3 := o3.step hb5
  have p5 := Own.new w1 64 #[.slice A1 (n - 2) c1, .int .i64 ((p : Int) + 2)]
  have hbW := bl_trans hb0 hb5
  have h15 := (o3.step hb1).lt
  clear o1 o2 o3 hb0 hb1 hb5
  go_upto_region 2 with (fail)
  generalize hb5n : w1.heap.size = b5 at p5 h15 ⊢
  generalize w1.alloc (.cells #[.slice A1 (n - 2) c1, .int .i64 ((p : Int) + 2)] 64) = W at p1 p2 p3 p5 hbW ⊢
  clear hb5n
  have hca' : W.cell? ⟨bb, oo, none⟩ = some (.int .u8 a) := (hbW.cell (p := ⟨bb, oo, none⟩) hbl).trans hca
  have hcb' : W.cell? ⟨bb, oo + 1, none⟩ = some (.int .u8 b) := (hbW.cell (p := ⟨bb, oo + 1, none⟩) hbl).trans hcb
  go_wp2_with fail
  refine (rbits_any a 16 _).mono ?_
  rw [hb]
  rintro e w' ⟨rfl, rfl⟩
  have c50 := p5.cell (i := 0) (v := .slice A1 (n - 2) c1) rfl
  have c51 := p5.cell (i := 1) (v := .int .i64 ((p : Int) + 2)) rfl
  go_wp2_with fail
  have hy : Bytes W W.heap.size A1 (n - 2) zs := by
    have h := HBh W W.heap.size (a :: b :: zs) ((HB0.out.below hbW).more hbW.size)
    exact h
  refine (rnum_yes A1 (n - 2) c1 zs ((p : Int) + 2) 2 _ hy hc1 (by omega) (by omega) (by omega) (by omega) (by omega) (by omega)).mono ?_
  rintro e w2 ⟨A3, c3, rfl, hc3, _, hb2⟩
  clear hy
  have o1 := p1.step hb2
  have o2 := p2.step hb2
  have o3 := p3.step hb2
  have o5 := p5.step hb2
  have hbV := bl_trans hbW hb2
  clear p1 p2 p3 p5 hbW hb2 c50 c51 hca' hcb'
  have c50 := o5.cell (i := 0) (v := .slice A1 (n - 2) c1) rfl
  have c51 := o5.cell (i := 1) (v := .int .i64 ((p : Int) + 2)) rfl
  have f50 := o5.frozen 0
  have f51 := o5.frozen 1
  have p5 := (own_two o5 (.slice A3 (n - 2 - 2) c3) (.int .i64 ((p : Int) + 2 + 2))).1
  have p1 := own_far (o := 1) (own_far (o := 0) o1 (b := b5) (by omega) (.slice A3 (n - 2 - 2) c3)) (b := b5) (by omega) (.int .i64 ((p : Int) + 2 + 2))
  have p2 := own_far (o := 1) (own_far (o := 0) o2 (b := b5) (by omega) (.slice A3 (n - 2 - 2) c3)) (b := b5) (by omega) (.int .i64 ((p : Int) + 2 + 2))
  have p3 := own_far (o := 1) (own_far (o := 0) o3 (b := b5) (by omega) (.slice A3 (n - 2 - 2) c3)) (b := b5) (by omega) (.int .i64 ((p : Int) + 2 + 2))
  have hbW := (hbV.setCell (p := ⟨b5, 0, none⟩) (by dsimp only; omega) (.slice A3 (n - 2 - 2) c3)).setCell (p := ⟨b5, 1, none⟩) (by dsimp only; omega) (.int .i64 ((p : Int) + 2 + 2))
  go_upto_region 8 with (fail)
  generalize (w2.setCell ⟨b5, 0, none⟩ (.slice A3 (n - 2 - 2) c3)).setCell ⟨b5, 1, none⟩ (.int .i64 ((p : Int) + 2 + 2)) = V at p1 p2 p3 p5 hbW ⊢
  clear o1 o2 o3 o5 hbV c50 c51 f50 f51
  have hca' : V.cell? ⟨bb, oo, none⟩ = some (.int .u8 a) := (hbW.cell (p := ⟨bb, oo, none⟩) hbl).trans hca
  have hcb' : V.cell? ⟨bb, oo + 1, none⟩ = some (.int .u8 b) := (hbW.cell (p := ⟨bb, oo + 1, none⟩) hbl).trans hcb
  have c50 := p5.cell (i := 0) (v := .slice A3 (n - 2 - 2) c3) rfl
  have c51 := p5.cell (i := 1) (v := .int .i64 ((p : Int) + 2 + 2)) rfl
  have c20 := p2.cell (i := 0) (v := .slice none 0 0) rfl
  have c21 := p2.cell (i := 1) (v := .int .i64 0) rfl
  have f20 := p2.frozen 0
  have f21 := p2.frozen 1
  have q2 := (own_two p2 (.slice A3 (n - 2 - 2) c3) (.int .i64 ((p : Int) + 2 + 2))).1
  have q3 := own_far (o := 1) (own_far (o := 0) p3 (b := w.heap.size + 1) (by omega) (.slice A3 (n - 2 - 2) c3)) (b := w.heap.size + 1) (by omega) (.int .i64 ((p : Int) + 2 + 2))
  have c30 := q3.cell (i := 0) (v := .int .i64 0) rfl
  have c31 := q3.cell (i := 1) (v := .int .i64 0) rfl
  have c32 := q3.cell (i := 2) (v := .int .i64 0) rfl
  have f30 := q3.frozen 0
  have f31 := q3.frozen 1
  have f32 := q3.frozen 2
  have hlt := p3.lt
  have hlt2 := p2.lt
  have hbQ := (hbW.setCell (p := ⟨w.heap.size + 1, 0, none⟩) (Nat.le_succ _) (.slice A3 (n - 2 - 2) c3)).setCell (p := ⟨w.heap.size + 1, 1, none⟩) (Nat.le_succ _) (.int .i64 ((p : Int) + 2 + 2))
  have wbg : IntKind.i64.wrap (big (zs.take 2)) = big (zs.take 2) := by rw [IntKind.wrap_i64]; omega
  have wga : IntKind.i64.wrap a = a := by rw [IntKind.wrap_i64]; omega
  have wgb : IntKind.i64.wrap b = b := by rw [IntKind.wrap_i64]; omega
  have n1 : b5 ≠ w.heap.size + 1 := by omega
  have n2 : b5 ≠ w.heap.size + 1 + 1 := by omega
  have n3 : bb ≠ w.heap.size + 1 := by omega
  have n4 : bb ≠ w.heap.size + 1 + 1 := by omega
  go_upto_region 10 with (fail)
  have q5 := own_far (o := 1) (own_far (o := 0) p5 (b := w.heap.size + 1) (by omega) (.slice A3 (n - 2 - 2) c3)) (b := w.heap.size + 1) (by omega) (.int .i64 ((p : Int) + 2 + 2))
  have HS1 := drew_four (q5.cell (i := 0) (v := .slice A3 (n - 2 - 2) c3) rfl) (q5.cell (i := 1) (v := .int .i64 ((p : Int) + 2 + 2)) rfl) ((hbQ.cell (p := ⟨bb, oo, none⟩) hbl).trans hca) ((hbQ.cell (p := ⟨bb, oo + 1, none⟩) hbl).trans hcb)
  have HS0 := drew_four c50 c51 hca' hcb'
  have r3 := own_three q3 (.int .i64 a) (.int .i64 b) (.int .i64 (big (zs.take 2)))
  have r2 := own_far (o := 2) (own_far (o := 1) (own_far (o := 0) q2 (b := w.heap.size + 1 + 1) (by omega) (.int .i64 a)) (b := w.heap.size + 1 + 1) (by omega) (.int .i64 b)) (b := w.heap.size + 1 + 1) (by omega) (.int .i64 (big (zs.take 2)))
  have r5 := own_far (o := 2) (own_far (o := 1) (own_far (o := 0) q5 (b := w.heap.size + 1 + 1) (by omega) (.int .i64 a)) (b := w.heap.size + 1 + 1) (by omega) (.int .i64 b)) (b := w.heap.size + 1 + 1) (by omega) (.int .i64 (big (zs.take 2)))
  have hbF := ((hbQ.setCell (p := ⟨w.heap.size + 1 + 1, 0, none⟩) (by dsimp only; omega) (.int .i64 a)).setCell (p := ⟨w.heap.size + 1 + 1, 1, none⟩) (by dsimp only; omega) (.int .i64 b)).setCell (p := ⟨w.heap.size + 1 + 1, 2, none⟩) (by dsimp only; omega) (.int .i64 (big (zs.take 2)))
  have HS2 := drew_four (r5.cell (i := 0) (v := .slice A3 (n - 2 - 2) c3) rfl) (r5.cell (i := 1) (v := .int .i64 ((p : Int) + 2 + 2)) rfl) ((hbF.cell (p := ⟨bb, oo, none⟩) hbl).trans hca) ((hbF.cell (p := ⟨bb, oo + 1, none⟩) hbl).trans hcb)
  go_region_held3 (fun W => W.cell? ⟨b5, 0, none⟩ = some (.slice A3 (n - 2 - 2) c3) ∧ W.cell? ⟨b5, 1, none⟩ = some (.int .i64 ((p : Int) + 2 + 2)) ∧ W.cell? ⟨bb, oo, none⟩ = some (.int .u8 a) ∧ W.cell? ⟨bb, oo + 1, none⟩ = some (.int .u8 b)) (with_reducible first | exact HS0 | exact HS1 | exact HS2) (fail)
  go_wp2
  refine bodyPost_ret (results_2cells (p := 2) (q := 3) (t := 4) (fn := Try.f38) rfl _ _ (w.heap.size + 1) 64 #[.slice A3 (n - 2 - 2) c3, .int .i64 ((p : Int) + 2 + 2)] _ (w.heap.size + 1 + 1) 53 #[.int .i64 a, .int .i64 b, .int .i64 (big (zs.take 2))] _ rfl r2.drew rrd_desc rfl (rrd_info _ _) rfl r3.drew rhd_desc rfl (rhd_info _ _ _)) rfl ⟨⟨A3, n - 2 - 2, c3, (p : Int) + 2 + 2, by rw [HX.out.1, HX.out.2.1]; rfl, fun _ => by rw [HX.out.2.2]; omega⟩, hbF.drew⟩

set_option maxRecDepth 100000 in
theorem rfread_any (xs : List Int) (A : Option Addr) (n c p : Nat) (w : World) (hx : Bytes w w.heap.size A n xs) (hc : n ≤ c) (hn : n ≤ 100000000) (hp : p ≤ 100000000) :
    Calls Try.prog 38 #[.agg #[.slice A n c, .int .i64 p]] w fun e w' => RHeadTo xs p e ∧ Below w.heap.size w w' := by
  by_cases h2 : n < 2
  · exact rfread_short xs A n c p w h2 hx.1.symm
  · match xs, hx with
    | [], hx => exact absurd hx.1 (by simp; omega)
    | [a], hx => exact absurd hx.1 (by simp; omega)
    | a :: b :: zs, hx =>
      by_cases hb : (bits BinOp.and IntKind.i64 a 16 != 0) = true
      · by_cases hz : (zs.length : Int) < 2
        · exact rfread_no2 a b zs A n c p w hx hc hn hp hb hz
        · exact rfread_yes2 a b zs A n c p w hx hc hn hp hb (by omega)
      · have hb' : (bits BinOp.and IntKind.i64 a 16 != 0) = false := by simpa using hb
        by_cases hz : (zs.length : Int) < 1
        · exact rfread_no1 a b zs A n c p w hx hc hn hp hb' hz
        · exact rfread_yes1 a b zs A n c p w hx hc hn hp hb' (by omega)
end Go.Proofs.Yteoegejbaahlpaa

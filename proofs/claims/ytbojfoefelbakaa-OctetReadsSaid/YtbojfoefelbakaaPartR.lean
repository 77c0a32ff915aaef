/- peerageref01.Part -/
import Derived.Test.YtbojfoefelbakaaRef1
namespace Go.Proofs.Ytbojfoefelbakaa
open Go.RowKit

set_option maxHeartbeats 400000 in
theorem rpart_no (A : Option Addr) (n c : Nat) (p k : Int) (w : World) (hk : k < 0 ∨ (n : Int) < k) (hn : n ≤ 1000000000) :
    Calls Try.prog 16 #[.agg #[.slice A n c, .int .i64 p], .int .i64 k] w fun e w' => e = .returned (.tuple #[.agg #[.slice A n c, .int .i64 p], .agg #[.slice none 0 0, .int .i64 0], .bool false]) ∧ Below w.heap.size w w' := by
  have HK := Lib.hid hk
  clear hk
  have hb0 := bl_alloc (bl_alloc (bl_alloc (bl_refl w) (.cells #[.slice A n c, .int .i64 p] 28)) (.cells #[.slice none 0 0, .int .i64 0] 28)) (.cells #[.slice none 0 0, .int .i64 0] 28)
  have oo2 := ((Own.new w 28 #[.slice A n c, .int .i64 p]).alloc (.cells #[.slice none 0 0, .int .i64 0] 28)).alloc (.cells #[.slice none 0 0, .int .i64 0] 28)
  have oo4 := (Own.new (w.alloc (.cells #[.slice A n c, .int .i64 p] 28)) 28 #[.slice none 0 0, .int .i64 0]).alloc (.cells #[.slice none 0 0, .int .i64 0] 28)
  have oo5 := Own.new ((w.alloc (.cells #[.slice A n c, .int .i64 p] 28)).alloc (.cells #[.slice none 0 0, .int .i64 0] 28)) 28 #[.slice none 0 0, .int .i64 0]
  simp at oo4 oo5
  go_enter Try.func16, Try.ntmps16
  go_wp2_with fail
  refine (rtake_no A n c p k _ HK.out hn).mono ?_
  rintro e w1 ⟨rfl, hb1⟩
  have o2 := oo2.below hb1 oo2.lt
  have o4 := oo4.below hb1 oo4.lt
  have o5 := oo5.below hb1 oo5.lt
  have c20 := o2.cell (i := 0) (v := .slice A n c) rfl
  have c21 := o2.cell (i := 1) (v := .int .i64 p) rfl
  have c40 := o4.cell (i := 0) (v := .slice none 0 0) rfl
  have c41 := o4.cell (i := 1) (v := .int .i64 0) rfl
  have c50 := o5.cell (i := 0) (v := .slice none 0 0) rfl
  have c51 := o5.cell (i := 1) (v := .int .i64 0) rfl
  have f40 := o4.frozen 0
  have f41 := o4.frozen 1
  have f50 := o5.frozen 0
  have f51 := o5.frozen 1
  have l2 : w.heap.size < w1.heap.size := o2.lt
  have l4 : w.heap.size + 1 < w1.heap.size := o4.lt
  have l5 : w.heap.size + 1 + 1 < w1.heap.size := o5.lt
  have hbw := bl_trans hb0 hb1
  clear oo2 oo4 oo5 hb0 hb1
  go_wp2
  have p4 := (((own_two o4 (.slice A n c) (.int .i64 p)).1.far (p := ⟨w.heap.size + 1 + 1, 0, none⟩) (by simp) (.slice none 0 0)).far (p := ⟨w.heap.size + 1 + 1, 1, none⟩) (by simp) (.int .i64 0)).alloc (.cells #[.slice A n c, .int .i64 p] 28)
  have p5 := (own_two ((o5.far (p := ⟨w.heap.size + 1, 0, none⟩) (by simp) (.slice A n c)).far (p := ⟨w.heap.size + 1, 1, none⟩) (by simp) (.int .i64 p)) (.slice none 0 0) (.int .i64 0)).1.alloc (.cells #[.slice A n c, .int .i64 p] 28)
  have g40 := p4.cell (i := 0) (v := .slice A n c) rfl
  have g41 := p4.cell (i := 1) (v := .int .i64 p) rfl
  have g50 := p5.cell (i := 0) (v := .slice none 0 0) rfl
  have g51 := p5.cell (i := 1) (v := .int .i64 0) rfl
  have hfin := bl_alloc ((((hbw.setCell (p := ⟨w.heap.size + 1, 0, none⟩) (by simp) (.slice A n c)).setCell (p := ⟨w.heap.size + 1, 1, none⟩) (by simp) (.int .i64 p)).setCell (p := ⟨w.heap.size + 1 + 1, 0, none⟩) (by simp; omega) (.slice none 0 0)).setCell (p := ⟨w.heap.size + 1 + 1, 1, none⟩) (by simp; omega) (.int .i64 0)) (.cells #[.slice A n c, .int .i64 p] 28)
  exact bodyPost_ret (v := .tuple #[.agg #[.slice A n c, .int .i64 p], .agg #[.slice none 0 0, .int .i64 0], .bool false]) (by simp [results, Try.results16, go_sem, g40, g41, g50, g51]) rfl ⟨rfl, hfin⟩

set_option maxHeartbeats 400000 in
theorem rpart_yes (A : Option Addr) (n c : Nat) (p k : Int) (w : World) (hc : n ≤ c) (hn : n ≤ 1000000000) (hp0 : 0 ≤ p) (hp : p ≤ 1000000000) (hk0 : 0 ≤ k) (hk : k ≤ (n : Int)) :
    Calls Try.prog 16 #[.agg #[.slice A n c, .int .i64 p], .int .i64 k] w fun e w' => ∃ A1 c1, e = .returned (.tuple #[.agg #[.slice A1 (n - k.toNat) c1, .int .i64 (p + k)], .agg #[.slice A k.toNat c, .int .i64 p], .bool true]) ∧
      n - k.toNat ≤ c1 ∧ Behind A n k.toNat A1 ∧ Below w.heap.size w w' := by
  have hb0 := bl_alloc (bl_alloc (bl_alloc (bl_refl w) (.cells #[.slice A n c, .int .i64 p] 28)) (.cells #[.slice none 0 0, .int .i64 0] 28)) (.cells #[.slice none 0 0, .int .i64 0] 28)
  have oo2 := ((Own.new w 28 #[.slice A n c, .int .i64 p]).alloc (.cells #[.slice none 0 0, .int .i64 0] 28)).alloc (.cells #[.slice none 0 0, .int .i64 0] 28)
  have oo4 := (Own.new (w.alloc (.cells #[.slice A n c, .int .i64 p] 28)) 28 #[.slice none 0 0, .int .i64 0]).alloc (.cells #[.slice none 0 0, .int .i64 0] 28)
  have oo5 := Own.new ((w.alloc (.cells #[.slice A n c, .int .i64 p] 28)).alloc (.cells #[.slice none 0 0, .int .i64 0] 28)) 28 #[.slice none 0 0, .int .i64 0]
  simp at oo4 oo5
  go_enter Try.func16, Try.ntmps16
  go_wp2_with fail
  refine (rtake_yes A n c p k _ hc hn hp0 hp hk0 hk).mono ?_
  rintro e w1 ⟨A1, c1, rfl, hc1, HB, hb1⟩
  have o2 := oo2.below hb1 oo2.lt
  have o4 := oo4.below hb1 oo4.lt
  have o5 := oo5.below hb1 oo5.lt
  have c20 := o2.cell (i := 0) (v := .slice A n c) rfl
  have c21 := o2.cell (i := 1) (v := .int .i64 p) rfl
  have c40 := o4.cell (i := 0) (v := .slice none 0 0) rfl
  have c41 := o4.cell (i := 1) (v := .int .i64 0) rfl
  have c50 := o5.cell (i := 0) (v := .slice none 0 0) rfl
  have c51 := o5.cell (i := 1) (v := .int .i64 0) rfl
  have f40 := o4.frozen 0
  have f41 := o4.frozen 1
  have f50 := o5.frozen 0
  have f51 := o5.frozen 1
  have l2 : w.heap.size < w1.heap.size := o2.lt
  have l4 : w.heap.size + 1 < w1.heap.size := o4.lt
  have l5 : w.heap.size + 1 + 1 < w1.heap.size := o5.lt
  have hbw := bl_trans hb0 hb1
  clear oo2 oo4 oo5 hb0 hb1
  go_wp2
  go_region
  go_wp2
  have p4 := (((own_two o4 (.slice A1 (n - k.toNat) c1) (.int .i64 (p + k))).1.far (p := ⟨w.heap.size + 1 + 1, 0, none⟩) (by simp) (.slice A k.toNat c)).far (p := ⟨w.heap.size + 1 + 1, 1, none⟩) (by simp) (.int .i64 p)).alloc (.cells #[.slice A1 (n - k.toNat) c1, .int .i64 (p + k)] 28)
  have p5 := (own_two ((o5.far (p := ⟨w.heap.size + 1, 0, none⟩) (by simp) (.slice A1 (n - k.toNat) c1)).far (p := ⟨w.heap.size + 1, 1, none⟩) (by simp) (.int .i64 (p + k))) (.slice A k.toNat c) (.int .i64 p)).1.alloc (.cells #[.slice A1 (n - k.toNat) c1, .int .i64 (p + k)] 28)
  have g40 := p4.cell (i := 0) (v := .slice A1 (n - k.toNat) c1) rfl
  have g41 := p4.cell (i := 1) (v := .int .i64 (p + k)) rfl
  have g50 := p5.cell (i := 0) (v := .slice A k.toNat c) rfl
  have g51 := p5.cell (i := 1) (v := .int .i64 p) rfl
  have hfin := bl_alloc ((((hbw.setCell (p := ⟨w.heap.size + 1, 0, none⟩) (by simp) (.slice A1 (n - k.toNat) c1)).setCell (p := ⟨w.heap.size + 1, 1, none⟩) (by simp) (.int .i64 (p + k))).setCell (p := ⟨w.heap.size + 1 + 1, 0, none⟩) (by simp; omega) (.slice A k.toNat c)).setCell (p := ⟨w.heap.size + 1 + 1, 1, none⟩) (by simp; omega) (.int .i64 p)) (.cells #[.slice A1 (n - k.toNat) c1, .int .i64 (p + k)] 28)
  exact bodyPost_ret (v := .tuple #[.agg #[.slice A1 (n - k.toNat) c1, .int .i64 (p + k)], .agg #[.slice A k.toNat c, .int .i64 p], .bool true]) (by simp [results, Try.results16, go_sem, g40, g41, g50, g51]) rfl ⟨A1, c1, rfl, hc1, HB, hfin.drew⟩
end Go.Proofs.Ytbojfoefelbakaa

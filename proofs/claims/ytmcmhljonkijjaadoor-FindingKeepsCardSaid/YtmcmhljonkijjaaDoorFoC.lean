/- bytes.Clone, finding.clone -/
import Derived.Test.YtmcmhljonkijjaaDoorFoR
import Derived.Test.YtmcmhljonkijjaaDoorShelf
namespace Go.Proofs.YtmcmhljonkijjaaDoor
open Go.RowKit Go.Sort

theorem ints_of_own {w : World} {base n : Nat} {v : Value} {xs : List Int} (h : w.ownsRow base 5 1 v n (xs.map (Value.int .u8))) (hr : ∀ x ∈ xs, 0 ≤ x ∧ x ≤ 255) : ∃ A c, v = .slice A n c ∧ Bytes w w.heap.size A n xs ∧ ∀ a, A = some a → base ≤ a.block := by
  have hlen : xs.length = n := by simpa using h.1
  rcases h.2 with ⟨h1, h0⟩ | ⟨g, cap, cur, h1, hg, hc, h3, h4, h5, h6⟩
  · refine ⟨none, 0, by rw [h1, h0], ⟨hlen.symm, hr, .inl ?_⟩, (fun a ha => by cases ha)⟩
    rw [List.map_eq_nil_iff]
    exact List.length_eq_zero_iff.1 (by omega)
  · refine ⟨_, cap, h1, ⟨hlen.symm, hr, .inr ⟨g, 0, rfl, (h.lt g (by rw [h1]; rfl)).2, fun i u hu => ?_⟩⟩, fun a ha => by cases ha; exact hg⟩
    have := h.cells (g := g) (by rw [h1]; rfl) i u hu
    simpa [Addr.add_lit] using this
set_option maxRecDepth 100000 in
theorem bclone_any (A : Option Addr) (n c : Nat) (xs : List Int) (w : World) (h : Bytes w w.heap.size A n xs) (hn : n ≤ 1000000) :
    Calls Tryd.prog 93 #[.slice A n c] w fun e w' => ∃ A' c', e = .returned (.slice A' n c') ∧ Bytes w' w'.heap.size A' n xs ∧ (∀ a, A' = some a → w.heap.size ≤ a.block) ∧ Below w.heap.size w w' := by
  cases A with
  | none =>
    refine (Tryd.bytes_Clone_nil n c w).mono ?_
    rintro e w' ⟨rfl, rfl⟩
    have hx : n = 0 := by
      rcases Nat.eq_zero_or_pos n with h0 | h0
      · exact h0
      · obtain ⟨b, o, h1, _⟩ := h.at_ h0
        cases h1
    subst hx
    exact ⟨none, 0, rfl, h, (fun a ha => by cases ha), bl_refl _⟩
  | some a =>
    refine (Tryd.bytes_Clone_at a n c xs w h.1.symm (by omega) ?_).mono ?_
    · intro i hi
      obtain ⟨b, o, h1, _, h2, _⟩ := h.at_ hi
      cases h1
      simpa [Addr.add_lit, nth] using h2
    · rintro e w' ⟨v', rfl, ho, _, hb⟩
      obtain ⟨A', c', rfl, hx, hg⟩ := ints_of_own ho h.2.1
      exact ⟨A', c', rfl, hx, hg, hb⟩
theorem Bytes.keepB {w w' : World} {B n : Nat} {A : Option Addr} {xs : List Int} (h : Bytes w B A n xs) (hk : ∀ a, A = some a → w'.heap[a.block]? = w.heap[a.block]?) : Bytes w' B A n xs := by
  refine ⟨h.1, h.2.1, ?_⟩
  rcases h.2.2 with h0 | ⟨b, o, hA, hb, hc⟩
  · exact .inl h0
  · exact .inr ⟨b, o, hA, hb, fun i v hv => (World.cell?_of_block (a := ⟨b, o + i, none⟩) (show w'.heap[b]? = w.heap[b]? from hk ⟨b, o, none⟩ hA)).trans (hc i v hv)⟩
theorem vd_row {W : World} {g : Nat} {T : TypeId} {a b c d e : Value} (o : Own W g T #[a, b, c, d, e]) : W.cell? ⟨g, 0, none⟩ = some a ∧ W.cell? ⟨g, 1, none⟩ = some b ∧ W.cell? ⟨g, 2, none⟩ = some c ∧ W.cell? ⟨g, 3, none⟩ = some d ∧ W.cell? ⟨g, 4, none⟩ = some e := ⟨o.cell rfl, o.cell rfl, o.cell rfl, o.cell rfl, o.cell rfl⟩
theorem vSame_refl (k c s t : Int) (A A' : Option Addr) (n n' cp cp' : Nat) (xs : List Int) : vSame ⟨k, c, s, A, n, cp, xs, t⟩ ⟨k, c, s, A', n', cp', xs, t⟩ = true := by unfold vSame; simp
set_option maxRecDepth 100000 in
set_option maxHeartbeats 1600000 in
theorem fclone_any (v : Vd) (w : World) (h : v.Ok w w.heap.size) (hn : v.n ≤ 1000000) :
    Calls Tryd.prog 74 #[.agg (vdc v)] w fun e w' => ∃ v' : Vd, e = .returned (.agg (vdc v')) ∧ v'.Ok w' w'.heap.size ∧ vSame v v' = true ∧ v'.n = v.n ∧ (∀ a, v'.A = some a → w.heap.size ≤ a.block) ∧ Below w.heap.size w w' := by
  obtain ⟨k, c, s, A, n, cp, xs, t⟩ := v
  have HX := Lib.hid h
  dsimp only at hn
  clear h
  unfold vdc
  dsimp only
  have hb0 := bl_alloc (bl_alloc (bl_refl w) (.cells #[.int .i64 k, .int .i64 c, .int .i64 s, .slice A n cp, .int .i64 t] 40)) (.cells #[.int .i64 0, .int .i64 0, .int .i64 0, .slice none 0 0, .int .i64 0] 40)
  have o1 := (Own.new w 40 #[.int .i64 k, .int .i64 c, .int .i64 s, .slice A n cp, .int .i64 t]).alloc (.cells #[.int .i64 0, .int .i64 0, .int .i64 0, .slice none 0 0, .int .i64 0] 40)
  have o2 := Own.new (w.alloc (.cells #[.int .i64 k, .int .i64 c, .int .i64 s, .slice A n cp, .int .i64 t] 40)) 40 #[.int .i64 0, .int .i64 0, .int .i64 0, .slice none 0 0, .int .i64 0]
  rw [show (w.alloc (.cells #[.int .i64 k, .int .i64 c, .int .i64 s, .slice A n cp, .int .i64 t] 40)).heap.size = w.heap.size + 1 by simp] at o2
  have hz2 : ((w.alloc (.cells #[.int .i64 k, .int .i64 c, .int .i64 s, .slice A n cp, .int .i64 t] 40)).alloc (.cells #[.int .i64 0, .int .i64 0, .int .i64 0, .slice none 0 0, .int .i64 0] 40)).heap.size = w.heap.size + 1 + 1 := by simp
  go_enter Tryd.func74, Tryd.ntmps74
  have c3 := o1.cell (i := 3) (v := .slice A n cp) rfl
  go_wp2_with fail
  have hx1 := (HX.out.1.below hb0).more hb0.size
  refine (bclone_any A n cp xs _ hx1 hn).mono ?_
  rw [hz2]
  rintro e w1 ⟨A', c', rfl, hx2, hblk, hb1⟩
  rw [← hz2] at hb1
  have q1 := o1.step hb1
  have q2 := o2.step hb1
  have hb2 := bl_trans hb0 hb1
  have hne : w.heap.size + 1 ≠ w.heap.size := by omega
  have fz := q1.frozen 3
  have d3 := q1.cell (i := 3) (v := .slice A n cp) rfl
  have sS : Own (w1.setCell ⟨w.heap.size, 3, none⟩ (.slice A' n c')) w.heap.size 40 #[.int .i64 k, .int .i64 c, .int .i64 s, .slice A' n c', .int .i64 t] := by have := q1.set_ 3 (.slice A' n c'); simpa using this
  have s2 := q2.far (p := ⟨w.heap.size, 3, none⟩) hne (.slice A' n c')
  have hb3 := hb2.setCell (p := ⟨w.heap.size, 3, none⟩) (Nat.le_refl _) (.slice A' n c')
  obtain ⟨e0, e1, e2, e3, e4⟩ := vd_row sS
  have hX3 : Bytes ((w1.setCell ⟨w.heap.size, 3, none⟩ (.slice A' n c')).setRow (w.heap.size + 1) #[.int .i64 k, .int .i64 c, .int .i64 s, .slice A' n c', .int .i64 t]) w1.heap.size A' n xs := hx2.keepB (fun a ha => by
    have hg := hblk a ha
    rw [setRow_other _ _ _ _ (by omega)]
    exact Below.heap_setCell _ ⟨w.heap.size, 3, none⟩ _ a.block (by show a.block ≠ w.heap.size; omega))
  have HB := Lib.hid hX3
  have HK := Lib.hid hblk
  clear hX3 hx2 hblk hx1 o1 o2 c3 hb0 hb1 hb2 hz2
  go_wp2_with (refine wpList_store_row rfl 40 _ _ rfl (w.heap.size + 1) #[.int .i64 k, .int .i64 c, .int .i64 s, .slice A' n c', .int .i64 t] rfl rfl 40 #[.int .i64 0, .int .i64 0, .int .i64 0, .slice none 0 0, .int .i64 0] s2 (vdc_info _ _ _ _ _ _ _) rfl (vdc_one _ _ _ _ _ _ _) ?_)
  refine bodyPost_ret (results_cell1 (p := 2) (fn := Tryd.f74) rfl _ _ (w.heap.size + 1) 40 #[.int .i64 k, .int .i64 c, .int .i64 s, .slice A' n c', .int .i64 t] _ rfl s2.setRow vdc_desc rfl (vdc_info _ _ _ _ _ _ _)) rfl ⟨⟨k, c, s, A', n, c', xs, t⟩, rfl, ⟨HB.out.more (by simp), HX.out.2⟩, vSame_refl _ _ _ _ _ _ _ _ _ _ _, rfl, (fun a ha => by have := HK.out a ha; omega), bl_setRow hb3 (by omega)⟩
end Go.Proofs.YtmcmhljonkijjaaDoor

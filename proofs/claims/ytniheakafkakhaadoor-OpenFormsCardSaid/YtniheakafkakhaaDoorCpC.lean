/- capability.Bytes and its reference -/
import Derived.Test.YtniheakafkakhaaDoorCpB
import Derived.Test.YtniheakafkakhaaDoorStepG
namespace Go.Proofs.YtniheakafkakhaaDoor
open Go.RowKit

theorem Bytes.restP {w w' : World} {B n : Nat} {A : Option Addr} {xs : List Int} {P : Nat → Prop} (h : Bytes w B A n xs) (k : Rest w w' P) (hp : ∀ a, A = some a → xs ≠ [] → ¬ P a.block) (hB : B ≤ w.heap.size) : Bytes w' B A n xs := by
  refine ⟨h.1, h.2.1, ?_⟩
  rcases xs with _ | ⟨x, t⟩
  · exact .inl rfl
  · rcases h.2.2 with h0 | ⟨b, o, hA, hb, hc⟩
    · cases h0
    · exact .inr ⟨b, o, hA, hb, fun i v hv => (World.cell?_of_block (a := ⟨b, o + i, none⟩) (k.block b (by omega) (hp _ hA (by simp)))).trans (hc i v hv)⟩
/-- A part that an append to a row of parts leaves as it is. -/
def PQ (B0 : Nat) (w : World) (p : Part) : Prop := p.ok w w.heap.size ∧ ∀ a, p.a = some a → p.xs ≠ [] → a.block < B0 ∨ Typed w a.block 5
theorem PQ.below {B0 : Nat} {w w' : World} {p : Part} (h : PQ B0 w p) (k : Below w.heap.size w w') : PQ B0 w' p :=
  ⟨(Bytes.below h.1 k).more k.size, fun a ha hne => (h.2 a ha hne).imp (fun e => e) (fun e => e.rest (Rest.of_below k (fun _ => False)) (fun e => e))⟩
theorem PQ.grown {B0 base n : Nat} {w w' : World} {p : Part} {v : Value} {xs : List Value} (h : PQ B0 w p) (hr : w.ownsRow base 43 1 v n xs) (hb : B0 ≤ base) (hg : w.grownBy w' v.ownBlock) : PQ B0 w' p := by
  have R := Rest.of_grown hg (P := fun i => v.ownBlock = some i) (fun j hj => hj)
  have hn : ∀ a, p.a = some a → p.xs ≠ [] → ¬ (v.ownBlock = some a.block) := fun a ha hne e => by
    have h1 := row_typed hr e
    rcases h.2 a ha hne with h2 | h2
    · omega
    · exact h1.1.ne h2 (by decide) rfl
  exact ⟨(Bytes.restP h.1 R hn (Nat.le_refl _)).more R.size, fun a ha hne => (h.2 a ha hne).imp (fun e => e) (fun e => e.rest R (fun e2 => hn a ha hne e2))⟩
set_option maxRecDepth 100000 in
theorem sl_slicesC : SliceOf Tryd.prog 108 43 1 24 := SliceOf.mk Tryd.underlying108 (z := .slice none 0 0) (by kernel_rfl) rfl (by decide)
theorem cpsForm_len {M : Nat} : ∀ {L : List Cp}, (∀ s ∈ L, s.n = s.xs.length ∧ s.n ≤ M) → (cpsForm L).length ≤ L.length * (M + 2)
  | [], _ => by simp [cpsForm]
  | s :: L, h => by
    have ih := cpsForm_len (L := L) (fun z hz => h z (List.mem_cons_of_mem _ hz))
    obtain ⟨h1, h2⟩ := h s List.mem_cons_self
    unfold cpsForm at ih ⊢
    rw [List.flatMap_cons, List.length_append, List.length_cons, Nat.succ_mul]
    have e : (cpForm s).length = s.xs.length + 2 := rfl
    omega
theorem cpsForm_snoc (L : List Cp) (s : Cp) : cpsForm (L ++ [s]) = cpsForm L ++ cpForm s := by unfold cpsForm; rw [List.flatMap_append]; simp
theorem flat_append2 (ps qs : List Part) : flat (ps ++ qs) = flat ps ++ flat qs := by unfold flat; rw [List.flatMap_append]
theorem one2p {a b : Part} : ∀ u ∈ [a.v, b.v], u.oneCell' = true := fun u hu => by
  simp only [List.mem_cons, List.not_mem_nil, or_false] at hu
  rcases hu with rfl | rfl <;> rfl
/-- What Bytes gives. -/
def CBytesR (ss : List Cp) (w : World) (e : Ending) (w' : World) : Prop := ∃ A' n' c', e = .returned (.tuple #[.slice A' n' c', .bool (ss.all cpOk)]) ∧ Bytes w' w'.heap.size A' n' (if ss.all cpOk = true then cpsForm ss else []) ∧ n' ≤ c' ∧ Below w.heap.size w w'
set_option maxRecDepth 100000 in
set_option maxHeartbeats 6400000 in
theorem cbytes_any (A : Option Addr) (n c : Nat) (ss : List Cp) (w : World) (h : Caps w w.heap.size A n ss) (hn : n ≤ 1000) (hs : ∀ s ∈ ss, s.n ≤ 1000) :
    Calls Tryd.prog 64 #[.slice A n c] w fun e w' => CBytesR ss w e w' := by
  have HN := Lib.hid h.1
  have HX := Lib.hid h
  have HV := Lib.hid (cvalid_any A n c ss w h (by omega) (fun s m => by have := hs s m; omega))
  have HS := Lib.hid hs
  clear h hs
  cases ho : ss.all cpOk with
  | false =>
    have HO := Lib.hid ho
    rw [ho] at HV
    clear ho
    go_enter Tryd.func64, Tryd.ntmps64
    go_wp2_with fail
    refine HV.out.mono ?_
    rintro e w1 ⟨rfl, hb1⟩
    go_wp2
    go_ret2
    exact ⟨none, 0, 0, by rw [HO.out]; rfl, by rw [HO.out]; exact Bytes.nil _ _ _, Nat.le_refl _, hb1⟩
  | true =>
    have HO := Lib.hid ho
    rw [ho] at HV
    clear ho
    go_enter Tryd.func64, Tryd.ntmps64
    go_wp2_with fail
    refine HV.out.mono ?_
    rintro e w1 ⟨rfl, hb1⟩
    have HB1 := Lib.hid hb1
    clear hb1
    go_wp2_with fail
    go_loopw [4, 6, 12] (fun pv _ i wr => ∃ (k : Nat) (ps : List Part), k ≤ n ∧ i = .int .i64 k ∧ wr.ownsRow w.heap.size 43 1 pv (2 * k) (ps.map Part.v) ∧ Hid (flat ps = cpsForm (ss.take k) ∧ ∀ p ∈ ps, PQ w.heap.size wr p) ∧ Below w.heap.size w wr) (fun _ _ i _ => n - (intOf i).toNat)
    case atStart => exact ⟨0, [], Nat.zero_le _, rfl, World.ownsRow_nil _ _ _ _, Lib.hid ⟨rfl, fun _ h => by cases h⟩, HB1.out⟩
    case round =>
      obtain ⟨k, ps, hk, rfl, hrow, hP, hb⟩ := hrel
      by_cases hlt : k < n
      · obtain ⟨b, o, rfl, hbB, d0, d1⟩ := (HX.out.below hb).at_ hlt
        have hkl := Lib.hid (show k < ss.length by have := HN.out; omega)
        have hst := Lib.hid (show cpsForm (ss.take (k + 1)) = cpsForm (ss.take k) ++ cpForm (cpth ss k) by rw [take_cpth hkl.out, cpsForm_snoc])
        have hok := cpOk_iff.1 (List.all_eq_true.1 HO.out _ (cpth_mem hkl.out))
        have hD := (HX.out.2.1 _ (cpth_mem hkl.out)).1
        generalize cpth ss k = s at *
        obtain ⟨sk, sA, sn, sc, sx⟩ := s
        dsimp only at d0 d1 hok hD
        obtain ⟨ho1, ho2, ho3⟩ := hok
        have hbs := hb.size
        have b1 := bl_alloc (bl_refl wr) (.cells #[.int .i64 sk, .slice sA sn sc] 83)
        have oX := Own.new wr 83 #[.int .i64 sk, .slice sA sn sc]
        have oD := Own.new (wr.alloc (.cells #[.int .i64 sk, .slice sA sn sc] 83)) 5 #[.int .u8 sk, .int .u8 sn]
        rw [show (wr.alloc (.cells #[.int .i64 sk, .slice sA sn sc] 83)).heap.size = wr.heap.size + 1 by simp] at oD
        have b2 := bl_alloc b1 (.cells #[.int .u8 sk, .int .u8 sn] 5)
        have oS := Own.new ((wr.alloc (.cells #[.int .i64 sk, .slice sA sn sc] 83)).alloc (.cells #[.int .u8 sk, .int .u8 sn] 5)) 43 #[.slice (some ⟨wr.heap.size + 1, 0, none⟩) 2 2, .slice sA sn sc]
        rw [show ((wr.alloc (.cells #[.int .i64 sk, .slice sA sn sc] 83)).alloc (.cells #[.int .u8 sk, .int .u8 sn] 5)).heap.size = wr.heap.size + 1 + 1 by simp] at oS
        have b3 := bl_alloc b2 (.cells #[.slice (some ⟨wr.heap.size + 1, 0, none⟩) 2 2, .slice sA sn sc] 43)
        have HRow := Lib.hid (own_belowG hrow b3)
        have hb3 := bl_trans hb b3
        have x0 := oX.cell (i := 0) (v := .int .i64 sk) rfl
        have x1 := oX.cell (i := 1) (v := .slice sA sn sc) rfl
        have x0' := (oX.alloc (.cells #[.int .u8 sk, .int .u8 sn] 5)).cell (i := 1) (v := .slice sA sn sc) rfl
        have hPQ := Lib.hid (show ∀ p ∈ ps ++ [(⟨some ⟨wr.heap.size + 1, 0, none⟩, 2, 2, [sk, sn]⟩ : Part), ⟨sA, sn, sc, sx⟩], PQ w.heap.size (((wr.alloc (.cells #[.int .i64 sk, .slice sA sn sc] 83)).alloc (.cells #[.int .u8 sk, .int .u8 sn] 5)).alloc (.cells #[.slice (some ⟨wr.heap.size + 1, 0, none⟩) 2 2, .slice sA sn sc] 43)) p from fun p hp => by
          rcases List.mem_append.1 hp with hp | hp
          · exact (hP.out.2 p hp).below b3
          · simp only [List.mem_cons, List.not_mem_nil, or_false] at hp
            rcases hp with rfl | rfl
            · have oD2 := oD.alloc (.cells #[.slice (some ⟨wr.heap.size + 1, 0, none⟩) 2 2, .slice sA sn sc] 43)
              exact ⟨Bytes.of_owned (xs := [sk, sn]) oD2 (by intro x hx; simp at hx; rcases hx with rfl | rfl <;> omega) oD2.lt, fun a ha _ => .inr (by cases ha; exact oD2.typed)⟩
            · refine ⟨(hD.below hb3).more hb3.size, fun a ha hne => .inl ?_⟩
              rcases hD.2.2 with h0 | ⟨b', o', hA, hlt', _⟩
              · exact absurd (List.map_eq_nil_iff.1 h0) hne
              · rw [show sA = some a from ha] at hA
                cases hA
                exact hlt')
        have hfl := Lib.hid (show flat (ps ++ [(⟨some ⟨wr.heap.size + 1, 0, none⟩, 2, 2, [sk, sn]⟩ : Part), ⟨sA, sn, sc, sx⟩]) = cpsForm (ss.take (k + 1)) by rw [flat_append2, hP.out.1, hst.out]; simp [flat, cpForm])
        clear hrow hb b1 b2 b3 hD hst hP oX oD
        go_wp2_with (at_builtin; refine wpList_append_grow _ rfl _ _ rfl sl_slicesC w.heap.size _ (2 * k) (ps.map Part.v) rfl HRow.out (wr.heap.size + 1 + 1 + 1) (some ⟨wr.heap.size + 1 + 1, 0, none⟩) 2 2 [.slice (some ⟨wr.heap.size + 1, 0, none⟩) 2 2, .slice sA sn sc] rfl rfl (Shows.of_owned (xs := [.slice (some ⟨wr.heap.size + 1, 0, none⟩) 2 2, .slice sA sn sc]) oS (Nat.lt_succ_self _)) (one2p (a := ⟨some ⟨wr.heap.size + 1, 0, none⟩, 2, 2, [sk, sn]⟩) (b := ⟨sA, sn, sc, sx⟩)) (by unfold maxLen; omega) (by omega) (by simp; omega) ?_; intro v6 w6 hrow6 hg6)
        have hb6 := hb3.grown hg6 hb3.size (fun j hj => (row_typed HRow.out hj).2)
        go_roundw
        case rel => exact ⟨k + 1, ps ++ [⟨some ⟨wr.heap.size + 1, 0, none⟩, 2, 2, [sk, sn]⟩, ⟨sA, sn, sc, sx⟩], by omega, by go_num, by rw [List.map_append]; exact hrow6, Lib.hid ⟨hfl.out, fun p hp => (hPQ.out p hp).grown HRow.out (Nat.le_refl _) hg6⟩, hb6⟩
        case measure => simp [intOf]; omega
      · obtain rfl : n = k := by omega
        have hall := Lib.hid (show flat ps = cpsForm ss by rw [hP.out.1, List.take_of_length_le (by rw [← HN.out]; exact Nat.le_refl _)])
        have hlen := cpsForm_len (M := 1000) (L := ss) (fun s m => ⟨(HX.out.2.1 s m).1.1, HS.out s m⟩)
        rw [← HN.out, ← hall.out] at hlen
        have hl2 : (flat ps).length ≤ 1000000000 := by have : n * (1000 + 2) ≤ 1000 * 1002 := Nat.mul_le_mul hn (Nat.le_refl _); omega
        obtain ⟨A0, c0, rfl⟩ := own_form hrow
        have hps : 2 * n = ps.length := by have := hrow.1; simpa using this.symm
        have HC := Lib.hid (cat_any A0 (2 * n) c0 ps wr ⟨hps, fun p hp => (hP.out.2 p hp).1, Shows.of_own hrow⟩ (by omega) hl2)
        have hrg : Hid (∀ x ∈ flat ps, 0 ≤ x ∧ x ≤ 255) := Lib.hid (fun x hx => by
          obtain ⟨q, hq, hxq⟩ := List.mem_flatMap.1 hx
          exact (hP.out.2 q hq).1.2.1 x hxq)
        clear hrow hP hlen hl2 hps
        go_wp2_with fail
        refine HC.out.mono ?_
        rintro e w5 ⟨rfl, hown, hb5⟩
        have hb6 := bl_trans hb hb5
        have hB5 := Bytes.of_owned (Own.of_full hown) hrg.out (Own.of_full hown).lt
        go_wp2
        go_ret2
        refine ⟨_, _, _, by rw [HO.out]; rfl, ?_, Nat.le_refl _, hb6⟩
        rw [if_pos HO.out, ← hall.out]
        exact hB5
end Go.Proofs.YtniheakafkakhaaDoor

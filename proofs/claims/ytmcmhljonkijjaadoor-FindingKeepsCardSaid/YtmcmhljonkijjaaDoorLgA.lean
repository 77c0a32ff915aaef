/- finding.Log: New, put -/
import Derived.Test.YtmcmhljonkijjaaDoorApAt
import Derived.Test.YtmcmhljonkijjaaDoorFoE
namespace Go.Proofs.YtmcmhljonkijjaaDoor
open Go.RowKit Go.Sort

/-- What a verdict says. -/
def sgV (v : Vd) : Int × Int × Int × Int × List Int := (v.k, v.c, v.s, v.t, v.xs)
theorem sgV_iff {v u : Vd} : sgV v = sgV u ↔ vSame v u = true := by
  unfold sgV vSame
  simp only [Prod.mk.injEq, decide_eq_true_eq]
abbrev SgV := Int × Int × Int × Int × List Int
def DB (w : World) (base : Nat) (A : Option Addr) : Prop := ∀ a, A = some a → base ≤ a.block ∧ Typed w a.block 5
theorem DB.below {w w' : World} {base : Nat} {A : Option Addr} (h : DB w base A) (k : Below w.heap.size w w') : DB w' base A := fun a ha => ⟨(h a ha).1, (h a ha).2.below k⟩
set_option maxRecDepth 100000 in
theorem bclone2_any (A : Option Addr) (n c : Nat) (xs : List Int) (w : World) (h : Bytes w w.heap.size A n xs) (hn : n ≤ 1000000) :
    Calls Tryd.prog 93 #[.slice A n c] w fun e w' => ∃ A' c', e = .returned (.slice A' n c') ∧ Bytes w' w'.heap.size A' n xs ∧ DB w' w.heap.size A' ∧ Below w.heap.size w w' := by
  cases A with
  | none =>
    refine (Tryd.bytes_Clone_nil n c w).mono ?_
    rintro e w' ⟨rfl, rfl⟩
    have hx : n = 0 := by
      rcases Nat.eq_zero_or_pos n with h0 | h0
      · exact h0
      · obtain ⟨b, o, h1, _⟩ := h.at_ h0
        cases h1
    subst hx
    exact ⟨none, 0, rfl, h, (fun a ha => by cases ha), bl_refl _⟩
  | some a =>
    refine (Tryd.bytes_Clone_at a n c xs w h.1.symm (by omega) ?_).mono ?_
    · intro i hi
      obtain ⟨b, o, h1, _, h2, _⟩ := h.at_ hi
      cases h1
      simpa [Addr.add_lit, nth] using h2
    · rintro e w' ⟨v', rfl, ho, _, hb⟩
      obtain ⟨A', c', rfl, hx, hg⟩ := ints_of_own ho h.2.1
      exact ⟨A', c', rfl, hx, fun a ha => by
        subst ha
        rcases ho.2 with ⟨h1, _⟩ | ⟨g, cap, cur, h1, hbg, hgc, _⟩
        · cases h1
        · cases h1
          exact ⟨hbg, cur, hgc⟩, hb⟩
set_option maxRecDepth 100000 in
set_option maxHeartbeats 1600000 in
theorem fclone2_any (v : Vd) (w : World) (h : v.Ok w w.heap.size) (hn : v.n ≤ 1000000) :
    Calls Tryd.prog 74 #[.agg (vdc v)] w fun e w' => ∃ v' : Vd, e = .returned (.agg (vdc v')) ∧ v'.Ok w' w'.heap.size ∧ sgV v' = sgV v ∧ v'.n = v.n ∧ DB w' w.heap.size v'.A ∧ Below w.heap.size w w' := by
  obtain ⟨k, c, s, A, n, cp, xs, t⟩ := v
  have HX := Lib.hid h
  dsimp only at hn
  clear h
  unfold vdc
  dsimp only
  have hb0 := bl_alloc (bl_alloc (bl_refl w) (.cells #[.int .i64 k, .int .i64 c, .int .i64 s, .slice A n cp, .int .i64 t] 40)) (.cells #[.int .i64 0, .int .i64 0, .int .i64 0, .slice none 0 0, .int .i64 0] 40)
  have o1 := (Own.new w 40 #[.int .i64 k, .int .i64 c, .int .i64 s, .slice A n cp, .int .i64 t]).alloc (.cells #[.int .i64 0, .int .i64 0, .int .i64 0, .slice none 0 0, .int .i64 0] 40)
  have o2 := Own.new (w.alloc (.cells #[.int .i64 k, .int .i64 c, .int .i64 s, .slice A n cp, .int .i64 t] 40)) 40 #[.int .i64 0, .int .i64 0, .int .i64 0, .slice none 0 0, .int .i64 0]
  rw [show (w.alloc (.cells #[.int .i64 k, .int .i64 c, .int .i64 s, .slice A n cp, .int .i64 t] 40)).heap.size = w.heap.size + 1 by simp] at o2
  have hz2 : ((w.alloc (.cells #[.int .i64 k, .int .i64 c, .int .i64 s, .slice A n cp, .int .i64 t] 40)).alloc (.cells #[.int .i64 0, .int .i64 0, .int .i64 0, .slice none 0 0, .int .i64 0] 40)).heap.size = w.heap.size + 1 + 1 := by simp
  go_enter Tryd.func74, Tryd.ntmps74
  have c3 := o1.cell (i := 3) (v := .slice A n cp) rfl
  go_wp2_with fail
  have hx1 := (HX.out.1.below hb0).more hb0.size
  refine (bclone2_any A n cp xs _ hx1 hn).mono ?_
  rw [hz2]
  rintro e w1 ⟨A', c', rfl, hx2, hblk, hb1⟩
  rw [← hz2] at hb1
  have q1 := o1.step hb1
  have q2 := o2.step hb1
  have hb2 := bl_trans hb0 hb1
  have hne : w.heap.size + 1 ≠ w.heap.size := by omega
  have fz := q1.frozen 3
  have d3 := q1.cell (i := 3) (v := .slice A n cp) rfl
  have sS : Own (w1.setCell ⟨w.heap.size, 3, none⟩ (.slice A' n c')) w.heap.size 40 #[.int .i64 k, .int .i64 c, .int .i64 s, .slice A' n c', .int .i64 t] := by have := q1.set_ 3 (.slice A' n c'); simpa using this
  have s2 := q2.far (p := ⟨w.heap.size, 3, none⟩) hne (.slice A' n c')
  have hb3 := hb2.setCell (p := ⟨w.heap.size, 3, none⟩) (Nat.le_refl _) (.slice A' n c')
  obtain ⟨e0, e1, e2, e3, e4⟩ := vd_row sS
  have hkeep : ∀ a, A' = some a → ((w1.setCell ⟨w.heap.size, 3, none⟩ (.slice A' n c')).setRow (w.heap.size + 1) #[.int .i64 k, .int .i64 c, .int .i64 s, .slice A' n c', .int .i64 t]).heap[a.block]? = w1.heap[a.block]? := fun a ha => by
    have hg := (hblk a ha).1
    rw [setRow_other _ _ _ _ (by omega)]
    exact Below.heap_setCell _ ⟨w.heap.size, 3, none⟩ _ a.block (by show a.block ≠ w.heap.size; omega)
  have hX3 : Bytes ((w1.setCell ⟨w.heap.size, 3, none⟩ (.slice A' n c')).setRow (w.heap.size + 1) #[.int .i64 k, .int .i64 c, .int .i64 s, .slice A' n c', .int .i64 t]) w1.heap.size A' n xs := hx2.keepB hkeep
  have hD3 : DB ((w1.setCell ⟨w.heap.size, 3, none⟩ (.slice A' n c')).setRow (w.heap.size + 1) #[.int .i64 k, .int .i64 c, .int .i64 s, .slice A' n c', .int .i64 t]) w.heap.size A' := fun a ha => by
    obtain ⟨h1, cs, h2⟩ := hblk a ha
    exact ⟨by omega, cs, (hkeep a ha).trans h2⟩
  have HB := Lib.hid hX3
  have HK := Lib.hid hD3
  clear hX3 hx2 hblk hx1 o1 o2 c3 hb0 hb1 hb2 hz2 hkeep hD3
  go_wp2_with (refine wpList_store_row rfl 40 _ _ rfl (w.heap.size + 1) #[.int .i64 k, .int .i64 c, .int .i64 s, .slice A' n c', .int .i64 t] rfl rfl 40 #[.int .i64 0, .int .i64 0, .int .i64 0, .slice none 0 0, .int .i64 0] s2 (vdc_info _ _ _ _ _ _ _) rfl (vdc_one _ _ _ _ _ _ _) ?_)
  refine bodyPost_ret (results_cell1 (p := 2) (fn := Tryd.f74) rfl _ _ (w.heap.size + 1) 40 #[.int .i64 k, .int .i64 c, .int .i64 s, .slice A' n c', .int .i64 t] _ rfl s2.setRow vdc_desc rfl (vdc_info _ _ _ _ _ _ _)) rfl ⟨⟨k, c, s, A', n, c', xs, t⟩, rfl, ⟨HB.out.more (by simp), HX.out.2⟩, rfl, rfl, HK.out, bl_setRow hb3 (by omega)⟩

/-- The log at g holds these verdicts, in a row of its own at v; all its memory but g lies from base on. -/
def LogIs (w : World) (base g : Nat) (v : Value) (S : List SgV) : Prop :=
  ∃ L : List Vd, L.map sgV = S ∧ Own w g 80 #[v] ∧ w.ownsRow base 40 5 v L.length (flatV L) ∧ ∀ x ∈ L, x.Ok w w.heap.size ∧ x.n ≤ 1000000 ∧ DB w base x.A
theorem LogIs.rest {w w' : World} {base g : Nat} {v : Value} {S : List SgV} {P : Nat → Prop} (h : LogIs w base g v S) (k : Rest w w' P) (hg : ¬ P g) (hv : ∀ j, v.ownBlock = some j → ¬ P j) (hd : ∀ j, base ≤ j → Typed w j 5 → ¬ P j) : LogIs w' base g v S := by
  obtain ⟨L, hL, og, hr, ha⟩ := h
  refine ⟨L, hL, k.own og hg, row_rest hr k hv, fun x hx => ?_⟩
  obtain ⟨h1, h2, h3⟩ := ha x hx
  exact ⟨⟨(h1.1.rest k (Nat.le_refl _) (fun a ha => hd _ (h3 a ha).1 (h3 a ha).2)).more k.size, h1.2⟩, h2, fun a ha => ⟨(h3 a ha).1, (h3 a ha).2.rest k (hd _ (h3 a ha).1 (h3 a ha).2)⟩⟩
theorem LogIs.below {w w' : World} {base g : Nat} {v : Value} {S : List SgV} (h : LogIs w base g v S) (k : Below w.heap.size w w') : LogIs w' base g v S :=
  h.rest (Rest.of_below k (fun _ => False)) (fun f => f) (fun _ _ f => f) (fun _ _ _ f => f)
set_option maxRecDepth 100000 in
theorem log_new (w : World) : Calls Tryd.prog 15 #[] w fun e w' => e = .returned (.pointer (some ⟨w.heap.size, 0, none⟩)) ∧ LogIs w' (w.heap.size + 1) w.heap.size (.slice none 0 0) [] ∧ w'.heap.size = w.heap.size + 1 ∧ Below w.heap.size w w' := by
  have o := Own.new w 80 #[.slice none 0 0]
  have hb := bl_alloc (bl_refl w) (.cells #[.slice none 0 0] 80)
  go_enter Tryd.func15, Tryd.ntmps15
  go_wp2
  go_ret
  exact ⟨rfl, ⟨[], rfl, o, World.ownsRow_nil _ _ _ _, fun _ h => by cases h⟩, by simp, hb⟩
def errK (v : Vd) : Bool := decide (v.k ≠ 0)
def errV (vs : List Vd) : List Vd := vs.filter errK
theorem errV_yes {vs : List Vd} {j : Nat} (h : j < vs.length) (hk : (nthV vs j).k ≠ 0) : errV (vs.take (j + 1)) = errV (vs.take j) ++ [nthV vs j] := by
  unfold errV
  rw [take_nthV h, List.filter_append]
  simp [errK, hk]
theorem errV_no {vs : List Vd} {j : Nat} (h : j < vs.length) (hk : (nthV vs j).k = 0) : errV (vs.take (j + 1)) = errV (vs.take j) := by
  unfold errV
  rw [take_nthV h, List.filter_append]
  simp [errK, hk]
theorem errV_len (vs : List Vd) (j : Nat) : (errV (vs.take j)).length ≤ j := by
  unfold errV
  exact Nat.le_trans (List.length_filter_le _ _) (List.length_take_le _ _)
theorem log_types : (80 : TypeId) ≠ 40 ∧ (80 : TypeId) ≠ 5 ∧ (40 : TypeId) ≠ 5 := by decide
/-- One verdict more in the log. -/
theorem LogIs.push {w w2 : World} {base g : Nat} {v v1 : Value} {S : List SgV} {x : Vd} {L : List Vd} (hL : L.map sgV = S) (og : Own w g 80 #[v]) (hv : w.ownsRow base 40 5 v L.length (flatV L)) (ha : ∀ y ∈ L, y.Ok w w.heap.size ∧ y.n ≤ 1000000 ∧ DB w base y.A)
    (hx : x.Ok w w.heap.size) (hxn : x.n ≤ 1000000) (hxd : DB w base x.A) (hrow : w2.ownsRow base 40 5 v1 (L.length + 1) (flatV L ++ (vdc x).toList)) (hgr : w.grownBy w2 v.ownBlock) :
    LogIs (w2.setCell ⟨g, 0, none⟩ v1) base g v1 (S ++ [sgV x]) := by
  obtain ⟨t1, t2, t3⟩ := log_types
  have hR : Rest w w2 (fun i => v.ownBlock = some i) := Rest.of_grown hgr (fun j hj => hj)
  have hng : ¬ (v.ownBlock = some g) := fun e => (og.typed.ne (row_typed hv e).1 t1) rfl
  have o2 := hR.own og hng
  have hS := Rest.setCell w2 ⟨g, 0, none⟩ v1
  have hR3 : Rest w (w2.setCell ⟨g, 0, none⟩ v1) (fun i => i = g ∨ v.ownBlock = some i) := (hR.mono (fun i h => Or.inr h)).trans hS (fun i _ h => Or.inl h)
  have hd : ∀ j, Typed w j 5 → ¬ (j = g ∨ v.ownBlock = some j) := fun j hj h => by
    rcases h with h | h
    · exact hj.ne og.typed (Ne.symm t2) h
    · exact hj.ne (row_typed hv h).1 (Ne.symm t3) rfl
  refine ⟨L ++ [x], by rw [List.map_append, hL]; rfl, ?_, ?_, fun y hy => ?_⟩
  · have := o2.set_ 0 v1
    simpa using this
  · have h1 : w2.ownsRow base 40 5 v1 (L ++ [x]).length (flatV (L ++ [x])) := by
      rw [List.length_append, flatV_append]
      simpa [flatV] using hrow
    refine row_rest h1 hS (fun j hj => fun e => ?_)
    exact (row_typed hrow hj).1.ne o2.typed (Ne.symm t1) e
  · have key : ∀ y : Vd, y.Ok w w.heap.size → y.n ≤ 1000000 → DB w base y.A → y.Ok (w2.setCell ⟨g, 0, none⟩ v1) (w2.setCell ⟨g, 0, none⟩ v1).heap.size ∧ y.n ≤ 1000000 ∧ DB (w2.setCell ⟨g, 0, none⟩ v1) base y.A := fun y h1 h2 h3 =>
      ⟨⟨(h1.1.rest hR3 (Nat.le_refl _) (fun a ha => hd _ (h3 a ha).2)).more hR3.size, h1.2⟩, h2, fun a ha => ⟨(h3 a ha).1, (h3 a ha).2.rest hR3 (hd _ (h3 a ha).2)⟩⟩
    rcases List.mem_append.1 hy with hy | hy
    · exact key y (ha y hy).1 (ha y hy).2.1 (ha y hy).2.2
    · rw [List.mem_singleton] at hy
      subst hy
      exact key _ hx hxn hxd
theorem put_step {w wr Y w3 : World} {base g : Nat} {v vr v1 : Value} {S' : List SgV} {x x' : Vd} (hR : Rest w wr (fun i => i = g ∨ v.ownBlock = some i)) (hob : vr.ownBlock = v.ownBlock ∨ ∀ k, vr.ownBlock = some k → w.heap.size ≤ k)
    (hbY : Below wr.heap.size wr Y) {L : List Vd} (hL : L.map sgV = S') (og : Own Y g 80 #[vr]) (hv : Y.ownsRow base 40 5 vr L.length (flatV L)) (ha : ∀ y ∈ L, y.Ok Y Y.heap.size ∧ y.n ≤ 1000000 ∧ DB Y base y.A)
    (hx : x'.Ok Y Y.heap.size) (hxn : x'.n ≤ 1000000) (hxd : DB Y base x'.A) (hsg : sgV x' = sgV x) (hrow : w3.ownsRow base 40 5 v1 (L.length + 1) (flatV L ++ (vdc x').toList)) (hgr : Y.grownBy w3 vr.ownBlock) (h1 : v1.ownBlock = vr.ownBlock ∨ v1.ownBlock = some Y.heap.size) :
    LogIs (w3.setCell ⟨g, 0, none⟩ v1) base g v1 (S' ++ [sgV x]) ∧ (v1.ownBlock = v.ownBlock ∨ ∀ k, v1.ownBlock = some k → w.heap.size ≤ k) ∧ Rest w (w3.setCell ⟨g, 0, none⟩ v1) (fun i => i = g ∨ v.ownBlock = some i) := by
  have hs1 := hR.size
  have hs2 := hbY.size
  refine ⟨by rw [← hsg]; exact LogIs.push hL og hv ha hx hxn hxd hrow hgr, ?_, ?_⟩
  · rcases h1 with h1 | h1
    · rw [h1]; exact hob
    · right
      intro k hk
      rw [h1] at hk
      cases hk
      omega
  · refine ((hR.below hbY).trans (Rest.of_grown hgr (P := fun i => vr.ownBlock = some i) (fun j hj => hj)) (fun i hi hi2 => ?_)).trans (Rest.setCell w3 ⟨g, 0, none⟩ v1) (fun i _ h => .inl h)
    rcases hob with h | h
    · exact .inr (h ▸ hi2)
    · exact absurd (h i hi2) (by omega)
set_option maxRecDepth 100000 in
set_option maxHeartbeats 6400000 in
theorem put_anyL (g base : Nat) (v : Value) (S : List SgV) (A : Option Addr) (n c : Nat) (vs : List Vd) (w : World) (hl : LogIs w base g v S) (hbase : base ≤ w.heap.size) (hV : ∀ W, Rest w W (fun i => i = g ∨ v.ownBlock = some i) → Vds W w.heap.size A n vs) (hn : n ≤ 1000) (hs : S.length + n ≤ 100000) (hsz : ∀ x ∈ vs, x.n ≤ 1000000) :
    Calls Tryd.prog 46 #[.pointer (some ⟨g, 0, none⟩), .slice A n c] w fun e w' => e = .returned (.tuple #[]) ∧ ∃ v', LogIs w' base g v' (S ++ (errV vs).map sgV) ∧ (v'.ownBlock = v.ownBlock ∨ ∀ j, v'.ownBlock = some j → w.heap.size ≤ j) ∧ Rest w w' (fun i => i = g ∨ v.ownBlock = some i) := by
  have HN := Lib.hid (hV w (Rest.refl _ _)).1
  have HV := Lib.hid hV
  have HZ := Lib.hid hsz
  have HS := Lib.hid hs
  clear hV hsz hs
  go_enter Tryd.func46, Tryd.ntmps46
  go_wp2_with fail
  go_loopw [8] (fun i wr => ∃ (j : Nat) (vr : Value), j ≤ n ∧ i = .int .i64 j ∧ LogIs wr base g vr (S ++ (errV (vs.take j)).map sgV) ∧ (vr.ownBlock = v.ownBlock ∨ ∀ k, vr.ownBlock = some k → w.heap.size ≤ k) ∧ Rest w wr (fun i => i = g ∨ v.ownBlock = some i)) (fun i _ => n - (intOf i).toNat)
  case atStart => exact ⟨0, v, Nat.zero_le _, rfl, by simpa [errV] using hl, .inl rfl, Rest.refl _ _⟩
  case round =>
    obtain ⟨j, vr, hj, rfl, hlog, hob, hR⟩ := hrel
    clear hl
    by_cases hlt : j < n
    · obtain ⟨b, o, rfl, hbB, hok, hrg⟩ := (HV.out wr hR).at_ hlt
      have hjl := Lib.hid (show j < vs.length by have := HN.out; omega)
      have hxn := HZ.out _ (nthV_mem hjl.out)
      have HY := Lib.hid (errV_yes hjl.out)
      have HO := Lib.hid (errV_no hjl.out)
      have HLn := Lib.hid (errV_len vs j)
      generalize nthV vs j = x at *
      have hok1 := hok.more hR.size
      obtain ⟨d0, d1, d2, d3, d4⟩ := range5 hrg
      have hbs := hR.size
      have hbw : b < wr.heap.size := by omega
      by_cases hk : x.k = 0
      · have hkb : (x.k != 0) = false := by simp [hk]
        have HX := Lib.hid (HO.out hk)
        have hb1 := bl_alloc (bl_refl wr) (.cells #[.int .i64 x.k, .int .i64 x.c, .int .i64 x.s, .slice x.A x.n x.cp, .int .i64 x.t] 40)
        have hl1 := hlog.below hb1
        have hR1 := hR.below hb1
        clear hrg hok hok1 hk HY HO hlog hR
        go_wp2
        go_roundw
        case rel => exact ⟨j + 1, vr, by omega, by go_num, by rw [HX.out]; exact hl1, hob, hR1⟩
        case measure => simp [intOf]; omega
      · have hkb : (x.k != 0) = true := by simp [hk]
        have HX := Lib.hid (HY.out hk)
        obtain ⟨L, hL, og, hrow, ha⟩ := hlog
        obtain ⟨kk, kc, ks, kA, kn, kp, kx, kt⟩ := x
        dsimp only at hxn hkb d0 d1 d2 d3 d4
        have oB := Own.new wr 40 #[.int .i64 kk, .int .i64 kc, .int .i64 ks, .slice kA kn kp, .int .i64 kt]
        have bX := bl_alloc (bl_refl wr) (.cells #[.int .i64 kk, .int .i64 kc, .int .i64 ks, .slice kA kn kp, .int .i64 kt] 40)
        have hLl : L.length ≤ 100000 := by
          have h1 := congrArg List.length hL
          have h2 := HLn.out
          have h3 := HS.out
          rw [List.length_map, List.length_append, List.length_map] at h1
          omega
        have hCl := Lib.hid (fun W (h : Below wr.heap.size wr W) => fclone2_any ⟨kk, kc, ks, kA, kn, kp, kx, kt⟩ W ((hok1.below h).more h.size) hxn)
        unfold vdc at hCl
        dsimp only at hCl
        have HLL := Lib.hid hL
        have HHA := Lib.hid (fun W (h : Below wr.heap.size wr W) => show ∀ y ∈ L, y.Ok W W.heap.size ∧ y.n ≤ 1000000 ∧ DB W base y.A from fun y hy => ⟨((ha y hy).1.below h).more h.size, (ha y hy).2.1, (ha y hy).2.2.below h⟩)
        have HHR := Lib.hid (fun W (h : Below wr.heap.size wr W) => row_rest hrow (Rest.of_below h (fun _ => False)) (fun _ _ f => f))
        have HRR := Lib.hid hR
        have HOB := Lib.hid hob
        have HBA := Lib.hid hbase
        clear hrg hok hok1 hk HY HO hL hrow ha hR hob hbase
        go_wp2_with fail
        have bD := bX.drew
        have ogD := (og.step bX).drew
        obtain ⟨e0, e1, e2, e3, e4⟩ := vd_row oB.drew
        have cgD := ogD.cell (i := 0) (v := vr) rfl
        generalize (wr.alloc (.cells #[.int .i64 kk, .int .i64 kc, .int .i64 ks, .slice kA kn kp, .int .i64 kt] 40)) = X at *
        have hXs := bD.size
        go_region_law ((first
          | (go_simp; go_at_call 74; (with_reducible refine (hCl.out _ bD).mono ?_); rintro e w1 ⟨x', rfl, hok', hsg', hn', hD', hb1⟩; obtain ⟨mk, mc, ms, mA, mn, mp, mx, mt⟩ := x'; dsimp only at hn' hD'; have bW := bl_trans bD hb1; have bY := bl_alloc bW (.cells #[.int .i64 mk, .int .i64 mc, .int .i64 ms, .slice mA mn mp, .int .i64 mt] 40); have og1 := ogD.step hb1; have og2 := og1.alloc (.cells #[.int .i64 mk, .int .i64 mc, .int .i64 ms, .slice mA mn mp, .int .i64 mt] 40); have cg1 := og1.cell (i := 0) (v := vr) rfl; have cg2 := og2.cell (i := 0) (v := vr) rfl; have oS := Own.new w1 40 #[.int .i64 mk, .int .i64 mc, .int .i64 ms, .slice mA mn mp, .int .i64 mt]; have HX1 := Lib.hid (And.intro hok' (And.intro hsg' (And.intro hn' hD'))); clear hok' hsg' hn' hD'; dsimp only [vdc])
          | (refine step_append_at _ rfl _ _ rfl sl_vds base vr L.length (flatV L) rfl (HHR.out _ bY) (w1.heap.size + 1) (some ⟨w1.heap.size, 0, none⟩) 1 1 [.int .i64 mk, .int .i64 mc, .int .i64 ms, .slice mA mn mp, .int .i64 mt] rfl rfl (Shows.of_owned (xs := [.int .i64 mk, .int .i64 mc, .int .i64 ms, .slice mA mn mp, .int .i64 mt]) oS (Nat.lt_succ_self _)) (by intro u hu; simp only [List.mem_cons, List.not_mem_nil, or_false] at hu; rcases hu with rfl | rfl | rfl | rfl | rfl <;> rfl) (by unfold maxLen; omega) (by omega) (by have := bY.size; have := HBA.out; have := HRR.out.size; omega) ?_; intro v1 w3 hrow3 hgr3 hob3; obtain ⟨A1, c1, rfl⟩ := own_form hrow3; have og3 := og2.grown hgr3 (fun e => (og2.typed.ne (row_typed (HHR.out _ bY) e.symm).1 log_types.1) rfl); have cg3 := og3.cell (i := 0) (v := vr) rfl; have fz3 := og3.frozen 0; have hlt3 := og3.lt; have hal := bl_alloc (bl_refl w1) (.cells #[.int .i64 mk, .int .i64 mc, .int .i64 ms, .slice mA mn mp, .int .i64 mt] 40); have HF := Lib.hid (put_step HRR.out HOB.out bY HLL.out og2 (HHR.out _ bY) (HHA.out _ bY) (x := ⟨kk, kc, ks, kA, kn, kp, kx, kt⟩) ((HX1.out.1.below hal).more hal.size) (by rw [HX1.out.2.2.1]; exact hxn) (fun a ha => ⟨by have h1 := (HX1.out.2.2.2 a ha).1; have := HBA.out; have := HRR.out.size; have := bD.size; omega, (HX1.out.2.2.2 a ha).2.below hal⟩) HX1.out.2.1 hrow3 hgr3 hob3); clear hrow3 hgr3 hob3)))
        all_goals
          go_wp2
          go_roundw
          case rel => exact ⟨j + 1, _, by omega, by go_num, by rw [HX.out, List.map_append, ← List.append_assoc]; exact HF.out.1, HF.out.2.1, HF.out.2.2⟩
          case measure => simp [intOf]; omega
    · obtain rfl : j = n := by omega
      have HT := Lib.hid (show vs.take j = vs from List.take_of_length_le (by rw [← HN.out]; exact Nat.le_refl _))
      rw [HT.out] at hlog
      go_wp2
      go_end0
      exact ⟨rfl, vr, hlog, hob, hR⟩
end Go.Proofs.YtmcmhljonkijjaaDoor

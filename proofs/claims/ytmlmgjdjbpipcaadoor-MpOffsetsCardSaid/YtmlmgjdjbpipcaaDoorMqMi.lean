/- XMqMi: XMqI in one text -/
import Derived.Test.YtmlmgjdjbpipcaaDoorMqMc
import Derived.Test.YtmlmgjdjbpipcaaDoorMqMa
/- peerageref12.Read at a reach: the routes of a full slice (written by gen/mqh.py) -/
namespace Go.Proofs.YtmlmgjdjbpipcaaDoor
open Go.RowKit Go.Sort

theorem opt_slE {W : World} {b g : Nat} {S T : TypeId} {a0 a1 a2 a3 a4 a5 : Bool} {x y : Value} (o1 : Own W b S #[.bool a0, .bool a1, .bool a2, .bool a3, .bool a4, .bool a5]) (o2 : Own W g T #[x, y]) : W.cell? ⟨b, 0, none⟩ = some (.bool a0) ∧ W.cell? ⟨b, 1, none⟩ = some (.bool a1) ∧ W.cell? ⟨b, 2, none⟩ = some (.bool a2) ∧ W.cell? ⟨b, 3, none⟩ = some (.bool a3) ∧ W.cell? ⟨b, 4, none⟩ = some (.bool a4) ∧ W.cell? ⟨b, 5, none⟩ = some (.bool a5) ∧ W.cell? ⟨g, 0, none⟩ = some x := ⟨o1.cell rfl, o1.cell rfl, o1.cell rfl, o1.cell rfl, o1.cell rfl, o1.cell rfl, o2.cell rfl⟩
set_option maxRecDepth 100000 in
set_option maxHeartbeats 6400000 in
theorem rmread_routesE (a0 a1 a2 a3 a4 a5 : Bool) (A : Option Addr) (c : Nat) (xs : List Int) (w : World) (hx : Bytes w w.heap.size A xs.length xs) (hc : xs.length ≤ c) (hn : xs.length ≤ 500) (h3 : ¬ xs.length < 3) (hyes : famB a2 a3 (mF xs) = true) (h4 : ¬ xs.length < 4) (hh : hopB (mF xs) (mN xs) = true) (h5 : ¬ xs.length < 4 + mN xs) (h6 : Hid (¬ xs.length = 4 + mN xs)) (hce5 : Hid (c = 5 + mN xs)) :
    Calls Tryd.prog 19 #[.agg #[.bool a0, .bool a1, .bool a2, .bool a3, .bool a4, .bool a5], .int .i64 14, .agg #[.slice A xs.length c, .int .i64 0]] w fun e w' => Below w.heap.size w w' ∧ ((∃ V, e = .returned (.tuple #[.agg zA9, .agg V]) ∧ MFail a2 a3 a4 a5 xs 0 V) ∨ (∃ A', e = .returned (.tuple #[.agg A', .agg zV5]) ∧ MGood a2 a3 a4 a5 xs w' A')) := by
  have htg : mTag a2 a3 xs = 4 := by unfold mTag; rw [if_neg h3, hyes, hh]; simp [h6.out]; omega
  have hAdd := Lib.hid (fun W => radd_any a0 a1 a2 a3 a4 a5 (mF xs) W)
  have hf12 := famB_12 hyes
  have hMp := Lib.hid (fun W => rmp_any a0 a1 a2 a3 a4 a5 (mF xs) W)
  rw [hyes] at hMp
  obtain ⟨W4, hW4, o3, o5, o6, o7, b4, hs4⟩ := four_boxes w #[.bool a0, .bool a1, .bool a2, .bool a3, .bool a4, .bool a5] #[.slice A xs.length c, .int .i64 0] #[.int .i64 0, .bool false, .int .u32 0, .int .u32 0, .slice none 0 0, .slice none 0 0, .slice none 0 0, .int .i64 0, .slice none 0 0] #[.int .i64 0, .int .i64 0, .int .i64 0, .slice none 0 0, .int .i64 0] 23 48 30 38
  have hx4 := hx.below b4
  have c50 := o5.cell (i := 0) (v := .slice A xs.length c) rfl
  have c51 := o5.cell (i := 1) (v := .int .i64 0) rfl
  go_enter Tryd.func19, Tryd.ntmps19
  go_upto_region 1 with fail
  rw [← hW4]
  clear hW4
  obtain ⟨b, o, hA, hb, hz, hz0, hz1⟩ := hx4.at_ (show 2 < xs.length by omega)
  have HBig := Lib.hid (fun W (h : Bytes W w.heap.size A 2 (xs.take 2)) => rbig_any A 2 c (xs.take 2) W w.heap.size h (by omega))
  have HFm := Lib.hid (fun W => rmfamily_any (big (xs.take 2)) (nth xs 2) (big_two hx.2.1).1 (big_two hx.2.1).2 W)
  have hfr : Bytes W4.drew w.heap.size A 2 (xs.take 2) := (hx4.front (show 2 ≤ xs.length by omega)).drewN 1
  have hfam : Hid (famOf (big (xs.take 2)) (nth xs 2) = mF xs) := Lib.hid rfl
  rw [hfam.out] at HFm
  have hlt : ¬ (xs.length : Int) < 3 := by omega
  have hlt2 : (2 : Int) < (xs.length : Int) := by omega
  have hcc : (2 : Int) ≤ (c : Int) := by omega
  have hwz : IntKind.u32.wrap (nth xs 2) = nth xs 2 := by rw [IntKind.wrap_u32]; omega
  subst hA
  go_wp2_with fail
  have HS0 : W4.drew.cell? ⟨w.heap.size + 1, 0, none⟩ = some (.slice (some ⟨b, o, none⟩) xs.length c) ∧ W4.drew.cell? ⟨b, o + 2, none⟩ = some (.int .u8 (nth xs 2)) := ⟨c50, hz⟩
  go_region_held3 (fun W => W.cell? ⟨w.heap.size + 1, 0, none⟩ = some (.slice (some ⟨b, o, none⟩) xs.length c) ∧ W.cell? ⟨b, o + 2, none⟩ = some (.int .u8 (nth xs 2))) (with_reducible exact HS0) ((first
    | (go_at_call 55; (with_reducible refine (HBig.out _ hfr).mono ?_); rintro e w' ⟨rfl, rfl⟩)
    | (go_at_call 54; (with_reducible refine (HFm.out _).mono ?_); rintro e w' ⟨rfl, rfl⟩)))
  replace o3 := o3.drew
  replace o5 := o5.drew
  replace o6 := o6.drew
  replace o7 := o7.drew
  replace b4 := b4.drew
  replace hx4 := hx4.drewN 1
  replace hs4 : W4.drew.heap.size = w.heap.size + 1 + 1 + 1 + 1 := hs4
  clear HS0 hfr HBig HFm hfam c50 c51 hz
  generalize hW5 : W4.drew = W5 at *
  replace hx4 : Bytes W5 w.heap.size (some ⟨b, o, none⟩) xs.length xs := hW5 ▸ hx4
  clear hW5
  have q1 : (mF xs == 0) = false := by simp; omega
  obtain ⟨y0, y1, y2, y3, y4, y5⟩ : _ ∧ _ ∧ _ ∧ _ ∧ _ ∧ _ := ⟨o3.cell (i := 0) rfl, o3.cell (i := 1) rfl, o3.cell (i := 2) rfl, o3.cell (i := 3) rfl, o3.cell (i := 4) rfl, o3.cell (i := 5) rfl⟩
  go_wp2_with fail
  refine (hMp.out _).mono ?_
  rintro e w5 ⟨rfl, hb5⟩
  clear y0 y1 y2 y3 y4 y5
  have hb6 := bl_alloc hb5 (.cells #[.int .i64 14, .bool false, .int .u32 0, .int .u32 0, .slice none 0 0, .slice none 0 0, .slice none 0 0, .int .i64 (mF xs), .slice none 0 0] 30)
  have o10 := Own.new w5 30 #[.int .i64 14, .bool false, .int .u32 0, .int .u32 0, .slice none 0 0, .slice none 0 0, .slice none 0 0, .int .i64 (mF xs), .slice none 0 0]
  replace o3 := o3.step hb6
  replace o5 := o5.step hb6
  replace o6 := o6.step hb6
  replace o7 := o7.step hb6
  replace hx4 := hx4.below (hb6.mono (by omega))
  have hs5 := hb5.size
  replace b4 := bl_trans b4 hb6
  clear hb5 hb6 hMp
  go_wp2_with fail
  obtain ⟨W6, hW6⟩ : ∃ z, z = w5.alloc (.cells #[.int .i64 14, .bool false, .int .u32 0, .int .u32 0, .slice none 0 0, .slice none 0 0, .slice none 0 0, .int .i64 (mF xs), .slice none 0 0] 30) := ⟨_, rfl⟩
  have hs6 : W6.heap.size = w5.heap.size + 1 := by rw [hW6]; simp
  rw [← hW6] at o3 o5 o6 o7 o10 hx4 b4 ⊢
  clear hW6
  obtain ⟨g10, hg10⟩ : ∃ z, z = w5.heap.size := ⟨_, rfl⟩
  rw [← hg10] at o10 hs5 hs6 ⊢
  clear hg10
  have c50 : W6.drew.cell? ⟨w.heap.size + 1, 0, none⟩ = some (.slice (some ⟨b, o, none⟩) xs.length c) := o5.cell (i := 0) rfl
  have c51 : W6.drew.cell? ⟨w.heap.size + 1, 1, none⟩ = some (.int .i64 0) := o5.cell (i := 1) rfl
  have hcell : W6.drew.cell? ⟨b, o + 3, none⟩ = some (.int .u8 ((mN xs : Nat) : Int)) ∧ mN xs ≤ 255 := by
    obtain ⟨b', o', hA', _, hz', hz0', hz1'⟩ := hx4.at_ (show 3 < xs.length by omega)
    cases hA'
    have e : nth xs 3 = ((mN xs : Nat) : Int) := by unfold mN; omega
    rw [e] at hz'
    exact ⟨hz', by unfold mN; omega⟩
  obtain ⟨hz3, hN255⟩ := hcell
  have hHp := Lib.hid (fun W => rmhop_any (mF xs) (mN xs) W)
  have hlt3 : (3 : Int) < (xs.length : Int) := by omega
  have hwn : IntKind.i64.wrap ((mN xs : Nat) : Int) = ((mN xs : Nat) : Int) := by rw [IntKind.wrap_i64]; omega
  have hwn4 : IntKind.i64.wrap (4 + ((mN xs : Nat) : Int)) = 4 + ((mN xs : Nat) : Int) := by rw [IntKind.wrap_i64]; omega
  have hlt4 : ¬ (xs.length : Int) < 4 := by omega
  rw [hh] at hHp
  have hN32 := hop_32 hh
  have hlt5 : ¬ (xs.length : Int) < 4 + ((mN xs : Nat) : Int) := by omega
  have HS1 := And.intro c50 hz3
  go_region_held3 (fun W => W.cell? ⟨w.heap.size + 1, 0, none⟩ = some (.slice (some ⟨b, o, none⟩) xs.length c) ∧ W.cell? ⟨b, o + 3, none⟩ = some (.int .u8 ((mN xs : Nat) : Int))) (with_reducible exact HS1) ((first
    | (go_at_call 56; (with_reducible refine (hHp.out _).mono ?_); rintro e w' ⟨rfl, rfl⟩)))
  replace hz3 : W6.drew.cell? ⟨b, o + 3, none⟩ = some (.int .u8 ((mN xs : Nat) : Int)) := hz3
  replace o3 := o3.drew
  replace o5 := o5.drew
  replace o6 := o6.drew
  replace o7 := o7.drew
  replace o10 := o10.drew
  replace b4 := b4.drew
  replace hs6 : W6.drew.heap.size = g10 + 1 := hs6
  generalize hW7 : W6.drew = W7 at *
  replace hx4 : Bytes W7 w.heap.size (some ⟨b, o, none⟩) xs.length xs := hW7 ▸ hx4.drewN 1
  clear hW7
  clear HS1 hHp
  have c100 := o10.cell (i := 6) (v := .slice none 0 0) rfl
  have f106 := o10.frozen 6
  have l10 := o10.lt
  have hc4 : (4 : Int) ≤ 4 + ((mN xs : Nat) : Int) := by omega
  have hcc2 : 4 + ((mN xs : Nat) : Int) ≤ (c : Int) := by omega
  have heq : ((xs.length : Int) == 4 + ((mN xs : Nat) : Int)) = false := by have := h6.out; simp; omega
  have hlen5 : 5 + mN xs ≤ xs.length := by have := h6.out; omega
  have hce : ¬ c = 4 := by omega
  have hce2 : ¬ (c : Int) = 4 := by omega
  have hce3 : ¬ (c : Int) - 4 = 0 := by omega
  have hce4 : ¬ c - 4 = 0 := by omega
  have p5 := o5.far (p := ⟨g10, 6, none⟩) (show w.heap.size + 1 ≠ g10 by omega) (.slice (some ⟨b, o + 4, none⟩) (mN xs) (c - 4))
  have p6 := o6.far (p := ⟨g10, 6, none⟩) (show w.heap.size + 1 + 1 ≠ g10 by omega) (.slice (some ⟨b, o + 4, none⟩) (mN xs) (c - 4))
  have px := o7.far (p := ⟨g10, 6, none⟩) (show w.heap.size + 1 + 1 + 1 ≠ g10 by omega) (.slice (some ⟨b, o + 4, none⟩) (mN xs) (c - 4))
  have b8 : Below w.heap.size w (W7.setCell ⟨g10, 6, none⟩ (.slice (some ⟨b, o + 4, none⟩) (mN xs) (c - 4))) := b4.trans ((Rest.setCell W7 ⟨g10, 6, none⟩ (.slice (some ⟨b, o + 4, none⟩) (mN xs) (c - 4))).to_below (by omega) (fun i hi e => by
    have e2 : i = g10 := e
    omega))
  have c50 := o5.cell (i := 0) (v := .slice (some ⟨b, o, none⟩) xs.length _) rfl
  have c51 := o5.cell (i := 1) (v := .int .i64 0) rfl
  have p3 := o3.far (p := ⟨g10, 6, none⟩) (show w.heap.size ≠ g10 by omega) (.slice (some ⟨b, o + 4, none⟩) (mN xs) (c - 4))
  have p10 := at_set6 o10 (.slice (some ⟨b, o + 4, none⟩) (mN xs) (c - 4))
  have hx8 : Bytes (W7.setCell ⟨g10, 6, none⟩ (.slice (some ⟨b, o + 4, none⟩) (mN xs) (c - 4))) w.heap.size (some ⟨b, o, none⟩) xs.length xs := hx4.below ((Rest.setCell W7 ⟨g10, 6, none⟩ (.slice (some ⟨b, o + 4, none⟩) (mN xs) (c - 4))).to_below (by omega) (fun i hi e => by
    have e2 : i = g10 := e
    omega))
  have hs8 : (W7.setCell ⟨g10, 6, none⟩ (.slice (some ⟨b, o + 4, none⟩) (mN xs) (c - 4))).heap.size = g10 + 1 := by rw [World.size_setCell]; exact hs6
  clear o3 o5 o6 o7 o10 hx4 b4
  go_wp2_with fail
  have hA5 : (4 + ((mN xs : Nat) : Int) + 1) ≤ (xs.length : Int) := by omega
  have hA0 : (0 : Int) ≤ (4 + ((mN xs : Nat) : Int) + 1) := by omega
  have hcI : (xs.length : Int) ≤ (c : Int) := by omega
  have hc0 : (0 : Int) ≤ (xs.length : Int) := by omega
  have hq1 : (c : Int) = 4 + ((mN xs : Nat) : Int) + 1 := by have := hce5.out; omega
  have hq2 : (c : Int) - (4 + ((mN xs : Nat) : Int) + 1) = 0 := by omega
  have hq3 : c - (4 + mN xs + 1) = 0 := by omega
  have hBG : Bytes (W7.setCell ⟨g10, 6, none⟩ (.slice (some ⟨b, o + 4, none⟩) (mN xs) (c - 4))) w.heap.size (some ⟨b, o, none⟩) (xs.length - (4 + mN xs + 1)) (xs.drop (5 + mN xs)) := by
    have h := hx8.cut (k := 4 + mN xs + 1) (cap := c) (by omega) (by omega)
    rw [if_pos (by have := hce5.out; omega), show 4 + mN xs + 1 = 5 + mN xs by omega] at h
    rw [show 4 + mN xs + 1 = 5 + mN xs by omega]
    first | exact h | simpa only [Option.map_some, Addr.add_lit] using h
  have hBA : Bytes (W7.setCell ⟨g10, 6, none⟩ (.slice (some ⟨b, o + 4, none⟩) (mN xs) (c - 4))) w.heap.size (some ⟨b, o + 4, none⟩) (mN xs) ((xs.drop 4).take (mN xs)) := by
    have h := hx8.cut (k := 4) (cap := c) (by omega) (by omega)
    rw [if_neg (by omega)] at h
    have h2 : Bytes (W7.setCell ⟨g10, 6, none⟩ (.slice (some ⟨b, o + 4, none⟩) (mN xs) (c - 4))) w.heap.size (some ⟨b, o + 4, none⟩) (xs.length - 4) (xs.drop 4) := by first | exact h | simpa only [Option.map_some, Addr.add_lit] using h
    exact h2.front (by omega)
  have hGl : (xs.drop (5 + mN xs)).length ≤ 500 := by rw [List.length_drop]; omega
  have HGl := Lib.hid hGl
  have hRl := Lib.hid (fun (W : World) (h : Bytes W W.heap.size (some ⟨b, o, none⟩) (xs.length - (4 + mN xs + 1)) (xs.drop (5 + mN xs))) => rl_any (mF xs) (famB a4 a5 (mF xs)) _ _ 0 _ W h (by omega) (by omega))
  generalize hW8 : W7.setCell ⟨g10, 6, none⟩ (.slice (some ⟨b, o + 4, none⟩) (mN xs) (c - 4)) = W8 at *
  have HS1 := opt_slE p3.drew p5.drew
  go_region_held3 (fun W => W.cell? ⟨w.heap.size, 0, none⟩ = some (.bool a0) ∧ W.cell? ⟨w.heap.size, 1, none⟩ = some (.bool a1) ∧ W.cell? ⟨w.heap.size, 2, none⟩ = some (.bool a2) ∧ W.cell? ⟨w.heap.size, 3, none⟩ = some (.bool a3) ∧ W.cell? ⟨w.heap.size, 4, none⟩ = some (.bool a4) ∧ W.cell? ⟨w.heap.size, 5, none⟩ = some (.bool a5) ∧ W.cell? ⟨w.heap.size + 1, 0, none⟩ = some (.slice (some ⟨b, o, none⟩) xs.length c)) (with_reducible first | exact HS1 | exact HS2 | exact HS3) ((first
    | (go_at_call 32; (with_reducible refine (hAdd.out _).mono ?_); rintro e w9 ⟨rfl, hb9⟩; have HS2 := opt_slE (p3.drew.step hb9) (p5.drew.step hb9); have hG9 := ((hBG.drewN 1).below (hb9.mono b8.size)).more (Nat.le_trans b8.size hb9.size))
    | (go_at_call 57; (refine (hRl.out _ hG9).mono ?_); rintro e w10 ⟨v, at_, rfl, hrt, hb10⟩; have HS3 := opt_slE ((p3.drew.step hb9).step hb10) ((p5.drew.step hb9).step hb10))))
  have hb11 : Below W8.heap.size W8 w10 := bl_trans ((bl_refl W8).drew.trans hb9) hb10
  have o6 := p6.step hb11
  have o7 := px.step hb11
  have o10 := p10.step hb11
  have bx := b8.trans (hb11.mono b8.size)
  have hs10 := hb11.size
  have hBA2 := hBA.below (hb11.mono b8.size)
  have c51 := ((p5.drew.step hb9).step hb10).cell (i := 1) (v := .int .i64 0) rfl
  clear HS1 HS2 HS3 p3 p5 p6 px p10 hx8 hBG hBA hb9 hb10 hb11 b8 hW8 hG9 hq1 hq2 hq3
  first | clear h | (rename_i h _ _ _ _ _ _; clear h) | skip
  rcases hrt with ⟨rs, A6, c6, rfl, hps, rfl, hc6, hro⟩ | ⟨pq, rs, rfl, hp1, hps, hon, _⟩
  · have e8 := o10.cell (i := 8) (v := .slice none 0 0) rfl
    have f8 := o10.frozen 8
    have l8 := o10.lt
    have q10 := at_set8 o10 (.slice A6 rs.length c6)
    have hrt := routes_store hro (Rest.setCell w10 ⟨g10, 8, none⟩ (.slice A6 rs.length c6)) o10
    have p6 := o6.far (p := ⟨g10, 8, none⟩) (show w.heap.size + 1 + 1 ≠ g10 by omega) (.slice A6 rs.length c6)
    have px := o7.far (p := ⟨g10, 8, none⟩) (show w.heap.size + 1 + 1 + 1 ≠ g10 by omega) (.slice A6 rs.length c6)
    have RB := (Rest.setCell w10 ⟨g10, 8, none⟩ (.slice A6 rs.length c6)).to_below (B := w.heap.size) (by omega) (fun i hi e => by
      have e2 : i = g10 := e
      omega)
    have b8 := bx.trans RB
    have hBA3 := (hBA2.below RB).more b8.size
    have HPS := Lib.hid hps
    have sz : (w10.setCell ⟨g10, 8, none⟩ (.slice A6 rs.length c6)).heap.size = w10.heap.size := World.size_setCell _ _ _
    clear hps o6 o7 o10 bx hBA2 RB hro
    generalize hW11 : w10.setCell ⟨g10, 8, none⟩ (.slice A6 rs.length c6) = W11 at *
    have k8 : W11.heap[g10]? = some (.cells #[.int .i64 14, .bool false, .int .u32 0, .int .u32 0, .slice none 0 0, .slice none 0 0, .slice (some ⟨b, o + 4, none⟩) (mN xs) (c - 4), .int .i64 (mF xs), .slice A6 rs.length c6] 30 (0, 0)) := q10
    obtain ⟨k0, k1, k2, k3, k4, k5, k6, k7, k9⟩ := at_cells q10
    subst hW11
    have HBX := Lib.hid (And.intro hBA3 hrt)
    clear hBA3 hrt
    have p7 := (Rest.setRowM (w10.setCell ⟨g10, 8, none⟩ (.slice A6 rs.length c6)) (w.heap.size + 1 + 1) #[.int .i64 14, .bool false, .int .u32 0, .int .u32 0, .slice none 0 0, .slice none 0 0, .slice (some ⟨b, o + 4, none⟩) (mN xs) (c - 4), .int .i64 (mF xs), .slice A6 rs.length c6]).own px (by omega)
    have HP6 := Lib.hid p6
    have HF6 := Lib.hid (And.intro (p6.setRow (cs' := #[.int .i64 14, .bool false, .int .u32 0, .int .u32 0, .slice none 0 0, .slice none 0 0, .slice (some ⟨b, o + 4, none⟩) (mN xs) (c - 4), .int .i64 (mF xs), .slice A6 rs.length c6])) p7)
    have HB6 := Lib.hid b8
    go_wp2_with (first
      | (refine wpList_store_row rfl 30 _ _ rfl (w.heap.size + 1 + 1) #[.int .i64 14, .bool false, .int .u32 0, .int .u32 0, .slice none 0 0, .slice none 0 0, .slice (some ⟨b, o + 4, none⟩) (mN xs) (c - 4), .int .i64 (mF xs), .slice A6 rs.length c6] rfl rfl 30 zA9 p6 (at_infoM _ _ _ _ _ _ _ _ _) rfl (at_oneV _ _ _ _ _ _ _ _ _ _ _ _ _ _ _ _ _) ?_)
      | (refine wpList_store_row rfl 38 _ _ rfl (w.heap.size + 1 + 1 + 1) #[.int .i64 0, .int .i64 0, .int .i64 0, .slice none 0 0, .int .i64 0] rfl rfl 38 zV5 p7 (vd_infoM _ _ _ _ _) rfl (vd_oneM _ _ _ _) ?_))
    have F1 := (Rest.setRowM ((w10.setCell ⟨g10, 8, none⟩ (.slice A6 rs.length c6)).setRow (w.heap.size + 1 + 1) #[.int .i64 14, .bool false, .int .u32 0, .int .u32 0, .slice none 0 0, .slice none 0 0, .slice (some ⟨b, o + 4, none⟩) (mN xs) (c - 4), .int .i64 (mF xs), .slice A6 rs.length c6]) (w.heap.size + 1 + 1 + 1) #[.int .i64 0, .int .i64 0, .int .i64 0, .slice none 0 0, .int .i64 0]).own HF6.out.1 (by omega)
    have F2 := HF6.out.2.setRow (cs' := #[.int .i64 0, .int .i64 0, .int .i64 0, .slice none 0 0, .int .i64 0])
    refine bodyPost_ret (results_mp2 (p := 6) (q := 7) (fn := Tryd.f19) rfl _ _ (w.heap.size + 1 + 1) 30 #[.int .i64 14, .bool false, .int .u32 0, .int .u32 0, .slice none 0 0, .slice none 0 0, .slice (some ⟨b, o + 4, none⟩) (mN xs) (c - 4), .int .i64 (mF xs), .slice A6 rs.length c6] _ (w.heap.size + 1 + 1 + 1) 38 #[.int .i64 0, .int .i64 0, .int .i64 0, .slice none 0 0, .int .i64 0] _ rfl F1 at_descM rfl (at_infoM _ _ _ _ _ _ _ _ _) rfl F2 vd_descM rfl (vd_infoM _ _ _ _ _)) rfl ⟨bl_setRow (bl_setRow HB6.out (by omega)) (by omega), .inr ⟨_, rfl, htg, rs, (some ⟨b, o + 4, none⟩), c - 4, A6, c6, HPS.out, rfl, (KeepX.bytes _ _ _).rowV ((KeepX.bytes _ _ _).rowA HBX.out.1 HP6.out _) HF6.out.2 _, (KeepX.routes _ _ _).rowV ((KeepX.routes _ _ _).rowA HBX.out.2 HP6.out _) HF6.out.2 _⟩⟩
  · have hpl : pq < 500 := by have := HGl.out; omega
    have hmf : MFail a2 a3 a4 a5 xs 0 #[.int .i64 3, .int .i64 0, .int .i64 (mF xs), .slice none 0 0, .int .i64 (4 + ((mN xs : Nat) : Int) + 1 + ((pq : Nat) : Int))] := .inr (.inr (.inr (.inr ⟨htg, pq, rs, hp1, hps, hon, by rw [show (0 : Int) + 5 + ((mN xs : Nat) : Int) + ((pq : Nat) : Int) = 4 + ((mN xs : Nat) : Int) + 1 + ((pq : Nat) : Int) by omega]⟩)))
    clear hps hon hp1
    have p7 := (Rest.setRowM w10 (w.heap.size + 1 + 1) zA9).own o7 (by omega)
    have HF6 := Lib.hid (And.intro (o6.setRow (cs' := zA9)) p7)
    have HB6 := Lib.hid bx
    go_wp2_with (first
      | (refine wpList_store_row rfl 30 _ _ rfl (w.heap.size + 1 + 1) zA9 rfl rfl 30 zA9 o6 (at_infoM _ _ _ _ _ _ _ _ _) rfl (at_oneV 0 false 0 0 none 0 0 none 0 0 none 0 0 0 none 0 0) ?_)
      | (refine wpList_store_row rfl 38 _ _ rfl (w.heap.size + 1 + 1 + 1) #[.int .i64 3, .int .i64 0, .int .i64 (mF xs), .slice none 0 0, .int .i64 (4 + ((mN xs : Nat) : Int) + 1 + ((pq : Nat) : Int))] rfl rfl 38 zV5 p7 (vd_infoM _ _ _ _ _) rfl (vd_oneM _ _ _ _) ?_))
    have F1 := (Rest.setRowM (w10.setRow (w.heap.size + 1 + 1) zA9) (w.heap.size + 1 + 1 + 1) #[.int .i64 3, .int .i64 0, .int .i64 (mF xs), .slice none 0 0, .int .i64 (4 + ((mN xs : Nat) : Int) + 1 + ((pq : Nat) : Int))]).own HF6.out.1 (by omega)
    have F2 := HF6.out.2.setRow (cs' := #[.int .i64 3, .int .i64 0, .int .i64 (mF xs), .slice none 0 0, .int .i64 (4 + ((mN xs : Nat) : Int) + 1 + ((pq : Nat) : Int))])
    refine bodyPost_ret (results_mp2 (p := 6) (q := 7) (fn := Tryd.f19) rfl _ _ (w.heap.size + 1 + 1) 30 zA9 _ (w.heap.size + 1 + 1 + 1) 38 #[.int .i64 3, .int .i64 0, .int .i64 (mF xs), .slice none 0 0, .int .i64 (4 + ((mN xs : Nat) : Int) + 1 + ((pq : Nat) : Int))] _ rfl F1 at_descM rfl (at_infoM _ _ _ _ _ _ _ _ _) rfl F2 vd_descM rfl (vd_infoM _ _ _ _ _)) rfl ⟨bl_setRow (bl_setRow HB6.out (by omega)) (by omega), .inl ⟨_, rfl, hmf⟩⟩
end Go.Proofs.YtmlmgjdjbpipcaaDoor

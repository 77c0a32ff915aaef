/- HeaderLengths: the walk -/
import Derived.Test.YtejdpfhdjndefaaDoorHdP
import Derived.Laws.StructEq
namespace Go.Proofs.YtejdpfhdjndefaaDoor
open Go.RowKit Extern.Stop

theorem same_parse2 (a0 a1 a2 a3 a4 a5 : Bool) (xs : List Int) (hr : ∀ x ∈ xs, 0 ≤ x ∧ x ≤ 255) : ∃ N K k1 k2 k3 k5 d, SameParse a0 a1 a2 a3 a4 a5 xs N K k1 k2 k3 k5 d ∧ (k1 = 4 ∨ (N = nth xs 16 * 256 + nth xs 17 ∧ K = nth xs 18 ∧ k1 = 0 ∧ k2 = 0 ∧ k3 = 0 ∧ k5 = 0 ∧ d = [] ∧ (∀ j, j < 16 → nth xs j = 255) ∧ 19 ≤ xs.length ∧ (19 ≤ nth xs 16 * 256 + nth xs 17 ∧ nth xs 16 * 256 + nth xs 17 ≤ (if a1 then 65535 else 4096)) ∧ hAllow a1 (nth xs 18) (nth xs 16 * 256 + nth xs 17) = true)) := by
  rcases first_bad xs (min 16 xs.length) with hall | ⟨i, hi, hall, hne⟩
  · by_cases hs : xs.length < 19
    · refine ⟨0, 0, 4, 1, 2, xs.length, [], ⟨?_, ?_⟩, .inl rfl⟩
      · intro w A n c ht hx hc hn
        obtain rfl := hx.1
        refine (hparse_short a0 a1 a2 a3 a4 a5 A _ c xs w hx hc hn (fun j h1 h2 => hall j (by omega)) hs).mono ?_
        rintro e w' ⟨G, rfl, hb⟩
        exact ⟨_, _, _, rfl, Bytes.nil _ _ _, hb⟩
      · intro w A n c hx hn
        obtain rfl := hx.1
        refine (rparse_short a0 a1 a2 a3 a4 a5 A _ c xs w hx hn (fun j h1 h2 => hall j (by omega)) hs).mono ?_
        rintro e w' ⟨G, rfl, rfl, hb⟩
        exact ⟨_, _, _, rfl, Bytes.nil _ _ _, hb⟩
    · have hs19 : 19 ≤ xs.length := by omega
      have hall2 : ∀ j, j < 16 → nth xs j = 255 := fun j h1 => hall j (by omega)
      have r16 := hr _ (nth_mem (show 16 < xs.length by omega))
      have r17 := hr _ (nth_mem (show 17 < xs.length by omega))
      have r18 := hr _ (nth_mem (show 18 < xs.length by omega))
      have two : ∀ x ∈ [nth xs 16, nth xs 17], 0 ≤ x ∧ x ≤ 255 := by intro x hx; simp at hx; rcases hx with rfl | rfl <;> assumption
      have one : ∀ x ∈ [nth xs 18], 0 ≤ x ∧ x ≤ 255 := by intro x hx; simp at hx; rw [hx]; exact r18
      by_cases hl : nth xs 16 * 256 + nth xs 17 < 19 ∨ (if a1 then 65535 else 4096) < nth xs 16 * 256 + nth xs 17
      · refine ⟨0, 0, 4, 1, 2, 16, [nth xs 16, nth xs 17], ⟨?_, ?_⟩, .inl rfl⟩
        · intro w A n c ht hx hc hn
          obtain rfl := hx.1
          refine (hparse_len a0 a1 a2 a3 a4 a5 A _ c xs w hx hc hn hall2 hs19 hl).mono ?_
          rintro e w' ⟨G, rfl, ho, hb⟩
          exact ⟨_, _, _, rfl, Bytes.of_owned (xs := [nth xs 16, nth xs 17]) ho two ho.lt, hb⟩
        · intro w A n c hx hn
          obtain rfl := hx.1
          refine (rparse_len a0 a1 a2 a3 a4 a5 A _ c xs w hx hn hall2 hs19 hl).mono ?_
          rintro e w' ⟨G, rfl, ho, hb⟩
          exact ⟨_, _, _, rfl, Bytes.of_owned (xs := [nth xs 16, nth xs 17]) ho two ho.lt, hb⟩
      · have hr2 : 19 ≤ nth xs 16 * 256 + nth xs 17 ∧ nth xs 16 * 256 + nth xs 17 ≤ (if a1 then 65535 else 4096) := by omega
        by_cases hk : nth xs 18 = 1 ∨ nth xs 18 = 2 ∨ nth xs 18 = 3 ∨ nth xs 18 = 4 ∨ nth xs 18 = 5
        · have hk0 : hLeast (nth xs 18) ≠ 0 := by rcases hk with h | h | h | h | h <;> rw [h] <;> decide
          cases hA : hAllow a1 (nth xs 18) (nth xs 16 * 256 + nth xs 17)
          · refine ⟨0, 0, 4, 1, 2, 16, [nth xs 16, nth xs 17], ⟨?_, ?_⟩, .inl rfl⟩
            · intro w A n c ht hx hc hn
              obtain rfl := hx.1
              refine (hparse_allow a0 a1 a2 a3 a4 a5 A _ c xs w ht hx hc hn hall2 hs19 hr2 hk hA).mono ?_
              rintro e w' ⟨G, rfl, ho, hb⟩
              exact ⟨_, _, _, rfl, Bytes.of_owned (xs := [nth xs 16, nth xs 17]) ho two ho.lt, hb⟩
            · intro w A n c hx hn
              obtain rfl := hx.1
              refine (rparse_allow a0 a1 a2 a3 a4 a5 A _ c xs w hx hn hall2 hs19 hr2 hk0 hA).mono ?_
              rintro e w' ⟨G, rfl, ho, hb⟩
              exact ⟨_, _, _, rfl, Bytes.of_owned (xs := [nth xs 16, nth xs 17]) ho two ho.lt, hb⟩
          · refine ⟨nth xs 16 * 256 + nth xs 17, nth xs 18, 0, 0, 0, 0, [], ⟨?_, ?_⟩, .inr ⟨rfl, rfl, rfl, rfl, rfl, rfl, rfl, hall2, hs19, hr2, rfl⟩⟩
            · intro w A n c ht hx hc hn
              obtain rfl := hx.1
              refine (hparse_ok a0 a1 a2 a3 a4 a5 A _ c xs w ht hx hc hn hall2 hs19 hr2 hA).mono ?_
              rintro e w' ⟨G, rfl, rfl, hb⟩
              exact ⟨_, _, _, rfl, Bytes.nil _ _ _, hb⟩
            · intro w A n c hx hn
              obtain rfl := hx.1
              refine (rparse_ok a0 a1 a2 a3 a4 a5 A _ c xs w hx hn hall2 hs19 hr2 hk0 hA).mono ?_
              rintro e w' ⟨G, rfl, rfl, hb⟩
              exact ⟨_, _, _, rfl, Bytes.nil _ _ _, hb⟩
        · have hkk : hName (nth xs 18) = ⟨#[]⟩ ∧ hLeast (nth xs 18) = 0 := by
            rcases hKinds (nth xs 18) with h | h | h | h | h | ⟨h1, h2, _⟩
            · exact absurd (.inl h) hk
            · exact absurd (.inr (.inl h)) hk
            · exact absurd (.inr (.inr (.inl h))) hk
            · exact absurd (.inr (.inr (.inr (.inl h)))) hk
            · exact absurd (.inr (.inr (.inr (.inr h)))) hk
            · exact ⟨h1, h2⟩
          refine ⟨0, 0, 4, 1, 3, 18, [nth xs 18], ⟨?_, ?_⟩, .inl rfl⟩
          · intro w A n c ht hx hc hn
            obtain rfl := hx.1
            refine (hparse_kind a0 a1 a2 a3 a4 a5 A _ c xs w ht hx hc hn hall2 hs19 hr2 hkk.1).mono ?_
            rintro e w' ⟨G, rfl, ho, hb⟩
            exact ⟨_, _, _, rfl, Bytes.of_owned (xs := [nth xs 18]) ho one ho.lt, hb⟩
          · intro w A n c hx hn
            obtain rfl := hx.1
            refine (rparse_kind a0 a1 a2 a3 a4 a5 A _ c xs w hx hn hall2 hs19 hr2 hkk.2).mono ?_
            rintro e w' ⟨G, rfl, ho, hb⟩
            exact ⟨_, _, _, rfl, Bytes.of_owned (xs := [nth xs 18]) ho one ho.lt, hb⟩
  · refine ⟨0, 0, 4, 1, 1, i, [], ⟨?_, ?_⟩, .inl rfl⟩
    · intro w A n c ht hx hc hn
      obtain rfl := hx.1
      refine (hparse_mark a0 a1 a2 a3 a4 a5 A _ c xs w hx hc hn i (by omega) (by omega) hall hne).mono ?_
      rintro e w' ⟨G, rfl, hb⟩
      exact ⟨_, _, _, rfl, Bytes.nil _ _ _, hb⟩
    · intro w A n c hx hn
      obtain rfl := hx.1
      refine (rparse_mark a0 a1 a2 a3 a4 a5 A _ c xs w hx hn i (by omega) (by omega) hall hne).mono ?_
      rintro e w' ⟨G, rfl, rfl, hb⟩
      exact ⟨_, _, _, rfl, Bytes.nil _ _ _, hb⟩
theorem hd_two {fs : List Field} {n1 n2 : String} {t1 t2 : TypeId} {o1 o2 : Nat} (hf : fs.map (fun x => (x.name, x.type, x.offset)) = [(n1, t1, o1), (n2, t2, o2)]) :
    ∃ f1 f2 : Field, fs = [f1, f2] ∧ (f1.name = n1 ∧ f1.type = t1 ∧ f1.offset = o1) ∧ f2.name = n2 ∧ f2.type = t2 ∧ f2.offset = o2 := by
  obtain ⟨f1, g1, rfl, h1, hf⟩ := List.map_eq_cons_iff.1 hf
  obtain ⟨f2, g2, rfl, h2, hf⟩ := List.map_eq_cons_iff.1 hf
  rw [List.map_eq_nil_iff] at hf
  subst hf
  simp only [Prod.mk.injEq] at h1 h2
  exact ⟨f1, f2, rfl, h1, h2⟩
set_option maxRecDepth 100000 in
theorem hd_eql_same (a b : Int) (W : World) : (binOp .eql 27 (.agg #[.int .i64 a, .int .i64 b]) (.agg #[.int .i64 a, .int .i64 b])).run Tryd.prog W = Result.ok (.bool true) W := by
  rw [run_eql_struct W]
  have hz := Tryd.underlying3
  have hf : (Tryd.prog.fieldsOf 27).toList.map (fun x => (x.name, x.type, x.offset)) = [("Len", 3, 0), ("Kind", 3, 1)] := by kernel_rfl
  obtain ⟨f1, f2, e, ⟨n1, t1, o1⟩, n2, t2, o2⟩ := hd_two hf
  have q : ∀ (x y : Int) W, (Op.equalIn 9999 3 (.int .i64 x) (.int .i64 y)).run Tryd.prog W = Result.ok (x == y) W := fun x y W => by rw [run_equalIn_int W 9998 3 .i64 .i64 _ _ hz]
  have p0 : ∀ (a b : Int) W, (Go.part 3 #[.int .i64 a, .int .i64 b] 0).run Tryd.prog W = Result.ok (.int .i64 a) W := fun _ _ W => by kernel_rfl
  have p1 : ∀ (a b : Int) W, (Go.part 3 #[.int .i64 a, .int .i64 b] 1).run Tryd.prog W = Result.ok (.int .i64 b) W := fun _ _ W => by kernel_rfl
  rw [run_equalIn_agg W 9999 27 _ _ hd_desc (by kernel_rfl), e]
  simp only [Op.eqFields, n1, t1, o1, n2, t2, o2]
  simp [Sem.run_bind, p0, p1, q, Result.andThen_ok]
theorem hLim_mono (k : Int) : hLim false k ≤ hLim true k := by
  rcases hKinds k with rfl | rfl | rfl | rfl | rfl | ⟨h1, h2, h3, h4, _⟩
  · decide
  · decide
  · decide
  · decide
  · decide
  · unfold hLim; rw [h3, h4]; decide
set_option maxRecDepth 100000 in
theorem hlens_early (a0 a1 a2 a3 a4 a5 : Bool) (A : Option Addr) (n c : Nat) (w : World) (ht : HRows w) (hm : n ≤ maxLen) (h : 300 < n) :
    Calls Tryd.prog 7 #[.agg #[.bool a0, .bool a1, .bool a2, .bool a3, .bool a4, .bool a5], .slice A n c] w fun e w' => e = .returned (.bool true) ∧ Below w.heap.size w w' := by
  unfold maxLen at hm
  have hb0 := bl_alloc (bl_refl w) (.cells #[.bool a0, .bool a1, .bool a2, .bool a3, .bool a4, .bool a5] 23)
  have ht0 := ht.alloc (.cells #[.bool a0, .bool a1, .bool a2, .bool a3, .bool a4, .bool a5] 23)
  go_enter Tryd.func7, Tryd.ntmps7
  go_wp2_with fail
  refine (alive4_any _ ht0).mono ?_
  rintro e w1 ⟨rfl, hb1⟩
  have hb2 := bl_trans hb0 hb1
  go_wp2
  go_ret
  exact ⟨rfl, hb2⟩
theorem own_five_cells {W : World} {g : Nat} {T : TypeId} {a b c d e : Value} (o : Own W g T #[a, b, c, d, e]) : W.cell? ⟨g, 0, none⟩ = some a ∧ W.cell? ⟨g, 1, none⟩ = some b ∧ W.cell? ⟨g, 2, none⟩ = some c ∧ W.cell? ⟨g, 3, none⟩ = some d ∧ W.cell? ⟨g, 4, none⟩ = some e := ⟨o.cell rfl, o.cell rfl, o.cell rfl, o.cell rfl, o.cell rfl⟩
set_option maxRecDepth 100000 in
theorem limit_two (a0 a1 a2 a3 a4 a5 : Bool) (w : World) (ht : HRows w) :
    Calls Tryd.prog 22 #[.agg #[.bool a0, .bool a1, .bool a2, .bool a3, .bool a4, .bool a5], .int .i64 2] w fun e w' => e = .returned (.int .i64 (if a1 then 65535 else 4096)) ∧ Below w.heap.size w w' := by
  refine (limit_any a0 a1 a2 a3 a4 a5 2 w ht).mono ?_
  rintro e w' ⟨rfl, hb⟩
  exact ⟨by cases a1 <;> rfl, hb⟩
set_option maxRecDepth 100000 in
theorem limit_one (a0 a1 a2 a3 a4 a5 : Bool) (w : World) (ht : HRows w) :
    Calls Tryd.prog 22 #[.agg #[.bool a0, .bool a1, .bool a2, .bool a3, .bool a4, .bool a5], .int .i64 1] w fun e w' => e = .returned (.int .i64 4096) ∧ Below w.heap.size w w' := by
  refine (limit_any a0 a1 a2 a3 a4 a5 1 w ht).mono ?_
  rintro e w' ⟨rfl, hb⟩
  exact ⟨by cases a1 <;> rfl, hb⟩
set_option maxRecDepth 100000 in
set_option maxHeartbeats 6400000 in
theorem hlens_bad (a0 a1 a2 a3 a4 a5 : Bool) (A : Option Addr) (n c : Nat) (xs : List Int) (w : World) (ht : HRows w) (hx : Bytes w w.heap.size A n xs) (hc : n ≤ c) (h : n ≤ 300) (N K k1 k2 k3 k5 : Int) (d : List Int)
    (hF : SameParse a0 false a2 a3 a4 a5 xs N K k1 k2 k3 k5 d) (L M j1 j2 j3 j5 : Int) (f : List Int) (hT : SameParse a0 true a2 a3 a4 a5 xs L M j1 j2 j3 j5 f) (hk : k1 ≠ 0) :
    Calls Tryd.prog 7 #[.agg #[.bool a0, .bool a1, .bool a2, .bool a3, .bool a4, .bool a5], .slice A n c] w fun e w' => e = .returned (.bool true) ∧ Below w.heap.size w w' := by
  have HF := Lib.hid hF.1
  have HR := Lib.hid hF.2
  have HT := Lib.hid hT.1
  have ek : (k1 != 0) = true := by simpa using hk
  have heq := hd_eql_same N K
  clear hF hT hk
  have hs : (w.alloc (.cells #[.bool a0, .bool false, .bool a2, .bool a3, .bool a4, .bool a5] 23)).heap.size = w.heap.size + 1 := by simp
  have hb0 := bl_alloc (bl_alloc (bl_refl w) (.cells #[.bool a0, .bool false, .bool a2, .bool a3, .bool a4, .bool a5] 23)) (.cells #[.bool a0, .bool true, .bool a2, .bool a3, .bool a4, .bool a5] 23)
  have ht0 := (ht.alloc (.cells #[.bool a0, .bool false, .bool a2, .bool a3, .bool a4, .bool a5] 23)).alloc (.cells #[.bool a0, .bool true, .bool a2, .bool a3, .bool a4, .bool a5] 23)
  have oF := (Own.new w 23 #[.bool a0, .bool false, .bool a2, .bool a3, .bool a4, .bool a5]).alloc (.cells #[.bool a0, .bool true, .bool a2, .bool a3, .bool a4, .bool a5] 23)
  have oT := Own.new (w.alloc (.cells #[.bool a0, .bool false, .bool a2, .bool a3, .bool a4, .bool a5] 23)) 23 #[.bool a0, .bool true, .bool a2, .bool a3, .bool a4, .bool a5]
  rw [hs] at oT
  have hx0 := (hx.below hb0).more hb0.size
  clear ht hx hs
  go_enter Tryd.func7, Tryd.ntmps7
  go_wp2_with fail
  refine (HR.out _ A n c hx0 (by omega)).mono ?_
  rintro e w1 ⟨A1, m1, c1, rfl, hB1, hb1⟩
  have hba := bl_alloc (bl_refl w1) (.cells #[.int .i64 k1, .int .i64 k2, .int .i64 k3, .slice A1 m1 c1, .int .i64 k5] 29)
  have hb2 := bl_trans (bl_trans hb0 hb1) hba
  have ht1 := (ht0.below hb1).below hba
  have oF1 := (oF.step hb1).step hba
  have oT1 := (oT.step hb1).step hba
  have hx1 := ((hx0.below hb1).more hb1.size |>.below hba).more hba.size
  have hX1 := (hB1.below hba).more hba.size
  have v1 := Own.new w1 29 #[.int .i64 k1, .int .i64 k2, .int .i64 k3, .slice A1 m1 c1, .int .i64 k5]
  obtain ⟨p0, p1, p2, p3, p4, p5⟩ := own_six4 oT1
  clear hb0 hb1 ht0 oF oT hx0 hB1 hba
  go_wp2_with fail
  refine (HT.out _ A n c ht1 hx1 hc (by omega)).mono ?_
  rintro e w2 ⟨A2, m2, c2, rfl, hB2, hb3⟩
  have hba := bl_alloc (bl_alloc (bl_refl w2) (.cells #[.int .i64 L, .int .i64 M] 27)) (.cells #[.int .i64 j1, .int .i64 j2, .int .i64 j3, .slice A2 m2 c2, .int .i64 j5] 29)
  have hb4 := bl_trans (bl_trans hb2 hb3) hba
  have ht2 := (ht1.below hb3).below hba
  have oF2 := (oF1.step hb3).step hba
  have oT2 := (oT1.step hb3).step hba
  have v1b := (v1.step hb3).step hba
  have hx2 := ((hx1.below hb3).more hb3.size |>.below hba).more hba.size
  have hX2 := ((hX1.below hb3).more hb3.size |>.below hba).more hba.size
  have hY2 := (hB2.below hba).more hba.size
  have g1 := (Own.new w2 27 #[.int .i64 L, .int .i64 M]).alloc (.cells #[.int .i64 j1, .int .i64 j2, .int .i64 j3, .slice A2 m2 c2, .int .i64 j5] 29)
  have g2 := Own.new (w2.alloc (.cells #[.int .i64 L, .int .i64 M] 27)) 29 #[.int .i64 j1, .int .i64 j2, .int .i64 j3, .slice A2 m2 c2, .int .i64 j5]
  rw [show (w2.alloc (.cells #[.int .i64 L, .int .i64 M] 27)).heap.size = w2.heap.size + 1 by simp] at g2
  clear p0 p1 p2 p3 p4 p5
  obtain ⟨p0, p1, p2, p3, p4, p5⟩ := own_six4 oF2
  clear hb2 hb3 ht1 oF1 oT1 v1 hx1 hX1 hB2 hba
  go_wp2_with fail
  refine (HF.out _ A n c ht2 hx2 hc (by omega)).mono ?_
  rintro e w3 ⟨A3, m3, c3, rfl, hB3, hb5⟩
  have hba := bl_alloc (bl_alloc (bl_refl w3) (.cells #[.int .i64 N, .int .i64 K] 27)) (.cells #[.int .i64 k1, .int .i64 k2, .int .i64 k3, .slice A3 m3 c3, .int .i64 k5] 29)
  have hb6 := bl_trans (bl_trans hb4 hb5) hba
  have ht3 := (ht2.below hb5).below hba
  have oF3 := (oF2.step hb5).step hba
  have oT3 := (oT2.step hb5).step hba
  have v1c := (v1b.step hb5).step hba
  have g1b := (g1.step hb5).step hba
  have g2b := (g2.step hb5).step hba
  have hX3 := ((hX2.below hb5).more hb5.size |>.below hba).more hba.size
  have hY3 := ((hY2.below hb5).more hb5.size |>.below hba).more hba.size
  have hZ3 := (hB3.below hba).more hba.size
  have e1 := (Own.new w3 27 #[.int .i64 N, .int .i64 K]).alloc (.cells #[.int .i64 k1, .int .i64 k2, .int .i64 k3, .slice A3 m3 c3, .int .i64 k5] 29)
  have e2 := Own.new (w3.alloc (.cells #[.int .i64 N, .int .i64 K] 27)) 29 #[.int .i64 k1, .int .i64 k2, .int .i64 k3, .slice A3 m3 c3, .int .i64 k5]
  rw [show (w3.alloc (.cells #[.int .i64 N, .int .i64 K] 27)).heap.size = w3.heap.size + 1 by simp] at e2
  clear p0 p1 p2 p3 p4 p5 hb4 hb5 ht2 oF2 oT2 v1b g1 g2 hx2 hX2 hY2 hB3 hba
  go_wp2_with fail
  refine (alive4_any _ ht3).mono ?_
  rintro e w4 ⟨rfl, hb7⟩
  have hb8 := bl_trans hb6 hb7
  have ht4 := ht3.below hb7
  have hX4 := (hX3.below hb7).more hb7.size
  have hY4 := (hY3.below hb7).more hb7.size
  have hZ4 := (hZ3.below hb7).more hb7.size
  have oF4 := oF3.step hb7
  have oT4 := oT3.step hb7
  have v4 := v1c.step hb7
  have g14 := g1b.step hb7
  have g24 := g2b.step hb7
  have e14 := e1.step hb7
  have e24 := e2.step hb7
  obtain ⟨y0, y1, y2, y3, y4⟩ := own_five_cells e24
  obtain ⟨z0, z1, z2, z3, z4⟩ := own_five_cells v4
  clear hb6 hb7 ht3 hX3 hY3 hZ3 oF3 oT3 v1c g1b g2b e1 e2
  go_wp2_with fail
  refine (vsame_same k1 k2 k3 k5 A3 A1 m3 m1 c3 c1 d _ hZ4 hX4).mono ?_
  rintro e w5 ⟨rfl, hb9⟩
  have hb10 := bl_trans hb8 hb9
  have ht5 := ht4.below hb9
  have hX5 := (hX4.below hb9).more hb9.size
  have hY5 := (hY4.below hb9).more hb9.size
  have oF5 := oF4.step hb9
  have oT5 := oT4.step hb9
  have v5 := v4.step hb9
  have g15 := g14.step hb9
  have g25 := g24.step hb9
  have e15 := e14.step hb9
  clear y0 y1 y2 y3 y4 z0 z1 z2 z3 z4
  obtain ⟨z0, z1, z2, z3, z4⟩ := own_five_cells v5
  obtain ⟨y0, y1, y2, y3, y4⟩ := own_five_cells g25
  obtain ⟨q0, q1, q2, q3, q4, q5⟩ := own_six4 oF5
  clear hb8 hb9 ht4 hX4 hY4 hZ4 oF4 oT4 v4 g14 g24 e14 e24
  go_wp2_with fail
  refine (limit_two a0 false a2 a3 a4 a5 _ ht5).mono ?_
  rintro e w7 ⟨rfl, hb12⟩
  have hb13 := bl_trans hb10 hb12
  have ht7 := ht5.below hb12
  have oT7 := oT5.step hb12
  clear q0 q1 q2 q3 q4 q5
  obtain ⟨q0, q1, q2, q3, q4, q5⟩ := own_six4 oT7
  go_wp2_with fail
  refine (limit_two a0 true a2 a3 a4 a5 _ ht7).mono ?_
  rintro e w8 ⟨rfl, hb14⟩
  have hb15 := bl_trans hb13 hb14
  have ht8 := ht7.below hb14
  have oT8 := oT7.step hb14
  clear q0 q1 q2 q3 q4 q5
  obtain ⟨q0, q1, q2, q3, q4, q5⟩ := own_six4 oT8
  go_wp2_with fail
  refine (limit_one a0 true a2 a3 a4 a5 _ ht8).mono ?_
  rintro e w9 ⟨rfl, hb16⟩
  have hb17 := bl_trans hb15 hb16
  go_wp2
  go_ret
  exact ⟨rfl, hb17⟩
set_option maxRecDepth 100000 in
set_option maxHeartbeats 6400000 in
theorem hlens_ok (a0 a1 a2 a3 a4 a5 : Bool) (A : Option Addr) (n c : Nat) (xs : List Int) (w : World) (ht : HRows w) (hx : Bytes w w.heap.size A n xs) (hc : n ≤ c) (h : n ≤ 300) (N K k1 k2 k3 k5 : Int) (d : List Int)
    (hF : SameParse a0 false a2 a3 a4 a5 xs N K k1 k2 k3 k5 d) (hT : SameParse a0 true a2 a3 a4 a5 xs N K k1 k2 k3 k5 d) (hk : k1 = 0) :
    Calls Tryd.prog 7 #[.agg #[.bool a0, .bool a1, .bool a2, .bool a3, .bool a4, .bool a5], .slice A n c] w fun e w' => e = .returned (.bool true) ∧ Below w.heap.size w w' := by
  have HF := Lib.hid hF.1
  have HR := Lib.hid hF.2
  have HT := Lib.hid hT.1
  have ek : (k1 != 0) = false := by simpa using hk
  have heq := hd_eql_same N K
  clear hF hT hk
  have hs : (w.alloc (.cells #[.bool a0, .bool false, .bool a2, .bool a3, .bool a4, .bool a5] 23)).heap.size = w.heap.size + 1 := by simp
  have hb0 := bl_alloc (bl_alloc (bl_refl w) (.cells #[.bool a0, .bool false, .bool a2, .bool a3, .bool a4, .bool a5] 23)) (.cells #[.bool a0, .bool true, .bool a2, .bool a3, .bool a4, .bool a5] 23)
  have ht0 := (ht.alloc (.cells #[.bool a0, .bool false, .bool a2, .bool a3, .bool a4, .bool a5] 23)).alloc (.cells #[.bool a0, .bool true, .bool a2, .bool a3, .bool a4, .bool a5] 23)
  have oF := (Own.new w 23 #[.bool a0, .bool false, .bool a2, .bool a3, .bool a4, .bool a5]).alloc (.cells #[.bool a0, .bool true, .bool a2, .bool a3, .bool a4, .bool a5] 23)
  have oT := Own.new (w.alloc (.cells #[.bool a0, .bool false, .bool a2, .bool a3, .bool a4, .bool a5] 23)) 23 #[.bool a0, .bool true, .bool a2, .bool a3, .bool a4, .bool a5]
  rw [hs] at oT
  have hx0 := (hx.below hb0).more hb0.size
  clear ht hx hs
  go_enter Tryd.func7, Tryd.ntmps7
  go_wp2_with fail
  refine (HR.out _ A n c hx0 (by omega)).mono ?_
  rintro e w1 ⟨A1, m1, c1, rfl, hB1, hb1⟩
  have hba := bl_alloc (bl_refl w1) (.cells #[.int .i64 k1, .int .i64 k2, .int .i64 k3, .slice A1 m1 c1, .int .i64 k5] 29)
  have hb2 := bl_trans (bl_trans hb0 hb1) hba
  have ht1 := (ht0.below hb1).below hba
  have oF1 := (oF.step hb1).step hba
  have oT1 := (oT.step hb1).step hba
  have hx1 := ((hx0.below hb1).more hb1.size |>.below hba).more hba.size
  have hX1 := (hB1.below hba).more hba.size
  have v1 := Own.new w1 29 #[.int .i64 k1, .int .i64 k2, .int .i64 k3, .slice A1 m1 c1, .int .i64 k5]
  obtain ⟨p0, p1, p2, p3, p4, p5⟩ := own_six4 oT1
  clear hb0 hb1 ht0 oF oT hx0 hB1 hba
  go_wp2_with fail
  refine (HT.out _ A n c ht1 hx1 hc (by omega)).mono ?_
  rintro e w2 ⟨A2, m2, c2, rfl, hB2, hb3⟩
  have hba := bl_alloc (bl_alloc (bl_refl w2) (.cells #[.int .i64 N, .int .i64 K] 27)) (.cells #[.int .i64 k1, .int .i64 k2, .int .i64 k3, .slice A2 m2 c2, .int .i64 k5] 29)
  have hb4 := bl_trans (bl_trans hb2 hb3) hba
  have ht2 := (ht1.below hb3).below hba
  have oF2 := (oF1.step hb3).step hba
  have oT2 := (oT1.step hb3).step hba
  have v1b := (v1.step hb3).step hba
  have hx2 := ((hx1.below hb3).more hb3.size |>.below hba).more hba.size
  have hX2 := ((hX1.below hb3).more hb3.size |>.below hba).more hba.size
  have hY2 := (hB2.below hba).more hba.size
  have g1 := (Own.new w2 27 #[.int .i64 N, .int .i64 K]).alloc (.cells #[.int .i64 k1, .int .i64 k2, .int .i64 k3, .slice A2 m2 c2, .int .i64 k5] 29)
  have g2 := Own.new (w2.alloc (.cells #[.int .i64 N, .int .i64 K] 27)) 29 #[.int .i64 k1, .int .i64 k2, .int .i64 k3, .slice A2 m2 c2, .int .i64 k5]
  rw [show (w2.alloc (.cells #[.int .i64 N, .int .i64 K] 27)).heap.size = w2.heap.size + 1 by simp] at g2
  clear p0 p1 p2 p3 p4 p5
  obtain ⟨p0, p1, p2, p3, p4, p5⟩ := own_six4 oF2
  clear hb2 hb3 ht1 oF1 oT1 v1 hx1 hX1 hB2 hba
  go_wp2_with fail
  refine (HF.out _ A n c ht2 hx2 hc (by omega)).mono ?_
  rintro e w3 ⟨A3, m3, c3, rfl, hB3, hb5⟩
  have hba := bl_alloc (bl_alloc (bl_refl w3) (.cells #[.int .i64 N, .int .i64 K] 27)) (.cells #[.int .i64 k1, .int .i64 k2, .int .i64 k3, .slice A3 m3 c3, .int .i64 k5] 29)
  have hb6 := bl_trans (bl_trans hb4 hb5) hba
  have ht3 := (ht2.below hb5).below hba
  have oF3 := (oF2.step hb5).step hba
  have oT3 := (oT2.step hb5).step hba
  have v1c := (v1b.step hb5).step hba
  have g1b := (g1.step hb5).step hba
  have g2b := (g2.step hb5).step hba
  have hX3 := ((hX2.below hb5).more hb5.size |>.below hba).more hba.size
  have hY3 := ((hY2.below hb5).more hb5.size |>.below hba).more hba.size
  have hZ3 := (hB3.below hba).more hba.size
  have e1 := (Own.new w3 27 #[.int .i64 N, .int .i64 K]).alloc (.cells #[.int .i64 k1, .int .i64 k2, .int .i64 k3, .slice A3 m3 c3, .int .i64 k5] 29)
  have e2 := Own.new (w3.alloc (.cells #[.int .i64 N, .int .i64 K] 27)) 29 #[.int .i64 k1, .int .i64 k2, .int .i64 k3, .slice A3 m3 c3, .int .i64 k5]
  rw [show (w3.alloc (.cells #[.int .i64 N, .int .i64 K] 27)).heap.size = w3.heap.size + 1 by simp] at e2
  clear p0 p1 p2 p3 p4 p5 hb4 hb5 ht2 oF2 oT2 v1b g1 g2 hx2 hX2 hY2 hB3 hba
  go_wp2_with fail
  refine (alive4_any _ ht3).mono ?_
  rintro e w4 ⟨rfl, hb7⟩
  have hb8 := bl_trans hb6 hb7
  have ht4 := ht3.below hb7
  have hX4 := (hX3.below hb7).more hb7.size
  have hY4 := (hY3.below hb7).more hb7.size
  have hZ4 := (hZ3.below hb7).more hb7.size
  have oF4 := oF3.step hb7
  have oT4 := oT3.step hb7
  have v4 := v1c.step hb7
  have g14 := g1b.step hb7
  have g24 := g2b.step hb7
  have e14 := e1.step hb7
  have e24 := e2.step hb7
  obtain ⟨y0, y1, y2, y3, y4⟩ := own_five_cells e24
  obtain ⟨z0, z1, z2, z3, z4⟩ := own_five_cells v4
  clear hb6 hb7 ht3 hX3 hY3 hZ3 oF3 oT3 v1c g1b g2b e1 e2
  go_wp2_with fail
  refine (vsame_same k1 k2 k3 k5 A3 A1 m3 m1 c3 c1 d _ hZ4 hX4).mono ?_
  rintro e w5 ⟨rfl, hb9⟩
  have hb10 := bl_trans hb8 hb9
  have ht5 := ht4.below hb9
  have hX5 := (hX4.below hb9).more hb9.size
  have hY5 := (hY4.below hb9).more hb9.size
  have oF5 := oF4.step hb9
  have oT5 := oT4.step hb9
  have v5 := v4.step hb9
  have g15 := g14.step hb9
  have g25 := g24.step hb9
  have e15 := e14.step hb9
  clear y0 y1 y2 y3 y4 z0 z1 z2 z3 z4
  obtain ⟨z0, z1, z2, z3, z4⟩ := own_five_cells v5
  obtain ⟨y0, y1, y2, y3, y4⟩ := own_five_cells g25
  obtain ⟨q0, q1, q2, q3, q4, q5⟩ := own_six4 oF5
  clear hb8 hb9 ht4 hX4 hY4 hZ4 oF4 oT4 v4 g14 g24 e14 e24
  go_wp2_with fail
  refine (vsame_same k1 k2 k3 k5 A2 A1 m2 m1 c2 c1 d _ hY5 hX5).mono ?_
  rintro e w6 ⟨rfl, hb11⟩
  replace hb10 := bl_trans hb10 hb11
  replace ht5 := ht5.below hb11
  replace oF5 := oF5.step hb11
  replace oT5 := oT5.step hb11
  have g16 := g15.step hb11
  have e16 := e15.step hb11
  have i0 := g16.cell (i := 0) (v := .int .i64 N) rfl
  have i1 := g16.cell (i := 1) (v := .int .i64 K) rfl
  have r0 := e16.cell (i := 0) (v := .int .i64 N) rfl
  have r1 := e16.cell (i := 1) (v := .int .i64 K) rfl
  clear y0 y1 y2 y3 y4 z0 z1 z2 z3 z4 q0 q1 q2 q3 q4 q5 v5 g15 g25 e15 g16 e16 hb11 hX5 hY5
  obtain ⟨q0, q1, q2, q3, q4, q5⟩ := own_six4 oF5
  go_wp2_with fail
  refine (limit_two a0 false a2 a3 a4 a5 _ ht5).mono ?_
  rintro e w7 ⟨rfl, hb12⟩
  have hb13 := bl_trans hb10 hb12
  have ht7 := ht5.below hb12
  have oT7 := oT5.step hb12
  clear q0 q1 q2 q3 q4 q5
  obtain ⟨q0, q1, q2, q3, q4, q5⟩ := own_six4 oT7
  go_wp2_with fail
  refine (limit_two a0 true a2 a3 a4 a5 _ ht7).mono ?_
  rintro e w8 ⟨rfl, hb14⟩
  have hb15 := bl_trans hb13 hb14
  have ht8 := ht7.below hb14
  have oT8 := oT7.step hb14
  clear q0 q1 q2 q3 q4 q5
  obtain ⟨q0, q1, q2, q3, q4, q5⟩ := own_six4 oT8
  go_wp2_with fail
  refine (limit_one a0 true a2 a3 a4 a5 _ ht8).mono ?_
  rintro e w9 ⟨rfl, hb16⟩
  have hb17 := bl_trans hb15 hb16
  go_wp2
  go_ret
  exact ⟨rfl, hb17⟩
set_option maxRecDepth 100000 in
theorem hlens_all (a0 a1 a2 a3 a4 a5 : Bool) (A : Option Addr) (n c : Nat) (xs : List Int) (w : World) (ht : HRows w) (hx : Bytes w w.heap.size A n xs) (hc : n ≤ c) (hm : n ≤ maxLen) :
    Calls Tryd.prog 7 #[.agg #[.bool a0, .bool a1, .bool a2, .bool a3, .bool a4, .bool a5], .slice A n c] w fun e w' => e = .returned (.bool true) ∧ Below w.heap.size w w' := by
  by_cases h : 300 < n
  · exact hlens_early a0 a1 a2 a3 a4 a5 A n c w ht hm h
  · obtain ⟨N, K, k1, k2, k3, k5, d, hF, hk⟩ := same_parse2 a0 false a2 a3 a4 a5 xs hx.2.1
    obtain ⟨L, M, j1, j2, j3, j5, f, hT, hj⟩ := same_parse2 a0 true a2 a3 a4 a5 xs hx.2.1
    rcases hk with rfl | ⟨rfl, rfl, rfl, rfl, rfl, rfl, rfl, hall, hs, hr, hA⟩
    · exact hlens_bad a0 a1 a2 a3 a4 a5 A n c xs w ht hx hc (by omega) N K 4 k2 k3 k5 d hF L M j1 j2 j3 j5 f hT (by decide)
    · have hm2 := hLim_mono (nth xs 18)
      have hr2 : 19 ≤ nth xs 16 * 256 + nth xs 17 ∧ nth xs 16 * 256 + nth xs 17 ≤ (if true then 65535 else 4096) := by simp at hr ⊢; omega
      have hA2 : hAllow true (nth xs 18) (nth xs 16 * 256 + nth xs 17) = true := by
        simp only [hAllow, Bool.and_eq_true, decide_eq_true_eq] at hA ⊢
        omega
      have hkn := (hKnown (by omega) hA).1
      have hk0 : hLeast (nth xs 18) ≠ 0 := by rcases hkn with h | h | h | h | h <;> rw [h] <;> decide
      refine hlens_ok a0 a1 a2 a3 a4 a5 A n c xs w ht hx hc (by omega) _ _ 0 0 0 0 [] hF ⟨?_, ?_⟩ rfl
      · intro w A n c ht hx hc hn
        obtain rfl := hx.1
        refine (hparse_ok a0 true a2 a3 a4 a5 A _ c xs w ht hx hc hn hall hs hr2 hA2).mono ?_
        rintro e w' ⟨G, rfl, rfl, hb⟩
        exact ⟨_, _, _, rfl, Bytes.nil _ _ _, hb⟩
      · intro w A n c hx hn
        obtain rfl := hx.1
        refine (rparse_ok a0 true a2 a3 a4 a5 A _ c xs w hx hn hall hs hr2 hk0 hA2).mono ?_
        rintro e w' ⟨G, rfl, rfl, hb⟩
        exact ⟨_, _, _, rfl, Bytes.nil _ _ _, hb⟩
end Go.Proofs.YtejdpfhdjndefaaDoor

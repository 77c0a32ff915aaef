/- NoticeVerdicts: the walk (three texts in one, for a claim of many files) -/
import Derived.Test.YtaopinecidddkaaDoorWords
import Derived.Lib.AppendZeros
import Derived.Test.YtaopinecidddkaaDoorNtF
import Derived.Test.YtaopinecidddkaaDoorNvA
namespace Go.Proofs.YtaopinecidddkaaDoor
open Go.RowKit

theorem zeroCells_one (z : Value) (m : Nat) : Builtin.zeroCells #[z] m = (List.replicate m z).toArray := by
  apply Array.ext
  · simp [Builtin.zeroCells]
  · intro i h1 h2
    simp [Builtin.zeroCells, Nat.mod_one]
section
variable {P : Program} (w : World)
theorem run_append_room_zeros (t tn ty e : TypeId) (i : TypeInfo) (k kn : IntKind) (ht : P.underlying t = some (.slice e)) (htn : P.underlying tn = some (.int kn)) (hi : P.info? e = some i) (hz : i.zero = some (.int .u8 0)) (hs1 : i.size = 1) (hby : i.bytes = 1)
    (g sLen sCap : Nat) (cur : Array Value) (hg : w.heap[g]? = some (.cells cur e (0, 0))) (m : Nat) (h0 : 0 < m) (h63 : m ≤ 140737488355328)
    (hroom : sLen + m ≤ sCap) (hfit : sLen + m ≤ cur.size) :
    (Builtin.append_ #[t, tn] ty #[.slice (some ⟨g, 0, none⟩) sLen sCap, .int k m]).run P w =
      .ok (.slice (some ⟨g, 0, none⟩) (sLen + m) sCap) (w.setRow g (cur.toList.take sLen ++ List.replicate m (Value.int .u8 0) ++ cur.toList.drop (sLen + m)).toArray) := by
  have hst := run_storeCells_at P g sLen e (List.replicate m (Value.int .u8 0)) 0 cur w hg (by simpa using hfit) (by intro u hu; rw [List.eq_of_mem_replicate hu]; rfl)
  simp only [Nat.add_zero, List.length_replicate] at hst
  have hn : m ≠ 0 := by omega
  have hw : IntKind.i64.wrap (m : Int) = m := by rw [IntKind.wrap_i64]; omega
  have h48i : ¬ (281474976710656 < (m : Int) * (i.bytes : Int)) := by rw [hby]; omega
  have hneg : ¬ ((m : Int) < 0) := by omega
  have hc : (Value.int IntKind.u8 0).cells = #[.int .u8 0] := rfl
  simp [Builtin.append_, run_underlying ht, run_underlying htn, sizeOf, typeInfo, zeroValue, hi, hz, hs1, asInt, asIntOf, hw, hn, hneg, h48i, hc, zeroCells_one, hroom, Addr.add_lit, hst]
theorem run_append_grow_zeros (t tn ty e : TypeId) (i : TypeInfo) (z : Value) (k kn : IntKind) (ht : P.underlying t = some (.slice e)) (htn : P.underlying tn = some (.int kn)) (hi : P.info? e = some i) (hz : i.zero = some z)
    (b : Addr) (sLen sCap : Nat) (olds : List Value) (hlo : olds.length = sLen * i.size) (holds : ∀ j v, olds[j]? = some v → w.cell? (b.add j) = some v) (m : Nat) (h0 : 0 < m) (hs : 0 < i.size)
    (hg : sCap < sLen + m) (h63 : ((sLen + m : Nat) : Int) ≤ 9223372036854775807) (h48 : m * i.bytes ≤ 281474976710656) (hfit : Builtin.nextslicecap (sLen + m) sCap * i.bytes ≤ 281474976710656) :
    (Builtin.append_ #[t, tn] ty #[.slice (some b) sLen sCap, .int k m]).run P w =
      .ok (.slice (some ⟨w.heap.size, 0, none⟩) (sLen + m) (grownCap w (sLen + m) sCap e))
        (w.drew.alloc (.cells (olds.toArray ++ Builtin.zeroCells z.cells m ++ Builtin.zeroCells z.cells (grownCap w (sLen + m) sCap e - (sLen + m))) e)) := by
  have hn : ¬ (sLen + m ≤ sCap) := by omega
  have hm : m ≠ 0 := by omega
  have hw : IntKind.i64.wrap (m : Int) = m := by rw [IntKind.wrap_i64]; omega
  have h63' : ¬ (9223372036854775807 < ((sLen : Int) + (m : Int))) := by omega
  have h48' : ¬ (281474976710656 < Builtin.nextslicecap (sLen + m) sCap * i.bytes) := by omega
  have h48i : ¬ (281474976710656 < (m : Int) * (i.bytes : Int)) := by
    rw [← Int.natCast_mul]
    omega
  have hneg : ¬ ((m : Int) < 0) := by omega
  have hns : ¬ (m * i.size = 0) := Nat.mul_ne_zero hm (by omega)
  have hfo := run_firstCells_some (P := P) w.drew i.size sLen b sLen sCap olds hlo (by simpa using holds)
  simp [Builtin.append_, run_underlying ht, run_underlying htn, sizeOf, typeInfo, zeroValue, hi, hz, asInt, asIntOf, hw, hneg, hns, hn, h63', h48', h48i, Question.forced, hfo, newRow, grownCap]
theorem run_append_own_zeros (base : Nat) (t tn e : TypeId) (i : TypeInfo) (k kn : IntKind) (ht : P.underlying t = some (.slice e)) (htn : P.underlying tn = some (.int kn)) (hi : P.info? e = some i) (hz : i.zero = some (.int .u8 0)) (hsize : i.size = 1) (hby : i.bytes = 1)
    (v : Value) (n : Nat) (xs : List Value) (hown : w.ownsRow base e 1 v n xs) (m : Nat) (h0 : 0 < m)
    (h63 : n + m ≤ maxLen) (hbytes : n + m ≤ 140737488355328) (hbase : base ≤ w.heap.size) :
    ∃ v' w', (∀ ty, (Builtin.append_ #[t, tn] ty #[v, .int k m]).run P w = .ok v' w') ∧ w'.ownsRow base e 1 v' (n + m) (xs ++ List.replicate m (Value.int .u8 0)) ∧ w.grownBy w' v.ownBlock := by
  have hxl : xs.length = n := by simpa using hown.1
  have hlen : (xs ++ List.replicate m (Value.int .u8 0)).length = (n + m) * 1 := by rw [List.length_append, hxl, List.length_replicate, Nat.mul_one]
  have hc : (Value.int IntKind.u8 0).cells = #[.int .u8 0] := rfl
  have grown : ∀ (old : Nat), old < n + m → ∀ (row : Option Nat),
      (w.drew.alloc (.cells (xs.toArray ++ Builtin.zeroCells (Value.int .u8 0).cells m ++ Builtin.zeroCells (Value.int .u8 0).cells (grownCap w (n + m) old e - (n + m))) e)).ownsRow base e 1
        (.slice (some ⟨w.heap.size, 0, none⟩) (n + m) (grownCap w (n + m) old e)) (n + m) (xs ++ List.replicate m (Value.int .u8 0)) ∧
      w.grownBy (w.drew.alloc (.cells (xs.toArray ++ Builtin.zeroCells (Value.int .u8 0).cells m ++ Builtin.zeroCells (Value.int .u8 0).cells (grownCap w (n + m) old e - (n + m))) e)) row := by
    intro old ho row
    rw [hc, zeroCells_one, zeroCells_one]
    have hge := grownCap_ge w (n + m) old e
    have hcm : grownCap w (n + m) old e ≤ maxLen := grownCap_le_maxLen w (n + m) old e h63
    refine ⟨⟨hlen, .inr ⟨w.heap.size, _, _, rfl, hbase, heap_alloc_new w.drew _, hge, hcm, ?_, ?_⟩⟩, ⟨rfl, rfl, rfl, by simp, fun k hk _ => heap_alloc_old w.drew _ hk⟩⟩
    · simp only [Array.size_append, List.size_toArray, List.length_replicate, hxl]
      omega
    · simp only [Array.toList_append, List.append_assoc]
      rw [← List.append_assoc, ← hlen]
      exact List.take_left
  rcases hown.2 with ⟨rfl, rfl⟩ | ⟨g, cap, cur, rfl, hbg, hg, hnc, hcm, hcs, htake⟩
  · have hx : xs = [] := List.eq_nil_of_length_eq_zero hxl
    subst hx
    have hgr := grown 0 (by omega) (Value.ownBlock (.slice none 0 0))
    simp only [Nat.zero_add, List.nil_append, Array.empty_append] at hgr ⊢
    exact ⟨_, _, fun ty => Lib.run_append_nil_zeros (P := P) w t tn ty e i (.int .u8 0) k kn ht htn hi hz m h0 (by omega) (by omega) (by rw [hby]; omega), hgr.1, hgr.2⟩
  · by_cases hroom : n + m ≤ cap
    · have hcs' : cur.size = cap := by simpa using hcs
      refine ⟨_, _, fun ty => run_append_room_zeros (P := P) w t tn ty e i k kn ht htn hi hz hsize hby g n cap cur hg m h0 (by omega) hroom (by omega), ⟨hlen, .inr ⟨g, cap, _, rfl, hbg, setRow_heap w g cur _ e _ hg, hroom, hcm, ?_, ?_⟩⟩, ⟨rfl, rfl, rfl, by simp, fun k _ hk => setRow_other w g k _ (fun e => hk (by simp [Value.ownBlock, e]))⟩⟩
      · simp only [List.size_toArray, List.length_append, List.length_take, List.length_drop, Array.length_toList, List.length_replicate]
        omega
      · have ht' : cur.toList.take n = xs := by simpa using htake
        rw [ht', ← hlen]
        exact List.take_left
    · have holds : ∀ j u, xs[j]? = some u → w.cell? ((⟨g, 0, none⟩ : Addr).add j) = some u := hown.cells (g := g) rfl
      have hgr := grown cap (by omega) (Value.ownBlock (.slice (some ⟨g, 0, none⟩) n cap))
      exact ⟨_, _, fun ty => run_append_grow_zeros (P := P) w t tn ty e i (.int .u8 0) k kn ht htn hi hz ⟨g, 0, none⟩ n cap xs (by rw [hsize]; simpa using hxl) holds m h0 (by omega) (by omega) (by omega) (by rw [hby]; omega) (by rw [hby]; exact growslice_fits (by omega) (by omega)), hgr.1, hgr.2⟩
end
theorem ownsRow_far {w w' : World} {base s n : Nat} {e : TypeId} {v : Value} {xs : List Value} (h : w.ownsRow base e s v n xs) (hk : ∀ j, base ≤ j → w'.heap[j]? = w.heap[j]?) : w'.ownsRow base e s v n xs := by
  refine ⟨h.1, ?_⟩
  rcases h.2 with h0 | ⟨g, cap, cur, h1, h2, h3, h4⟩
  · exact .inl h0
  · exact .inr ⟨g, cap, cur, h1, h2, (hk g h2).trans h3, h4⟩
end Go.Proofs.YtaopinecidddkaaDoor
namespace Go.Proofs.YtaopinecidddkaaDoor
open Go.RowKit Go.Sort

theorem op6_row {W : World} {g : Nat} {T : TypeId} {a b c d e f : Value} (o : Own W g T #[a, b, c, d, e, f]) : W.cell? ⟨g, 0, none⟩ = some a ∧ W.cell? ⟨g, 1, none⟩ = some b ∧ W.cell? ⟨g, 2, none⟩ = some c ∧ W.cell? ⟨g, 3, none⟩ = some d ∧ W.cell? ⟨g, 4, none⟩ = some e ∧ W.cell? ⟨g, 5, none⟩ = some f := ⟨o.cell rfl, o.cell rfl, o.cell rfl, o.cell rfl, o.cell rfl, o.cell rfl⟩
set_option maxRecDepth 100000 in
set_option maxHeartbeats 800000 in
theorem nverd_early (a0 a1 a2 a3 a4 a5 : Bool) (k c s t : Int) (A : Option Addr) (n cp : Nat) (more : Int) (w : World) (ht : Tens w) (hN : NNames w) (hm : n ≤ maxLen) (h : 600 < n) :
    Calls Tryd.prog 3 #[.agg #[.bool a0, .bool a1, .bool a2, .bool a3, .bool a4, .bool a5], .agg #[.int .i64 k, .int .i64 c, .int .i64 s, .slice A n cp, .int .i64 t], .int .u8 more] w fun e w' => e = .returned (.bool true) ∧ Below w.heap.size w w' := by
  unfold maxLen at hm
  have hb := bl_alloc (bl_alloc (bl_refl w) (.cells #[.bool a0, .bool a1, .bool a2, .bool a3, .bool a4, .bool a5] 23)) (.cells #[.int .i64 k, .int .i64 c, .int .i64 s, .slice A n cp, .int .i64 t] 26)
  have d1 : decide ((600 : Int) < (n : Int)) = true := by simp; omega
  go_enter Tryd.func3, Tryd.ntmps3
  go_wp2_with fail
  refine (alive18_any _ (ht.below hb) (hN.below hb)).mono ?_
  rintro e w1 ⟨rfl, hb1⟩
  go_wp2
  go_ret
  exact ⟨rfl, bl_trans hb hb1⟩
set_option maxRecDepth 100000 in
set_option maxHeartbeats 3200000 in
theorem nverd_plain (a0 a1 a2 a3 a4 a5 : Bool) (k c s t : Int) (A : Option Addr) (n cp : Nat) (xs : List Int) (more : Int) (w : World) (ht : Tens w) (hN : NNames w) (hx : Bytes w w.heap.size A n xs) (hnc : n ≤ cp) (h6 : n ≤ 600) (hm : more ≤ 250) :
    Calls Tryd.prog 3 #[.agg #[.bool a0, .bool a1, .bool a2, .bool a3, .bool a4, .bool a5], .agg #[.int .i64 k, .int .i64 c, .int .i64 s, .slice A n cp, .int .i64 t], .int .u8 more] w fun e w' => e = .returned (.bool true) ∧ Below w.heap.size w w' := by
  have d1 : decide ((600 : Int) < (n : Int)) = false := by simp; omega
  have d2 : decide ((250 : Int) < more) = false := by simp; omega
  have hle : n ≤ 1000000 := by omega
  have hb0 := bl_alloc (bl_alloc (bl_refl w) (.cells #[.bool a0, .bool a1, .bool a2, .bool a3, .bool a4, .bool a5] 23)) (.cells #[.int .i64 k, .int .i64 c, .int .i64 s, .slice A n cp, .int .i64 t] 26)
  have oO0 := (Own.new w 23 #[.bool a0, .bool a1, .bool a2, .bool a3, .bool a4, .bool a5]).alloc (.cells #[.int .i64 k, .int .i64 c, .int .i64 s, .slice A n cp, .int .i64 t] 26)
  have oV0 := Own.new (w.alloc (.cells #[.bool a0, .bool a1, .bool a2, .bool a3, .bool a4, .bool a5] 23)) 26 #[.int .i64 k, .int .i64 c, .int .i64 s, .slice A n cp, .int .i64 t]
  rw [show (w.alloc (.cells #[.bool a0, .bool a1, .bool a2, .bool a3, .bool a4, .bool a5] 23)).heap.size = w.heap.size + 1 by simp] at oV0
  have HB := Lib.hid ((hx.below hb0).more hb0.size)
  clear hx
  go_enter Tryd.func3, Tryd.ntmps3
  go_wp2_with fail
  have oO := oO0
  have oV := oV0
  have hbW := hb0
  clear oO0 oV0 hb0
  refine (nof_any a0 a1 a2 a3 a4 a5 k c s t A n cp xs _ HB.out hnc hle).mono ?_
  rintro e w1 ⟨B1, e1, rfl, hz1, hb1⟩
  have uO := oO.step hb1
  have uV := oV.step hb1
  have hbN := bl_alloc hb1 (.cells #[.int .i64 (ofN (ofOk k c s n t) c), .int .i64 (ofN (ofOk k c s n t) s), .slice B1 (ofL a1 (ofOk k c s n t) xs).length e1] 30)
  have hbw2 := bl_alloc (bl_trans hbW hb1) (.cells #[.int .i64 (ofN (ofOk k c s n t) c), .int .i64 (ofN (ofOk k c s n t) s), .slice B1 (ofL a1 (ofOk k c s n t) xs).length e1] 30)
  have oP := Own.new w1 30 #[.int .i64 (ofN (ofOk k c s n t) c), .int .i64 (ofN (ofOk k c s n t) s), .slice B1 (ofL a1 (ofOk k c s n t) xs).length e1]
  have hbA := bl_alloc (bl_refl w1) (.cells #[.int .i64 (ofN (ofOk k c s n t) c), .int .i64 (ofN (ofOk k c s n t) s), .slice B1 (ofL a1 (ofOk k c s n t) xs).length e1] 30)
  have HZ := Lib.hid ((hz1.below hbA).more hbA.size)
  have HX1 := Lib.hid ((HB.out.below hbN).more hbN.size)
  have vO := uO.alloc (.cells #[.int .i64 (ofN (ofOk k c s n t) c), .int .i64 (ofN (ofOk k c s n t) s), .slice B1 (ofL a1 (ofOk k c s n t) xs).length e1] 30)
  have vV := uV.alloc (.cells #[.int .i64 (ofN (ofOk k c s n t) c), .int .i64 (ofN (ofOk k c s n t) s), .slice B1 (ofL a1 (ofOk k c s n t) xs).length e1] 30)
  obtain ⟨g0, g1, g2, g3, g4, g5⟩ := op6_row uO
  obtain ⟨h0, h1, h2, h3, h4⟩ := nvd_row uV
  obtain ⟨i0, i1, i2, i3, i4, i5⟩ := op6_row vO
  obtain ⟨j0, j1, j2, j3, j4⟩ := nvd_row vV
  have hltO := uO.lt
  have hltV := uV.lt
  clear oO oV hbW hb1 hz1 hbA hbN
  go_wp2_with fail
  refine (rnof_any a0 a1 a2 a3 a4 a5 k c s t A n cp xs _ HX1.out hnc hle).mono ?_
  rintro e w2 ⟨B2, e2, rfl, hz2, hb2⟩
  have HO : ofOk k c s n t = true → ntOk (ofN (ofOk k c s n t) c) (ofN (ofOk k c s n t) s) (ofL a1 (ofOk k c s n t) xs).length = true ∧ (a1 = true ∨ (ofL a1 (ofOk k c s n t) xs).length ≤ 4075) := of_facts
  have qP := oP.step hb2
  have qO := vO.step hb2
  have qV := vV.step hb2
  have hzP := (HZ.out.below hb2).more hb2.size
  have hbw3 := bl_trans hbw2 hb2
  clear uO uV vO vV oP g0 g1 g2 g3 g4 g5 h0 h1 h2 h3 h4 i0 i1 i2 i3 i4 i5 j0 j1 j2 j3 j4 hltO hltV hbw2 hb2 HZ HX1
  generalize ofN (ofOk k c s n t) c = y0 at *
  generalize ofN (ofOk k c s n t) s = y1 at *
  generalize ofL a1 (ofOk k c s n t) xs = L at *
  generalize hok : ofOk k c s n t = ok at *
  have HOK := Lib.hid hok
  have HF := Lib.hid HO
  clear hok HO
  have hbw4 := bl_alloc hbw3 (.cells #[.int .i64 y0, .int .i64 y1, .slice B2 L.length e2] 33)
  have hbB := bl_alloc (bl_refl w2) (.cells #[.int .i64 y0, .int .i64 y1, .slice B2 L.length e2] 33)
  have oQ := Own.new w2 33 #[.int .i64 y0, .int .i64 y1, .slice B2 L.length e2]
  have qPa := qP.alloc (.cells #[.int .i64 y0, .int .i64 y1, .slice B2 L.length e2] 33)
  have qOa := qO.alloc (.cells #[.int .i64 y0, .int .i64 y1, .slice B2 L.length e2] 33)
  have qVa := qV.alloc (.cells #[.int .i64 y0, .int .i64 y1, .slice B2 L.length e2] 33)
  have Z1 := Lib.hid ((hzP.below hbB).more hbB.size)
  have Z2 := Lib.hid ((hz2.below hbB).more hbB.size)
  clear hzP hz2 hbw3 hbB qP qO qV
  go_wp2_with fail
  refine (alive18_any _ (ht.below hbw4) (hN.below hbw4)).mono ?_
  rintro e w3 ⟨rfl, hb3⟩
  have hbw5 := bl_trans hbw4 hb3
  have rP := qPa.step hb3
  have rQ := oQ.step hb3
  have rO := qOa.step hb3
  have rV := qVa.step hb3
  have Y1 := Lib.hid ((Z1.out.below hb3).more hb3.size)
  have Y2 := Lib.hid ((Z2.out.below hb3).more hb3.size)
  obtain ⟨p0, p1, p2⟩ := nt_cells rP
  obtain ⟨q0, q1, q2⟩ := nt_cells rQ
  clear qPa oQ qOa qVa Z1 Z2 hbw4 hb3
  go_wp2_with fail
  refine (rntsame_any y0 y1 B1 L.length e1 L y0 y1 B2 L.length e2 L _ Y1.out Y2.out).mono ?_
  rw [show ntSame y0 y1 L y0 y1 L = true by unfold ntSame; simp]
  rintro e w4 ⟨rfl, hb4⟩
  have hbw6 := bl_trans hbw5 hb4
  have sP := rP.step hb4
  have sO := rO.step hb4
  have sV := rV.step hb4
  clear p0 p1 p2 q0 q1 q2 rP rQ rO rV Y1 Y2 hbw5 hb4
  obtain ⟨p0, p1, p2⟩ := nt_cells sP
  obtain ⟨j0, j1, j2, j3, j4⟩ := nvd_row sV
  have u1 := sO.cell (i := 1) (v := .bool a1) rfl
  cases ok
  · rcases ofOk_not HOK.out with hk | ⟨rfl, hp⟩
    · go_wp2
      all_goals first
        | (exfalso; omega)
        | (go_ret; exact ⟨rfl, hbw6⟩)
    · have HP := Lib.hid hp
      clear hp
      go_wp2_with fail
      refine (rproper_any 4 c s t A n cp _).mono ?_
      rw [HP.out]
      rintro e w5 ⟨rfl, hb5⟩
      go_wp2
      go_ret
      exact ⟨rfl, bl_trans hbw6 hb5⟩
  · obtain ⟨rfl, hp⟩ := ofOk_four HOK.out
    have HP := Lib.hid hp
    clear hp
    go_wp2_with fail
    refine (rproper_any 4 c s t A n cp _).mono ?_
    rw [HP.out]
    rintro e w5 ⟨rfl, hb5⟩
    have hbw7 := bl_trans hbw6 hb5
    have tP := sP.step hb5
    have tO := sO.step hb5
    clear p0 p1 p2 j0 j1 j2 j3 j4 u1 sP sO sV hbw6 hb5
    obtain ⟨p0, p1, p2⟩ := nt_cells tP
    have HV := Lib.hid (HF.out trivial).1
    have HR := Lib.hid (HF.out trivial).2
    go_wp2_with fail
    refine (ntvalid_any y0 y1 B1 L.length e1 _).mono ?_
    rw [HV.out]
    rintro e w6 ⟨rfl, hb6⟩
    have hbw8 := bl_trans hbw7 hb6
    have xP := tP.step hb6
    have xO := tO.step hb6
    clear p0 p1 p2 tP tO hbw7 hb6
    obtain ⟨p0, p1, p2⟩ := nt_cells xP
    have u1 := xO.cell (i := 1) (v := .bool a1) rfl
    cases a1
    · have hl : L.length ≤ 4075 := by rcases HR.out with h | h; (cases h); exact h
      have hl2 : decide ((L.length : Int) ≤ 4075) = true := by simp; omega
      go_wp2
      all_goals first
        | (exfalso; omega)
        | (go_ret; exact ⟨rfl, hbw8⟩)
    · go_wp2
      go_ret
      exact ⟨rfl, hbw8⟩
end Go.Proofs.YtaopinecidddkaaDoor
namespace Go.Proofs.YtaopinecidddkaaDoor
open Go.RowKit Go.Sort

set_option maxRecDepth 100000 in
theorem u8_info : (Tryd.prog.info? 5).map (fun i => (i.zero, i.size, i.bytes)) = some (some (.int .u8 0), 1, 1) := by kernel_rfl
set_option maxRecDepth 100000 in
set_option maxHeartbeats 3200000 in
theorem nverd_grown (a0 a1 a2 a3 a4 a5 : Bool) (k c s t : Int) (A : Option Addr) (n cp : Nat) (xs : List Int) (more : Int) (w : World) (ht : Tens w) (hN : NNames w) (hx : Bytes w w.heap.size A n xs) (h6 : n ≤ 600) (hm : 250 < more) (hm2 : more ≤ 255) :
    Calls Tryd.prog 3 #[.agg #[.bool a0, .bool a1, .bool a2, .bool a3, .bool a4, .bool a5], .agg #[.int .i64 k, .int .i64 c, .int .i64 s, .slice A n cp, .int .i64 t], .int .u8 more] w fun e w' => e = .returned (.bool true) ∧ Below w.heap.size w w' := by
  obtain ⟨r, rfl⟩ : ∃ r : Nat, more = (r : Int) := ⟨more.toNat, by omega⟩
  have d1 : decide ((600 : Int) < (n : Int)) = false := by simp; omega
  have d2 : decide ((250 : Int) < (r : Int)) = true := by simp; omega
  have wr : IntKind.i64.wrap (r : Int) = r := by rw [IntKind.wrap_i64]; omega
  have wr2 : IntKind.i64.wrap (4000 + (r : Int)) = 4000 + r := by rw [IntKind.wrap_i64]; omega
  have hb0 := bl_alloc (bl_alloc (bl_refl w) (.cells #[.bool a0, .bool a1, .bool a2, .bool a3, .bool a4, .bool a5] 23)) (.cells #[.int .i64 k, .int .i64 c, .int .i64 s, .slice A n cp, .int .i64 t] 26)
  have oO0 := (Own.new w 23 #[.bool a0, .bool a1, .bool a2, .bool a3, .bool a4, .bool a5]).alloc (.cells #[.int .i64 k, .int .i64 c, .int .i64 s, .slice A n cp, .int .i64 t] 26)
  have oV0 := Own.new (w.alloc (.cells #[.bool a0, .bool a1, .bool a2, .bool a3, .bool a4, .bool a5] 23)) 26 #[.int .i64 k, .int .i64 c, .int .i64 s, .slice A n cp, .int .i64 t]
  rw [show (w.alloc (.cells #[.bool a0, .bool a1, .bool a2, .bool a3, .bool a4, .bool a5] 23)).heap.size = w.heap.size + 1 by simp] at oV0
  have HB0 := Lib.hid ((hx.below hb0).more hb0.size)
  have HR := Lib.hid hx.2.1
  have HL := Lib.hid hx.1
  clear hx
  go_enter Tryd.func3, Tryd.ntmps3
  go_wp2_with fail
  refine (clone_any A n cp xs _ HB0.out (by omega)).mono ?_
  rintro e w1 ⟨v, rfl, hov, hb1⟩
  have oO1 := oO0.step hb1
  have oV1 := oV0.step hb1
  have hbw1 := bl_trans hb0 hb1
  have hvb : ∀ j, v.ownBlock = some j → w.heap.size + 2 ≤ j := fun j hj => by have := own_base hov j hj; simp at this; omega
  have hov1 := own_base_le2 hov (show w.heap.size + 2 ≤ ((w.alloc (.cells #[.bool a0, .bool a1, .bool a2, .bool a3, .bool a4, .bool a5] 23)).alloc (.cells #[.int .i64 k, .int .i64 c, .int .i64 s, .slice A n cp, .int .i64 t] 26)).heap.size by simp)
  obtain ⟨i, hi, hz, hs1, hy1⟩ := info_parts u8_info
  obtain ⟨v2, w2, hap, hown2, hgrow2⟩ := run_append_own_zeros (P := Tryd.prog) w1 (w.heap.size + 2) 24 3 5 i .i64 .i64 Tryd.underlying24 Tryd.underlying3 hi hz hs1 hy1 v n _ hov1 (4000 + r) (by omega) (by unfold maxLen; omega) (by omega) (by have := hbw1.size; have := oV1.lt; omega)
  obtain ⟨A3, c3, rfl, hc3, _⟩ := own_val hown2
  rw [show ((4000 + r : Nat) : Int) = 4000 + (r : Int) by omega] at hap
  have oO2 := oO1.grown hgrow2 (fun e => by have := hvb _ e.symm; omega)
  have oV2 := oV1.grown hgrow2 (fun e => by have := hvb _ e.symm; omega)
  have hbw2 := hbw1.grown hgrow2 hbw1.size (fun j hj => by have := hvb j hj; omega)
  have hle : n + (4000 + r) ≤ 1000000 := by omega
  have hyl : (xs ++ List.replicate (4000 + r) (0 : Int)).length = n + (4000 + r) := by rw [List.length_append, List.length_replicate, ← HL.out]
  have hym : xs.map (Value.int .u8) ++ List.replicate (4000 + r) (Value.int .u8 0) = (xs ++ List.replicate (4000 + r) (0 : Int)).map (Value.int .u8) := by simp
  have hyr : ∀ x ∈ xs ++ List.replicate (4000 + r) (0 : Int), 0 ≤ x ∧ x ≤ 255 := by
    intro x hx
    rcases List.mem_append.1 hx with h | h
    · exact HR.out x h
    · rw [List.eq_of_mem_replicate h]; omega
  rw [hym] at hown2
  generalize n + (4000 + r) = N at *
  generalize xs ++ List.replicate (4000 + r) (0 : Int) = ys at *
  have hown3 : (w2.setCell ⟨w.heap.size + 1, 3, none⟩ (.slice A3 N c3)).ownsRow (w.heap.size + 2) 5 1 (.slice A3 N c3) N (ys.map (Value.int .u8)) := ownsRow_far hown2 (fun j hj => Below.heap_setCell _ ⟨w.heap.size + 1, 3, none⟩ _ j (by show j ≠ w.heap.size + 1; omega))
  have HB : Hid (Bytes (w2.setCell ⟨w.heap.size + 1, 3, none⟩ (.slice A3 N c3)) (w2.setCell ⟨w.heap.size + 1, 3, none⟩ (.slice A3 N c3)).heap.size A3 N ys) := Lib.hid ⟨hyl.symm, hyr, Shows.of_own hown3⟩
  have d3 := oV2.cell (i := 3) (v := .slice A n cp) rfl
  have fz3 := oV2.frozen 3
  have hlt2 := oV2.lt
  have oV : Own (w2.setCell ⟨w.heap.size + 1, 3, none⟩ (.slice A3 N c3)) (w.heap.size + 1) 26 #[.int .i64 k, .int .i64 c, .int .i64 s, .slice A3 N c3, .int .i64 t] := by have := oV2.set_ 3 (.slice A3 N c3); simpa using this
  have oO := oO2.far (p := ⟨w.heap.size + 1, 3, none⟩) (by show w.heap.size ≠ w.heap.size + 1; omega) (.slice A3 N c3)
  have hbW := hbw2.setCell (p := ⟨w.heap.size + 1, 3, none⟩) (by show w.heap.size ≤ w.heap.size + 1; omega) (.slice A3 N c3)
  obtain ⟨g0, g1, g2, g3, g4, g5⟩ := op6_row oO
  obtain ⟨h0, h1, h2, h3, h4⟩ := nvd_row oV
  obtain ⟨i0, i1, i2, i3, i4, i5⟩ := op6_row oO2
  obtain ⟨j0, j1, j2, j3, j4⟩ := nvd_row oV2
  have hnc : N ≤ c3 := hc3
  clear hown2 hown3 hgrow2 hov hov1 hvb oO0 oV0 oO1 oV1 hb0 hb1 hbw1 hbw2 HB0 HR HL hyr hym hyl
  go_wp2_with (at_builtin; refine Lib.wpList_append_run _ rfl _ _ _ _ rfl _ _ rfl rfl _ _ (hap _) ?_)
  clear g0 g1 g2 g3 g4 g5 h0 h1 h2 h3 h4 i0 i1 i2 i3 i4 i5 j0 j1 j2 j3 j4 oO2 oV2 d3 fz3 hlt2
  refine (nof_any a0 a1 a2 a3 a4 a5 k c s t A3 N c3 ys _ HB.out hnc hle).mono ?_
  rintro e w1 ⟨B1, e1, rfl, hz1, hb1⟩
  have uO := oO.step hb1
  have uV := oV.step hb1
  have hbN := bl_alloc hb1 (.cells #[.int .i64 (ofN (ofOk k c s N t) c), .int .i64 (ofN (ofOk k c s N t) s), .slice B1 (ofL a1 (ofOk k c s N t) ys).length e1] 30)
  have hbw2 := bl_alloc (bl_trans hbW hb1) (.cells #[.int .i64 (ofN (ofOk k c s N t) c), .int .i64 (ofN (ofOk k c s N t) s), .slice B1 (ofL a1 (ofOk k c s N t) ys).length e1] 30)
  have oP := Own.new w1 30 #[.int .i64 (ofN (ofOk k c s N t) c), .int .i64 (ofN (ofOk k c s N t) s), .slice B1 (ofL a1 (ofOk k c s N t) ys).length e1]
  have hbA := bl_alloc (bl_refl w1) (.cells #[.int .i64 (ofN (ofOk k c s N t) c), .int .i64 (ofN (ofOk k c s N t) s), .slice B1 (ofL a1 (ofOk k c s N t) ys).length e1] 30)
  have HZ := Lib.hid ((hz1.below hbA).more hbA.size)
  have HX1 := Lib.hid ((HB.out.below hbN).more hbN.size)
  have vO := uO.alloc (.cells #[.int .i64 (ofN (ofOk k c s N t) c), .int .i64 (ofN (ofOk k c s N t) s), .slice B1 (ofL a1 (ofOk k c s N t) ys).length e1] 30)
  have vV := uV.alloc (.cells #[.int .i64 (ofN (ofOk k c s N t) c), .int .i64 (ofN (ofOk k c s N t) s), .slice B1 (ofL a1 (ofOk k c s N t) ys).length e1] 30)
  obtain ⟨g0, g1, g2, g3, g4, g5⟩ := op6_row uO
  obtain ⟨h0, h1, h2, h3, h4⟩ := nvd_row uV
  obtain ⟨i0, i1, i2, i3, i4, i5⟩ := op6_row vO
  obtain ⟨j0, j1, j2, j3, j4⟩ := nvd_row vV
  have hltO := uO.lt
  have hltV := uV.lt
  clear oO oV hbW hb1 hz1 hbA hbN
  go_wp2_with fail
  refine (rnof_any a0 a1 a2 a3 a4 a5 k c s t A3 N c3 ys _ HX1.out hnc hle).mono ?_
  rintro e w2 ⟨B2, e2, rfl, hz2, hb2⟩
  have HO : ofOk k c s N t = true → ntOk (ofN (ofOk k c s N t) c) (ofN (ofOk k c s N t) s) (ofL a1 (ofOk k c s N t) ys).length = true ∧ (a1 = true ∨ (ofL a1 (ofOk k c s N t) ys).length ≤ 4075) := of_facts
  have qP := oP.step hb2
  have qO := vO.step hb2
  have qV := vV.step hb2
  have hzP := (HZ.out.below hb2).more hb2.size
  have hbw3 := bl_trans hbw2 hb2
  clear uO uV vO vV oP g0 g1 g2 g3 g4 g5 h0 h1 h2 h3 h4 i0 i1 i2 i3 i4 i5 j0 j1 j2 j3 j4 hltO hltV hbw2 hb2 HZ HX1
  generalize ofN (ofOk k c s N t) c = y0 at *
  generalize ofN (ofOk k c s N t) s = y1 at *
  generalize ofL a1 (ofOk k c s N t) ys = L at *
  generalize hok : ofOk k c s N t = ok at *
  have HOK := Lib.hid hok
  have HF := Lib.hid HO
  clear hok HO
  have hbw4 := bl_alloc hbw3 (.cells #[.int .i64 y0, .int .i64 y1, .slice B2 L.length e2] 33)
  have hbB := bl_alloc (bl_refl w2) (.cells #[.int .i64 y0, .int .i64 y1, .slice B2 L.length e2] 33)
  have oQ := Own.new w2 33 #[.int .i64 y0, .int .i64 y1, .slice B2 L.length e2]
  have qPa := qP.alloc (.cells #[.int .i64 y0, .int .i64 y1, .slice B2 L.length e2] 33)
  have qOa := qO.alloc (.cells #[.int .i64 y0, .int .i64 y1, .slice B2 L.length e2] 33)
  have qVa := qV.alloc (.cells #[.int .i64 y0, .int .i64 y1, .slice B2 L.length e2] 33)
  have Z1 := Lib.hid ((hzP.below hbB).more hbB.size)
  have Z2 := Lib.hid ((hz2.below hbB).more hbB.size)
  clear hzP hz2 hbw3 hbB qP qO qV
  go_wp2_with fail
  refine (alive18_any _ (ht.below hbw4) (hN.below hbw4)).mono ?_
  rintro e w3 ⟨rfl, hb3⟩
  have hbw5 := bl_trans hbw4 hb3
  have rP := qPa.step hb3
  have rQ := oQ.step hb3
  have rO := qOa.step hb3
  have rV := qVa.step hb3
  have Y1 := Lib.hid ((Z1.out.below hb3).more hb3.size)
  have Y2 := Lib.hid ((Z2.out.below hb3).more hb3.size)
  obtain ⟨p0, p1, p2⟩ := nt_cells rP
  obtain ⟨q0, q1, q2⟩ := nt_cells rQ
  clear qPa oQ qOa qVa Z1 Z2 hbw4 hb3
  go_wp2_with fail
  refine (rntsame_any y0 y1 B1 L.length e1 L y0 y1 B2 L.length e2 L _ Y1.out Y2.out).mono ?_
  rw [show ntSame y0 y1 L y0 y1 L = true by unfold ntSame; simp]
  rintro e w4 ⟨rfl, hb4⟩
  have hbw6 := bl_trans hbw5 hb4
  have sP := rP.step hb4
  have sO := rO.step hb4
  have sV := rV.step hb4
  clear p0 p1 p2 q0 q1 q2 rP rQ rO rV Y1 Y2 hbw5 hb4
  obtain ⟨p0, p1, p2⟩ := nt_cells sP
  obtain ⟨j0, j1, j2, j3, j4⟩ := nvd_row sV
  have u1 := sO.cell (i := 1) (v := .bool a1) rfl
  cases ok
  · rcases ofOk_not HOK.out with hk | ⟨rfl, hp⟩
    · go_wp2
      all_goals first
        | (exfalso; omega)
        | (go_ret; exact ⟨rfl, hbw6⟩)
    · have HP := Lib.hid hp
      clear hp
      go_wp2_with fail
      refine (rproper_any 4 c s t A3 N c3 _).mono ?_
      rw [HP.out]
      rintro e w5 ⟨rfl, hb5⟩
      go_wp2
      go_ret
      exact ⟨rfl, bl_trans hbw6 hb5⟩
  · obtain ⟨rfl, hp⟩ := ofOk_four HOK.out
    have HP := Lib.hid hp
    clear hp
    go_wp2_with fail
    refine (rproper_any 4 c s t A3 N c3 _).mono ?_
    rw [HP.out]
    rintro e w5 ⟨rfl, hb5⟩
    have hbw7 := bl_trans hbw6 hb5
    have tP := sP.step hb5
    have tO := sO.step hb5
    clear p0 p1 p2 j0 j1 j2 j3 j4 u1 sP sO sV hbw6 hb5
    obtain ⟨p0, p1, p2⟩ := nt_cells tP
    have HV := Lib.hid (HF.out trivial).1
    have HR := Lib.hid (HF.out trivial).2
    go_wp2_with fail
    refine (ntvalid_any y0 y1 B1 L.length e1 _).mono ?_
    rw [HV.out]
    rintro e w6 ⟨rfl, hb6⟩
    have hbw8 := bl_trans hbw7 hb6
    have xP := tP.step hb6
    have xO := tO.step hb6
    clear p0 p1 p2 tP tO hbw7 hb6
    obtain ⟨p0, p1, p2⟩ := nt_cells xP
    have u1 := xO.cell (i := 1) (v := .bool a1) rfl
    cases a1
    · have hl : L.length ≤ 4075 := by rcases HR.out with h | h; (cases h); exact h
      have hl2 : decide ((L.length : Int) ≤ 4075) = true := by simp; omega
      go_wp2
      all_goals first
        | (exfalso; omega)
        | (go_ret; exact ⟨rfl, hbw8⟩)
    · go_wp2
      go_ret
      exact ⟨rfl, hbw8⟩

set_option maxRecDepth 100000 in
theorem nverd_all (a0 a1 a2 a3 a4 a5 : Bool) (k c s t : Int) (A : Option Addr) (n cp : Nat) (xs : List Int) (more : Int) (w : World) (ht : Tens w) (hN : NNames w) (hx : Bytes w w.heap.size A n xs) (hnc : n ≤ cp) (hm : n ≤ maxLen) (hm2 : more ≤ 255) :
    Calls Tryd.prog 3 #[.agg #[.bool a0, .bool a1, .bool a2, .bool a3, .bool a4, .bool a5], .agg #[.int .i64 k, .int .i64 c, .int .i64 s, .slice A n cp, .int .i64 t], .int .u8 more] w fun e w' => e = .returned (.bool true) ∧ Below w.heap.size w w' := by
  by_cases h : 600 < n
  · exact nverd_early a0 a1 a2 a3 a4 a5 k c s t A n cp more w ht hN hm h
  · by_cases h2 : more ≤ 250
    · exact nverd_plain a0 a1 a2 a3 a4 a5 k c s t A n cp xs more w ht hN hx hnc (by omega) h2
    · exact nverd_grown a0 a1 a2 a3 a4 a5 k c s t A n cp xs more w ht hN hx (by omega) (by omega) hm2
end Go.Proofs.YtaopinecidddkaaDoor

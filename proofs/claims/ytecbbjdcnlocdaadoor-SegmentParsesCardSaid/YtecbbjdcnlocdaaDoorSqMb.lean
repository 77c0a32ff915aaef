/- XSqMb: XSpN, XSpF, XSpL, XSpS in one text -/
import Derived.Test.YtecbbjdcnlocdaaDoorSqMa
import Derived.Test.YtecbbjdcnlocdaaDoorSgN
import Derived.Test.YtecbbjdcnlocdaaDoorSgT
import Derived.Test.YtecbbjdcnlocdaaDoorShelf
import Derived.Lib.SmallJoins
import Derived.Lib.SplitLaws
import Derived.Test.YtecbbjdcnlocdaaDoorApAt
import Derived.Test.YtecbbjdcnlocdaaDoorSgE
/- segment.parseNumbers; strconv.ParseUint of 32 bits at any word -/
namespace Go.Proofs.YtecbbjdcnlocdaaDoor
open Go.RowKit Go.Sort
/-- What the library's reading of numbers asks of three variables. -/
def PuOk (w : World) : Prop := ((∃ m : Int, w.cell? ⟨3, 0, none⟩ = some (.int .i64 m)) ∧ 3 < w.heap.size) ∧ ((∃ ev : Value, w.cell? ⟨4, 0, none⟩ = some ev ∧ (ev = .nilIface ∨ ∃ te pe, ev = .iface te pe)) ∧ 4 < w.heap.size) ∧ (∃ ev : Value, w.cell? ⟨5, 0, none⟩ = some ev ∧ (ev = .nilIface ∨ ∃ te pe, ev = .iface te pe)) ∧ 5 < w.heap.size
theorem PuOk.below {w w' : World} (h : PuOk w) (hb : Below w.heap.size w w') : PuOk w' := by
  obtain ⟨⟨⟨m, h1⟩, h2⟩, ⟨⟨ev, h3, h4⟩, h5⟩, ⟨ev2, h6, h7⟩, h8⟩ := h
  have hs := hb.size
  exact ⟨⟨⟨m, (hb.cell (p := ⟨3, 0, none⟩) h2).trans h1⟩, by omega⟩, ⟨⟨ev, (hb.cell (p := ⟨4, 0, none⟩) h5).trans h3, h4⟩, by omega⟩, ⟨ev2, (hb.cell (p := ⟨5, 0, none⟩) h8).trans h6, h7⟩, by omega⟩
/-- What reading a word gives. -/
def PuR (t : ByteArray) (w : World) (e : Ending) (w' : World) : Prop := ((∃ u : Nat, Lib.parseUintB 32 t.data.toList = .ok u ∧ e = .returned (.tuple #[.int .u64 u, .nilIface])) ∨ ((∀ u : Nat, Lib.parseUintB 32 t.data.toList ≠ .ok u) ∧ ∃ (x : Int) (T : TypeId) (N : Nat), e = .returned (.tuple #[.int .u64 x, .iface T (.pointer (some ⟨N, 0, none⟩))]))) ∧ Below w.heap.size w w'
set_option maxRecDepth 100000 in
theorem pu32_any (t : ByteArray) (ht : t.size ≤ 1000000) (w : World) (hz : PuOk w) :
    Calls Tryd.prog 65 #[.string t, .int .i64 10, .int .i64 32] w fun e w' => PuR t w e w' := by
  obtain ⟨_, ⟨⟨ev, h3, h4⟩, h5⟩, ⟨ev2, h6, h7⟩, h8⟩ := hz
  cases hp : Lib.parseUintB 32 t.data.toList with
  | ok u =>
    refine (Tryd.strconv_ParseUint_10_at32_ok t (by omega) u hp w).mono ?_
    rintro e w' ⟨rfl, rfl | rfl⟩
    · exact ⟨.inl ⟨u, hp, rfl⟩, bl_refl _⟩
    · exact ⟨.inl ⟨u, hp, rfl⟩, Joins.below_bytesWorld _ _ _ _ (Nat.le_refl _)⟩
  | range =>
    refine (Tryd.strconv_ParseUint_10_at32_range t (by omega) hp ev2 w h6 h7).mono ?_
    rintro e w' ⟨N, rfl, _, _, hb⟩
    exact ⟨.inr ⟨by rw [hp]; simp, _, _, N, rfl⟩, hb⟩
  | _ =>
    refine (Tryd.strconv_ParseUint_10_at32_syntax t (by omega) (hp.trans (if_pos rfl).symm) ev w h3 h4).mono ?_
    rintro e w' ⟨N, rfl, _, _, hb⟩
    exact ⟨.inr ⟨by rw [hp]; simp, _, _, N, rfl⟩, hb⟩
theorem wordsP_no {w : List UInt8} {ws : List (List UInt8)} (h : ∀ u : Nat, Lib.parseUintB 32 w ≠ .ok u) : wordsP (w :: ws) = none := by
  rw [wordsP]
  cases hp : Lib.parseUintB 32 w with
  | ok u => exact absurd hp (h u)
  | range => rfl
  | _ => rfl
theorem wordsP_ok {w : List UInt8} {ws : List (List UInt8)} {u : Nat} (h : Lib.parseUintB 32 w = .ok u) : wordsP (w :: ws) = (wordsP ws).map (u :: ·) := by rw [wordsP, h]
theorem uintM_le (M : Nat) : ∀ (l : List UInt8) (acc u : Nat), acc ≤ M → Lib.parseUintM M acc l = .ok u → u ≤ M
  | [], acc, u, ha, h => by
    rw [Lib.parseUintM] at h
    cases h
    exact ha
  | c :: r, acc, u, ha, h => by
    rw [Lib.parseUintM] at h
    split at h
    · split at h
      · cases h
      · split at h
        · cases h
        · exact uintM_le M r _ u (by omega) h
    · cases h
theorem uintB_le {l : List UInt8} {u : Nat} (h : Lib.parseUintB 32 l = .ok u) : u ≤ 4294967295 := by
  unfold Lib.parseUintB at h
  split at h
  · cases h
  · exact uintM_le 4294967295 l 0 u (Nat.zero_le _) h
/-- How many words are read. -/
def WCome (ws : List (List UInt8)) (q : Nat) (N0 : List Nat) : Prop := N0.length = q ∧ wordsP ws = (wordsP (ws.drop q)).map (N0 ++ ·)
theorem WCome.start (ws : List (List UInt8)) : WCome ws 0 [] := ⟨rfl, by rw [List.drop_zero]; cases wordsP ws <;> rfl⟩
theorem WCome.step {ws : List (List UInt8)} {q : Nat} {N0 : List Nat} {w : List UInt8} {u : Nat} (h : WCome ws q N0) (hq : ws[q]? = some w) (hu : Lib.parseUintB 32 w = .ok u) : WCome ws (q + 1) (N0 ++ [u]) := by
  obtain ⟨h1, h2⟩ := h
  have hl : q < ws.length := by
    by_cases hl : q < ws.length
    · exact hl
    · rw [List.getElem?_eq_none (by omega)] at hq; cases hq
  have hd : ws.drop q = w :: ws.drop (q + 1) := by
    rw [List.drop_eq_getElem_cons hl]
    congr 1
    rw [List.getElem?_eq_getElem hl] at hq
    exact Option.some.inj hq
  refine ⟨by rw [List.length_append, h1]; rfl, ?_⟩
  rw [h2, hd, wordsP_ok hu]
  cases wordsP (ws.drop (q + 1)) <;> simp
theorem WCome.bad {ws : List (List UInt8)} {q : Nat} {N0 : List Nat} {w : List UInt8} (h : WCome ws q N0) (hq : ws[q]? = some w) (hu : ∀ u : Nat, Lib.parseUintB 32 w ≠ .ok u) : wordsP ws = none := by
  obtain ⟨h1, h2⟩ := h
  have hl : q < ws.length := by
    by_cases hl : q < ws.length
    · exact hl
    · rw [List.getElem?_eq_none (by omega)] at hq; cases hq
  have hd : ws.drop q = w :: ws.drop (q + 1) := by
    rw [List.drop_eq_getElem_cons hl]
    congr 1
    rw [List.getElem?_eq_getElem hl] at hq
    exact Option.some.inj hq
  rw [h2, hd, wordsP_no hu]
  rfl
theorem WCome.done {ws : List (List UInt8)} {N0 : List Nat} (h : WCome ws ws.length N0) : wordsP ws = some N0 := by
  obtain ⟨_, h2⟩ := h
  rw [h2, List.drop_length]
  simp [wordsP]
theorem splitB_size (sep : ByteArray) (save : Nat) : ∀ (k : Nat) (s x : ByteArray), x ∈ Lib.splitB sep save k s → x.size ≤ s.size
  | 0, s, x, h => by
    rw [Lib.splitB_zero, List.mem_singleton] at h
    rw [h]; exact Nat.le_refl _
  | k + 1, s, x, h => by
    unfold Lib.splitB at h
    split at h
    · rw [List.mem_singleton] at h
      rw [h]; exact Nat.le_refl _
    · rcases List.mem_cons.1 h with rfl | h
      · rw [ByteArray.size_extract]; omega
      · have h2 := splitB_size sep save k _ x h
        rw [ByteArray.size_extract] at h2
        omega
/-- What parseNumbers leaves. -/
def PNumR (t : ByteArray) (w : World) (e : Ending) (w' : World) : Prop := ∃ (v : Value) (N : List Nat) (q : Bool), e = .returned (.tuple #[v, .bool q]) ∧ w'.ownsRow (w.heap.size + 1) 51 1 v N.length (N.map fun y : Nat => Value.int .u32 (y : Int)) ∧ Below w.heap.size w w' ∧ ((q = true ∧ wordsP (Lib.split t.data.toList [32]) = some N ∧ ∀ y ∈ N, y ≤ 4294967295) ∨ (q = false ∧ wordsP (Lib.split t.data.toList [32]) = none ∧ N = []))
set_option maxRecDepth 100000 in
set_option maxHeartbeats 3200000 in
theorem pnum_any (t : ByteArray) (ht : t.size ≤ 1000000) (w : World) (hz : PuOk w) :
    Calls Tryd.prog 85 #[.string t] w fun e w' => PNumR t w e w' := by
  obtain ⟨m, hm⟩ := hz.1.1
  have hSp := Lib.hid (Tryd.strings_Split t ⟨#[32]⟩ m w (by omega) hm (by decide))
  have hlen : (Lib.splitB ⟨#[32]⟩ 0 (Lib.countB t ⟨#[32]⟩) t).length = Lib.countB t ⟨#[32]⟩ + 1 := Lib.splitB_all _ (by decide) 0 _ t rfl
  have hmap : (Lib.splitB ⟨#[32]⟩ 0 (Lib.countB t ⟨#[32]⟩) t).map (·.data.toList) = Lib.split t.data.toList [32] := by rw [Lib.splitB_data]; rfl
  have hsz : ∀ x ∈ Lib.splitB ⟨#[32]⟩ 0 (Lib.countB t ⟨#[32]⟩) t, x.size ≤ t.size := fun x hx => splitB_size _ _ _ _ x hx
  have hcl := Lib.countB_le ⟨#[32]⟩ (by decide) t.size t (Nat.le_refl _)
  generalize Lib.splitB ⟨#[32]⟩ 0 (Lib.countB t ⟨#[32]⟩) t = Ws at *
  generalize Lib.countB t ⟨#[32]⟩ = k at *
  have HM := Lib.hid hmap
  have HS := Lib.hid hsz
  have HL := Lib.hid (And.intro hlen hcl)
  have HZ := Lib.hid hz
  have HT := Lib.hid ht
  have hbX := bl_alloc (bl_refl w) (.cells (Ws.map Value.string).toArray 9)
  have oW := Own.new w 9 (Ws.map Value.string).toArray
  have hXs : (w.alloc (.cells (Ws.map Value.string).toArray 9)).heap.size = w.heap.size + 1 := by simp
  have HX := Lib.hid hXs
  clear hmap hsz hlen hcl hz hm ht hXs
  go_enter Tryd.func85, Tryd.ntmps85
  go_wp2_with fail
  refine hSp.out.mono ?_
  rintro e w1 ⟨rfl, rfl⟩
  clear hSp
  generalize w.alloc (.cells (Ws.map Value.string).toArray 9) = X at *
  go_wp2_with fail
  go_loopw [4, 12] (fun v i wr => ∃ (q : Nat) (N0 : List Nat), q ≤ k + 1 ∧ i = .int .i64 q ∧ wr.ownsRow (w.heap.size + 1) 51 1 v N0.length (N0.map fun y : Nat => Value.int .u32 (y : Int)) ∧ Own wr w.heap.size 9 (Ws.map Value.string).toArray ∧ Below w.heap.size w wr ∧ Hid (WCome (Ws.map (·.data.toList)) q N0 ∧ ∀ y ∈ N0, y ≤ 4294967295)) (fun _ i _ => k + 1 - (intOf i).toNat)
  case atStart => exact ⟨0, [], Nat.zero_le _, rfl, World.ownsRow_nil _ _ _ _, oW, hbX, Lib.hid ⟨WCome.start _, fun _ h => by cases h⟩⟩
  case round =>
    obtain ⟨q, N0, hq, rfl, hrow, oWr, hb, hcome⟩ := hrel
    obtain ⟨A0, c0, rfl⟩ := own_form hrow
    clear oW hbX
    by_cases hlt : q < k + 1
    · have hql : q < Ws.length := by have := HL.out.1; omega
      obtain ⟨x, hx⟩ : ∃ x, Ws[q]? = some x := ⟨_, List.getElem?_eq_getElem hql⟩
      have hcx : wr.cell? ⟨w.heap.size, q, none⟩ = some (.string x) := oWr.cell (by simp [hx])
      have hxs : x.size ≤ 1000000 := Nat.le_trans (HS.out x (List.mem_of_getElem? hx)) HT.out
      have hx2 : (Ws.map (·.data.toList))[q]? = some x.data.toList := by rw [List.getElem?_map, hx]; rfl
      have hP := Lib.hid (pu32_any x hxs wr (HZ.out.below hb))
      have HX2 := Lib.hid hx2
      have HRow := Lib.hid hrow
      have HOW := Lib.hid oWr
      have HB := Lib.hid hb
      have hN := Lib.hid hcome.out.1.1
      have HLQ := Lib.hid (And.intro hql hlt)
      clear hx hx2 hxs hrow oWr hb hql
      have d1 : (q : Int) < (k : Int) + 1 := by omega
      have hk6 : q ≤ 1000001 := by have := HL.out.2; have := HT.out; omega
      go_wp2_with fail
      refine hP.out.mono ?_
      rintro e w2 ⟨hu | ⟨hu, y, T, N, rfl⟩, hb2⟩
      · obtain ⟨u, hu1, rfl⟩ := hu
        have hu2 := uintB_le hu1
        have wu : IntKind.u32.wrap (u : Int) = (u : Int) := by rw [IntKind.wrap_u32]; omega
        have hrow2 := own_belowA HRow.out hb2
        have oW2 := HOW.out.step hb2
        have hb3 := bl_trans HB.out hb2
        have hs3 := hb3.size
        have HC2 := Lib.hid (hcome.out.1.step HX2.out hu1)
        have HC3 := Lib.hid hcome.out.2
        have HU := Lib.hid hu2
        have HNL := Lib.hid (show N0.length ≤ 1000001 by have := hN.out; have := HL.out.2; have := HT.out; omega)
        clear hu1 hu2 hcx hcome hP
        go_wp2_with (at_builtin; refine wpList_append_grow _ rfl _ _ rfl sl_u32 (w.heap.size + 1) _ _ _ rfl (hrow2.alloc _) (w2.heap.size + 1) (some ⟨w2.heap.size, 0, none⟩) 1 1 [_] rfl rfl (Shows.of_owned (Own.new _ _ _) (by simp)) (one1 rfl) (by unfold maxLen; have := HNL.out; omega) (by have := HNL.out; omega) (by simp; have := oW2.lt; omega) ?_; intro v3 w3 hrow3 hg3)
        have oW3 := (oW2.alloc (.cells #[.int .u32 (u : Int)] 51)).grown hg3 (fun e => by have := own_base hrow2 _ e.symm; omega)
        have hb4 : Below w.heap.size w w3 := (hb3.alloc hs3 _).grown hg3 (by simp; omega) (fun j hj => by have := own_base hrow2 j hj; omega)
        go_roundw
        case rel => exact ⟨q + 1, N0 ++ [u], by omega, by go_num, by rw [List.length_append, List.map_append]; exact hrow3, oW3, hb4, Lib.hid ⟨HC2.out, fun y hy => by
          rcases List.mem_append.1 hy with hy | hy
          · exact HC3.out y hy
          · rw [List.mem_singleton] at hy; rw [hy]; exact HU.out⟩⟩
        case measure => simp [intOf]; omega
      · have hR := Lib.hid (show wordsP (Lib.split t.data.toList [32]) = none by rw [← HM.out]; exact hcome.out.1.bad HX2.out hu)
        have hb3 := bl_trans HB.out hb2
        clear hcx hcome hP hu
        go_wp2
        go_ret2
        exact ⟨_, [], false, rfl, World.ownsRow_nil _ _ _ _, hb3, .inr ⟨rfl, hR.out, rfl⟩⟩
    · have hqe : q = (Ws.map (·.data.toList)).length := by rw [List.length_map]; have := HL.out.1; omega
      have hc1 := hcome.out.1
      rw [hqe] at hc1
      have hR := Lib.hid (show wordsP (Lib.split t.data.toList [32]) = some N0 by rw [← HM.out]; exact hc1.done)
      have hN3 := Lib.hid hcome.out.2
      have HRow := Lib.hid hrow
      have d1 : ¬ ((q : Int) < (k : Int) + 1) := by omega
      clear hqe hc1 hcome hrow oWr
      go_wp2
      go_ret2
      exact ⟨_, N0, true, rfl, HRow.out, hb, .inl ⟨rfl, hR.out, hN3.out⟩⟩
end Go.Proofs.YtecbbjdcnlocdaaDoor

/- segment.parseFirst -/
namespace Go.Proofs.YtecbbjdcnlocdaaDoor
open Go.RowKit Go.Sort
theorem two_boxesS (w : World) (c0 c1 : Array Value) (t0 t1 : TypeId) : ∃ W, W = ((w.alloc (.cells c0 t0)).alloc (.cells c1 t1)) ∧ Own W w.heap.size t0 c0 ∧ Own W (w.heap.size + 1) t1 c1 ∧ Below w.heap.size w W ∧ W.heap.size = w.heap.size + 1 + 1 := by
  refine ⟨_, rfl, (Own.new w t0 c0).alloc _, ?_, bl_alloc (bl_alloc (bl_refl w) _) _, by simp⟩
  have h := Own.new (w.alloc (.cells c0 t0)) t1 c1
  have e : (w.alloc (.cells c0 t0)).heap.size = w.heap.size + 1 := by simp
  rw [e] at h
  exact h
theorem results_ctt {P : Program} {fn : Func} {p q r : Tmp} {ty : TypeId} (h : fn.results = #[.cell p ty, .tmp q, .tmp r]) (tmps : Array Value) (w : World) (g : Nat) (T : TypeId) (cs : Array Value) (d : TypeDesc)
    (hp : tmps.getD p undef = .pointer (some ⟨g, 0, none⟩)) (hg : Own w g T cs) (hu : P.underlying ty = some d) (hd : (match d with | .struct _ | .array _ _ => true | _ => false) = true) (hi : (P.info? ty).map (·.size) = some cs.size) :
    (results fn tmps).run P w = .ok (.tuple #[.agg cs, tmps.getD q undef, tmps.getD r undef]) w := by
  have hp' : tmps[p]?.getD undef = .pointer (some ⟨g, 0, none⟩) := by simpa using hp
  simp [results, h, hp', asAddr, run_loadVar_row w g T ty cs (0, 0) d hg hu hd hi]
/-- What parseFirst leaves. -/
def PFR (t : ByteArray) (w : World) (e : Ending) (w' : World) : Prop := ∃ (k : Int) (v : Value) (N : List Nat) (b : ByteArray) (q : Bool), e = .returned (.tuple #[.agg #[.int .i64 k, v], .string b, .bool q]) ∧ w'.ownsRow (w.heap.size + 1) 51 1 v N.length (N.map fun y : Nat => Value.int .u32 (y : Int)) ∧ Below w.heap.size w w' ∧ ((q = true ∧ firstP t.data.toList = some ((k, N), b.data.toList) ∧ (∀ y ∈ N, y ≤ 4294967295) ∧ b.size < t.size) ∨ (q = false ∧ firstP t.data.toList = none))
set_option maxRecDepth 100000 in
theorem sg_descS : Tryd.prog.underlying 61 = some (.struct (Tryd.prog.fieldsOf 61)) := by kernel_rfl
set_option maxRecDepth 100000 in
theorem sg_infoS (a b : Value) : (Tryd.prog.info? 61).map (·.size) = some (#[a, b] : Array Value).size := by kernel_rfl
set_option maxRecDepth 100000 in
set_option maxHeartbeats 6400000 in
theorem pfirst_any (t : ByteArray) (ht : t.size ≤ 1000000) (w : World) (hz : PuOk w) (hbk : Brk w) :
    Calls Tryd.prog 52 #[.string t] w fun e w' => PFR t w e w' := by
  obtain ⟨X, hX, oB, oK, hb, hXs⟩ := two_boxesS w #[.int .i64 0, .slice none 0 0] #[.int .i64 1, .int .i64 2] 61 3
  have HZ := Lib.hid hz
  have HBK := Lib.hid hbk
  have HT := Lib.hid ht
  have HXS := Lib.hid hXs
  have hgl := hbk.2.2
  clear hz hbk ht hXs
  go_enter Tryd.func52, Tryd.ntmps52
  go_upto_region 2 with fail
  rw [← hX]
  clear hX
  go_loopw [14] (fun i wr => ∃ j : Nat, j ≤ 2 ∧ i = .int .i64 j ∧ Own wr w.heap.size 61 #[.int .i64 0, .slice none 0 0] ∧ Own wr (w.heap.size + 1) 3 #[.int .i64 1, .int .i64 2] ∧ Below w.heap.size w wr ∧ Hid ((1 ≤ j → Lib.hasPrefix t.data.toList [123] = false) ∧ (2 ≤ j → Lib.hasPrefix t.data.toList [91] = false))) (fun i _ => 2 - (intOf i).toNat)
  case atStart => exact ⟨0, by omega, rfl, oB, oK, hb, Lib.hid ⟨by omega, by omega⟩⟩
  case round =>
    obtain ⟨j, hj, rfl, oB, oK, hb, hpre⟩ := hrel
    rcases j with _ | _ | j
    · have hbkr := HBK.out.below hb
      obtain ⟨b1, b2, _⟩ := hbkr
      have x1 : (⟨#[123, 125]⟩ : ByteArray).extract 0 1 = ⟨#[123]⟩ := by kernel_rfl
      have x2 : (⟨#[123, 125]⟩ : ByteArray).extract 1 2 = ⟨#[125]⟩ := by kernel_rfl
      obtain ⟨k0, k1⟩ : wr.cell? ⟨w.heap.size + 1, 0, none⟩ = some (.int .i64 1) ∧ wr.cell? ⟨w.heap.size + 1, 1, none⟩ = some (.int .i64 2) := ⟨oK.cell rfl, oK.cell rfl⟩
      have hCP := Lib.hid (Tryd.strings_CutPrefix t ⟨#[123]⟩ wr)
      rw [show (⟨#[123]⟩ : ByteArray).data.toList = [123] from rfl] at hCP
      by_cases hp : Lib.hasPrefix t.data.toList [123] = true
      · obtain ⟨m, hm⟩ := (HZ.out.below hb).1.1
        rw [hp] at hCP
        have HFi := firstP_1 hp
        have htl := trim_len t.data.toList [123]
        generalize hIe : Lib.trimPrefix t.data.toList [123] = I at *
        have hts : t.data.toList.length = t.size := by rw [Array.length_toList]; rfl
        have hIs : (⟨I.toArray⟩ : ByteArray).size ≤ 1000000 := by
          show I.toArray.size ≤ 1000000
          have := HT.out
          simp; omega
        have hCt := Lib.hid (Tryd.strings_Cut ⟨I.toArray⟩ ⟨#[125]⟩ m wr (by omega) hm)
        rw [show (⟨#[125]⟩ : ByteArray).data.toList = [125] from rfl, show (⟨I.toArray⟩ : ByteArray).data.toList = I from rfl] at hCt
        have hcl := Lib.hid (cut_len (s := I) (d := 125))
        obtain ⟨⟨ca, cb, f⟩, hcc⟩ : ∃ z, Lib.cut I [125] = z := ⟨_, rfl⟩
        rw [hcc] at hCt hcl HFi
        have HF2 := Lib.hid HFi
        have HLN := Lib.hid (And.intro htl hts)
        clear HFi htl hts hIs hIe hcc hm hp
        go_wp2_with fail
        refine hCP.out.mono ?_
        rintro e w1 ⟨rfl, hw1⟩
        rw [hw1]
        clear hw1
        go_wp2_with fail
        refine hCt.out.mono ?_
        rintro e w2 ⟨rfl, nn, rfl⟩
        have hbn := bl_drewN (bl_refl wr) nn
        have oB2 := oB.step hbn
        have hb2 := bl_trans hb hbn
        clear oB oK k0 k1 b1 b2 hb hCP hCt hbn
        generalize wr.drewN nn = wy at *
        cases f
        · have hF := Lib.hid (show firstP t.data.toList = none from HF2.out)
          obtain ⟨e0, e1⟩ : wy.cell? ⟨w.heap.size, 0, none⟩ = some (.int .i64 0) ∧ wy.cell? ⟨w.heap.size, 1, none⟩ = some (.slice none 0 0) := ⟨oB2.cell rfl, oB2.cell rfl⟩
          have f0 := oB2.frozen 0
          have f1 := oB2.frozen 1
          have Q := Lib.hid ((oB2.set_ 0 (.int .i64 0)).set_ 1 (.slice none 0 0))
          have QB := Lib.hid ((hb2.setCell (p := ⟨w.heap.size, 0, none⟩) (Nat.le_refl _) (.int .i64 0)).setCell (p := ⟨w.heap.size, 1, none⟩) (Nat.le_refl _) (.slice none 0 0))
          clear oB2 hb2
          go_wp2
          exact bodyPost_ret (results_ctt (p := 2) (q := 3) (r := 4) (fn := Tryd.f52) rfl _ _ w.heap.size 61 _ _ rfl Q.out sg_descS rfl (sg_infoS _ _)) rfl ⟨0, .slice none 0 0, [], ⟨#[]⟩, false, rfl, World.ownsRow_nil _ _ _ _, QB.out, .inr ⟨rfl, hF.out⟩⟩
        · have hc2 := hcl.out rfl
          have hPN := Lib.hid (pnum_any ⟨ca.toArray⟩ (by show ca.toArray.size ≤ 1000000; have := HT.out; have := HLN.out; have h3 : ca.length ≤ I.length := hc2.1; simp; omega) wy (HZ.out.below hb2))
          have HC2 := Lib.hid hc2
          clear hc2
          go_wp2_with fail
          refine hPN.out.mono ?_
          rintro e w3 ⟨v, N, qq, rfl, hrow, hb3, hcase⟩
          obtain ⟨A3, c3, rfl⟩ := own_form hrow
          have oB3 := oB2.step hb3
          have hb4 := bl_trans hb2 hb3
          have hsy := hb2.size
          have HRW := Lib.hid (row_rest (row_rest (own_leG hrow (show w.heap.size + 1 ≤ wy.heap.size + 1 by omega)) (Rest.setCell w3 ⟨w.heap.size, 0, none⟩ (.int .i64 1)) (fun j hj e => by have := own_base hrow j hj; have e2 : j = w.heap.size := e; omega)) (Rest.setCell _ ⟨w.heap.size, 1, none⟩ (.slice A3 N.length c3)) (fun j hj e => by have := own_base hrow j hj; have e2 : j = w.heap.size := e; omega))
          have HCS := Lib.hid hcase
          obtain ⟨e0, e1⟩ : w3.cell? ⟨w.heap.size, 0, none⟩ = some (.int .i64 0) ∧ w3.cell? ⟨w.heap.size, 1, none⟩ = some (.slice none 0 0) := ⟨oB3.cell rfl, oB3.cell rfl⟩
          have f0 := oB3.frozen 0
          have f1 := oB3.frozen 1
          have Q := Lib.hid ((oB3.set_ 0 (.int .i64 1)).set_ 1 (.slice A3 N.length c3))
          have QB := Lib.hid ((hb4.setCell (p := ⟨w.heap.size, 0, none⟩) (Nat.le_refl _) (.int .i64 1)).setCell (p := ⟨w.heap.size, 1, none⟩) (Nat.le_refl _) (.slice A3 N.length c3))
          clear oB2 oB3 hb2 hb3 hb4 hrow hcase hPN
          go_wp2
          exact bodyPost_ret (results_ctt (p := 2) (q := 3) (r := 4) (fn := Tryd.f52) rfl _ _ w.heap.size 61 _ _ rfl Q.out sg_descS rfl (sg_infoS _ _)) rfl ⟨1, .slice A3 N.length c3, N, ⟨cb.toArray⟩, qq, rfl, HRW.out, QB.out, by
            have hf := HF2.out
            rw [if_pos (by first | rfl | trivial)] at hf
            have h5 := HC2.out.2
            have h6 := HLN.out
            rcases HCS.out with ⟨h1, h2, h3⟩ | ⟨h1, h2, h3⟩
            · exact .inl ⟨h1, by rw [hf]; change (wordsP (Lib.split ca [32])).map _ = _; rw [show wordsP (Lib.split ca [32]) = some N from h2]; rfl, h3, by show cb.toArray.size < t.size; have h7 : cb.length + 1 ≤ I.length := h5; simp; omega⟩
            · exact .inr ⟨h1, by rw [hf]; change (wordsP (Lib.split ca [32])).map _ = _; rw [show wordsP (Lib.split ca [32]) = none from h2]; rfl⟩⟩
      · have hpf : Lib.hasPrefix t.data.toList [123] = false := by simpa using hp
        rw [hpf] at hCP
        have hpr := hpre.out
        clear hp
        have HPF := Lib.hid hpf
        clear hpf
        go_wp2_with fail
        refine hCP.out.mono ?_
        rintro e w1 ⟨rfl, rfl⟩
        go_wp2
        go_roundw
        case rel => exact ⟨1, by omega, by go_num, oB, oK, hb, Lib.hid ⟨fun _ => HPF.out, by omega⟩⟩
        case measure => simp [intOf]
    · have hbkr := HBK.out.below hb
      obtain ⟨b1, b2, _⟩ := hbkr
      have x1 : (⟨#[91, 93]⟩ : ByteArray).extract 0 1 = ⟨#[91]⟩ := by kernel_rfl
      have x2 : (⟨#[91, 93]⟩ : ByteArray).extract 1 2 = ⟨#[93]⟩ := by kernel_rfl
      obtain ⟨k0, k1⟩ : wr.cell? ⟨w.heap.size + 1, 0, none⟩ = some (.int .i64 1) ∧ wr.cell? ⟨w.heap.size + 1, 1, none⟩ = some (.int .i64 2) := ⟨oK.cell rfl, oK.cell rfl⟩
      have hCP := Lib.hid (Tryd.strings_CutPrefix t ⟨#[91]⟩ wr)
      rw [show (⟨#[91]⟩ : ByteArray).data.toList = [91] from rfl] at hCP
      by_cases hp : Lib.hasPrefix t.data.toList [91] = true
      · obtain ⟨m, hm⟩ := (HZ.out.below hb).1.1
        rw [hp] at hCP
        have HFi := firstP_2 (hpre.out.1 (by omega)) hp
        have htl := trim_len t.data.toList [91]
        generalize hIe : Lib.trimPrefix t.data.toList [91] = I at *
        have hts : t.data.toList.length = t.size := by rw [Array.length_toList]; rfl
        have hIs : (⟨I.toArray⟩ : ByteArray).size ≤ 1000000 := by
          show I.toArray.size ≤ 1000000
          have := HT.out
          simp; omega
        have hCt := Lib.hid (Tryd.strings_Cut ⟨I.toArray⟩ ⟨#[93]⟩ m wr (by omega) hm)
        rw [show (⟨#[93]⟩ : ByteArray).data.toList = [93] from rfl, show (⟨I.toArray⟩ : ByteArray).data.toList = I from rfl] at hCt
        have hcl := Lib.hid (cut_len (s := I) (d := 93))
        obtain ⟨⟨ca, cb, f⟩, hcc⟩ : ∃ z, Lib.cut I [93] = z := ⟨_, rfl⟩
        rw [hcc] at hCt hcl HFi
        have HF2 := Lib.hid HFi
        have HLN := Lib.hid (And.intro htl hts)
        clear HFi htl hts hIs hIe hcc hm hp
        go_wp2_with fail
        refine hCP.out.mono ?_
        rintro e w1 ⟨rfl, hw1⟩
        rw [hw1]
        clear hw1
        go_wp2_with fail
        refine hCt.out.mono ?_
        rintro e w2 ⟨rfl, nn, rfl⟩
        have hbn := bl_drewN (bl_refl wr) nn
        have oB2 := oB.step hbn
        have hb2 := bl_trans hb hbn
        clear oB oK k0 k1 b1 b2 hb hCP hCt hbn
        generalize wr.drewN nn = wy at *
        cases f
        · have hF := Lib.hid (show firstP t.data.toList = none from HF2.out)
          obtain ⟨e0, e1⟩ : wy.cell? ⟨w.heap.size, 0, none⟩ = some (.int .i64 0) ∧ wy.cell? ⟨w.heap.size, 1, none⟩ = some (.slice none 0 0) := ⟨oB2.cell rfl, oB2.cell rfl⟩
          have f0 := oB2.frozen 0
          have f1 := oB2.frozen 1
          have Q := Lib.hid ((oB2.set_ 0 (.int .i64 0)).set_ 1 (.slice none 0 0))
          have QB := Lib.hid ((hb2.setCell (p := ⟨w.heap.size, 0, none⟩) (Nat.le_refl _) (.int .i64 0)).setCell (p := ⟨w.heap.size, 1, none⟩) (Nat.le_refl _) (.slice none 0 0))
          clear oB2 hb2
          go_wp2
          exact bodyPost_ret (results_ctt (p := 2) (q := 3) (r := 4) (fn := Tryd.f52) rfl _ _ w.heap.size 61 _ _ rfl Q.out sg_descS rfl (sg_infoS _ _)) rfl ⟨0, .slice none 0 0, [], ⟨#[]⟩, false, rfl, World.ownsRow_nil _ _ _ _, QB.out, .inr ⟨rfl, hF.out⟩⟩
        · have hc2 := hcl.out rfl
          have hPN := Lib.hid (pnum_any ⟨ca.toArray⟩ (by show ca.toArray.size ≤ 1000000; have := HT.out; have := HLN.out; have h3 : ca.length ≤ I.length := hc2.1; simp; omega) wy (HZ.out.below hb2))
          have HC2 := Lib.hid hc2
          clear hc2
          go_wp2_with fail
          refine hPN.out.mono ?_
          rintro e w3 ⟨v, N, qq, rfl, hrow, hb3, hcase⟩
          obtain ⟨A3, c3, rfl⟩ := own_form hrow
          have oB3 := oB2.step hb3
          have hb4 := bl_trans hb2 hb3
          have hsy := hb2.size
          have HRW := Lib.hid (row_rest (row_rest (own_leG hrow (show w.heap.size + 1 ≤ wy.heap.size + 1 by omega)) (Rest.setCell w3 ⟨w.heap.size, 0, none⟩ (.int .i64 2)) (fun j hj e => by have := own_base hrow j hj; have e2 : j = w.heap.size := e; omega)) (Rest.setCell _ ⟨w.heap.size, 1, none⟩ (.slice A3 N.length c3)) (fun j hj e => by have := own_base hrow j hj; have e2 : j = w.heap.size := e; omega))
          have HCS := Lib.hid hcase
          obtain ⟨e0, e1⟩ : w3.cell? ⟨w.heap.size, 0, none⟩ = some (.int .i64 0) ∧ w3.cell? ⟨w.heap.size, 1, none⟩ = some (.slice none 0 0) := ⟨oB3.cell rfl, oB3.cell rfl⟩
          have f0 := oB3.frozen 0
          have f1 := oB3.frozen 1
          have Q := Lib.hid ((oB3.set_ 0 (.int .i64 2)).set_ 1 (.slice A3 N.length c3))
          have QB := Lib.hid ((hb4.setCell (p := ⟨w.heap.size, 0, none⟩) (Nat.le_refl _) (.int .i64 2)).setCell (p := ⟨w.heap.size, 1, none⟩) (Nat.le_refl _) (.slice A3 N.length c3))
          clear oB2 oB3 hb2 hb3 hb4 hrow hcase hPN
          go_wp2
          exact bodyPost_ret (results_ctt (p := 2) (q := 3) (r := 4) (fn := Tryd.f52) rfl _ _ w.heap.size 61 _ _ rfl Q.out sg_descS rfl (sg_infoS _ _)) rfl ⟨2, .slice A3 N.length c3, N, ⟨cb.toArray⟩, qq, rfl, HRW.out, QB.out, by
            have hf := HF2.out
            rw [if_pos (by first | rfl | trivial)] at hf
            have h5 := HC2.out.2
            have h6 := HLN.out
            rcases HCS.out with ⟨h1, h2, h3⟩ | ⟨h1, h2, h3⟩
            · exact .inl ⟨h1, by rw [hf]; change (wordsP (Lib.split ca [32])).map _ = _; rw [show wordsP (Lib.split ca [32]) = some N from h2]; rfl, h3, by show cb.toArray.size < t.size; have h7 : cb.length + 1 ≤ I.length := h5; simp; omega⟩
            · exact .inr ⟨h1, by rw [hf]; change (wordsP (Lib.split ca [32])).map _ = _; rw [show wordsP (Lib.split ca [32]) = none from h2]; rfl⟩⟩
      · have hpf : Lib.hasPrefix t.data.toList [91] = false := by simpa using hp
        rw [hpf] at hCP
        have hpr := hpre.out
        clear hp
        have HPF := Lib.hid hpf
        clear hpf
        go_wp2_with fail
        refine hCP.out.mono ?_
        rintro e w1 ⟨rfl, rfl⟩
        go_wp2
        go_roundw
        case rel => exact ⟨2, by omega, by go_num, oB, oK, hb, Lib.hid ⟨fun _ => hpr.1 (by omega), fun _ => HPF.out⟩⟩
        case measure => simp [intOf]
    · have hj0 : j = 0 := by omega
      subst hj0
      have hF := Lib.hid (firstP_0 (hpre.out.1 (by omega)) (hpre.out.2 (by omega)))
      have HO := Lib.hid oB
      have HB := Lib.hid hb
      obtain ⟨e0, e1⟩ : wr.cell? ⟨w.heap.size, 0, none⟩ = some (.int .i64 0) ∧ wr.cell? ⟨w.heap.size, 1, none⟩ = some (.slice none 0 0) := ⟨oB.cell rfl, oB.cell rfl⟩
      have f0 := oB.frozen 0
      have f1 := oB.frozen 1
      clear oB oK hb
      have Q := Lib.hid ((HO.out.set_ 0 (.int .i64 0)).set_ 1 (.slice none 0 0))
      have QB := Lib.hid ((HB.out.setCell (p := ⟨w.heap.size, 0, none⟩) (Nat.le_refl _) (.int .i64 0)).setCell (p := ⟨w.heap.size, 1, none⟩) (Nat.le_refl _) (.slice none 0 0))
      clear HO HB
      go_wp2
      exact bodyPost_ret (results_ctt (p := 2) (q := 3) (r := 4) (fn := Tryd.f52) rfl _ _ w.heap.size 61 _ _ rfl Q.out sg_descS rfl (sg_infoS _ _)) rfl ⟨0, .slice none 0 0, [], ⟨#[]⟩, false, rfl, World.ownsRow_nil _ _ _ _, QB.out, .inr ⟨rfl, hF.out⟩⟩
end Go.Proofs.YtecbbjdcnlocdaaDoor

/- texts of segments: the lists of bytes of XSpP are the texts of XSgD -/
namespace Go.Proofs.YtecbbjdcnlocdaaDoor
open Go.RowKit Go.Sort
def sgN (s : Sg) : Int × List Nat := (s.k, s.xs.map Int.toNat)
theorem sg_link (s : Sg) (h : s.xs ≠ []) : (sgTxt s).data.toList = segT s.k (s.xs.map Int.toNat) := by
  rw [sgTxt_list]
  cases hx : s.xs with
  | nil => exact absurd hx h
  | cons x r =>
    rw [segJ_list]
    show _ = (if s.k = 1 then (123 : UInt8) else 91) :: (Lib.decDigits x.toNat ++ (numTail (r.map Int.toNat) ++ [if s.k = 1 then (125 : UInt8) else 93]))
    by_cases hk : s.k = 1
    · rw [if_pos hk, if_pos hk, if_pos hk, List.append_assoc]
    · rw [if_neg hk, if_neg hk, if_neg hk, List.append_assoc]
theorem tail_link : ∀ (ss : List Sg), (∀ s ∈ ss, s.xs ≠ []) → segTail ss = segsT (ss.map sgN)
  | [], _ => rfl
  | s :: ss, h => by
    have ih := tail_link ss (fun z hz => h z (List.mem_cons_of_mem _ hz))
    unfold segTail segsT at ih ⊢
    rw [List.map_cons, List.flatten_cons, ih, sg_link s (h s List.mem_cons_self)]
    rfl
theorem txt_link (ss : List Sg) (h : ∀ s ∈ ss, s.xs ≠ []) : (sgsTxt ss).data.toList = txtT (ss.map sgN) := by
  cases ss with
  | nil => rfl
  | cons s ss =>
    rw [sgsTxt_list, sg_link s (h s List.mem_cons_self), tail_link ss (fun z hz => h z (List.mem_cons_of_mem _ hz))]
    rfl
end Go.Proofs.YtecbbjdcnlocdaaDoor

/- segment.Parse -/
namespace Go.Proofs.YtecbbjdcnlocdaaDoor
open Go.RowKit Go.Sort
/-- How far Parse has come: L is read, s is left. -/
def PCome (s0 : List UInt8) (L : List (Int × List Nat)) (s : List UInt8) : Prop := ∃ f, s.length + 1 < f ∧ parseP (s0.length + 2) s0 = (parseP f s).map (L ++ ·)
theorem PCome.start (s0 : List UInt8) : PCome s0 [] s0 := ⟨s0.length + 2, by omega, by cases parseP (s0.length + 2) s0 <;> rfl⟩
theorem PCome.step {s0 s b : List UInt8} {L : List (Int × List Nat)} {x : Int × List Nat} (h : PCome s0 L s) (hn : s ≠ []) (hf : firstP s = some (x, b)) (hl : b.length < s.length) : PCome s0 (L ++ [x]) (Lib.trimPrefix b [32]) := by
  obtain ⟨f, h1, h2⟩ := h
  have ht := trim_len b [32]
  cases f with
  | zero => omega
  | succ f =>
    refine ⟨f, by omega, ?_⟩
    rw [h2, parseP, if_neg hn, hf]
    show ((parseP f (Lib.trimPrefix b [32])).map (x :: ·)).map _ = _
    cases parseP f (Lib.trimPrefix b [32]) <;> simp
theorem PCome.bad {s0 s : List UInt8} {L : List (Int × List Nat)} (h : PCome s0 L s) (hn : s ≠ []) (hf : firstP s = none) : pAcc s0 = none := by
  obtain ⟨f, h1, h2⟩ := h
  unfold pAcc
  cases f with
  | zero => omega
  | succ f =>
    rw [h2, parseP, if_neg hn, hf]
    rfl
theorem PCome.done {s0 : List UInt8} {L : List (Int × List Nat)} (h : PCome s0 L []) : pAcc s0 = accN s0 L := by
  obtain ⟨f, h1, h2⟩ := h
  unfold pAcc
  cases f with
  | zero => omega
  | succ f =>
    rw [h2, parseP, if_pos rfl]
    show accN s0 (L ++ []) = _
    rw [List.append_nil]
theorem ba_extS {a b : ByteArray} (h : a.data.toList = b.data.toList) : a = b := by
  cases a; cases b
  exact congrArg ByteArray.mk (Array.toList_inj.1 h)
theorem sp_empty {s : ByteArray} (h : s ≠ ⟨#[]⟩) : s.toList.isEmpty = false := by
  cases e : s.toList with
  | nil =>
    exfalso
    apply h
    rw [ByteArray.toList_eq] at e
    obtain ⟨d⟩ := s
    have : d = #[] := by simpa using e
    rw [this]
  | cons a l => rfl
theorem firstP_k {s b : List UInt8} {k : Int} {N : List Nat} (h : firstP s = some ((k, N), b)) : k = 1 ∨ k = 2 := by
  cases s with
  | nil => cases h
  | cons c r =>
    unfold firstP at h
    dsimp only at h
    split at h
    · split at h
      · obtain ⟨M, _, e⟩ := Option.map_eq_some_iff.1 h
        injection e with e1 e2
        injection e1 with e3 e4
        exact .inl e3.symm
      · cases h
    · split at h
      · split at h
        · obtain ⟨M, _, e⟩ := Option.map_eq_some_iff.1 h
          injection e with e1 e2
          injection e1 with e3 e4
          exact .inr e3.symm
        · cases h
      · cases h
theorem sgN_of (k : Int) (A : Option Addr) (n c : Nat) (N : List Nat) : sgN ⟨k, A, n, c, N.map fun y : Nat => (y : Int)⟩ = (k, N) := by
  show (k, (N.map fun y : Nat => (y : Int)).map Int.toNat) = (k, N)
  rw [List.map_map]
  have e2 : (Int.toNat ∘ fun y : Nat => (y : Int)) = id := by funext y; exact Int.toNat_natCast y
  rw [e2, List.map_id]
theorem segs_nilS (w : World) : Segs w w.heap.size none 0 [] := by
  obtain ⟨A, c, e, h⟩ := (SRow.nil w 0).segs
  injection e with e1 e2 e3
  subst e1
  exact h
theorem okN_link {s : Sg} (hn : s.n = s.xs.length) (hr : ∀ x ∈ s.xs, 0 ≤ x ∧ x < 4294967296) : okN (sgN s) = sgOk 4 s := by
  have hall : ((sgN s).2.all fun x => decide (x ≤ 4294967295)) = true := by
    rw [List.all_eq_true]
    intro x hx
    obtain ⟨y, hy, rfl⟩ := List.mem_map.1 hx
    have := hr y hy
    exact decide_eq_true (by omega)
  unfold okN sgOk
  rw [hall, Bool.and_true]
  have hl : (sgN s).2.length = s.n := by rw [hn]; exact List.length_map _
  rw [hl]
  have e1 : decide ((4 : Int) ≠ 2) = true := rfl
  rw [e1, Bool.true_or, Bool.and_true, Bool.eq_iff_iff, Bool.and_eq_true, decide_eq_true_iff, decide_eq_true_iff, decide_eq_true_iff]
  exact ⟨fun h => ⟨h.1, h.2⟩, fun h => ⟨h.1, h.2⟩⟩
/-- How far Parse has come, in memory. -/
def SPI (t : ByteArray) (w : World) (v r : Value) (wr : World) : Prop := ∃ (L : List Sg) (b : ByteArray), r = .string b ∧ SRow wr w.heap.size v L ∧ Below w.heap.size w wr ∧ Hid (PCome t.data.toList (L.map sgN) b.data.toList ∧ L.length + b.size ≤ t.size)
def strLen (v : Value) : Nat := match v with | .string b => b.size | _ => 0
/-- What Parse leaves. -/
def SPR (t : ByteArray) (w : World) (e : Ending) (w' : World) : Prop := ∃ (A : Option Addr) (c : Nat) (L : List Sg) (q : Bool), e = .returned (.tuple #[.slice A L.length c, .bool q]) ∧ Segs w' w'.heap.size A L.length L ∧ Below w.heap.size w w' ∧ ((q = true ∧ pAcc t.data.toList = some (L.map sgN)) ∨ (q = false ∧ pAcc t.data.toList = none ∧ L = []))
set_option maxRecDepth 100000 in
set_option maxHeartbeats 6400000 in
theorem sparse_any (t : ByteArray) (ht : t.size ≤ 1000000) (w : World) (hz : PuOk w) (hbk : Brk w) (hten : Tens w) :
    Calls Tryd.prog 18 #[.string t] w fun e w' => SPR t w e w' := by
  have HZ := Lib.hid hz
  have HBK := Lib.hid hbk
  have HTN := Lib.hid hten
  have HT := Lib.hid ht
  clear hz hbk hten ht
  go_enter Tryd.func18, Tryd.ntmps18
  go_wp2_with fail
  go_loopw [4, 5] (fun v r wr => SPI t w v r wr) (fun _ r _ => strLen r)
  case atStart => exact ⟨[], t, rfl, SRow.nil _ _, bl_refl w, Lib.hid ⟨PCome.start _, by simp⟩⟩
  case round =>
    obtain ⟨L, b, rfl, hrow, hb, hcome⟩ := hrel
    obtain ⟨A0, c0, rfl⟩ := own_form hrow.1
    by_cases hbe : b = ⟨#[]⟩
    · subst hbe
      have hS : Segs wr wr.heap.size A0 L.length L := by
        obtain ⟨A, c, e, h⟩ := hrow.segs
        injection e with e1 e2 e3
        subst e1
        exact h
      have hall : (L.map sgN).all okN = L.all (sgOk 4) := by
        have e : ∀ s ∈ L, okN (sgN s) = sgOk 4 s := fun s hs => okN_link (hrow.2 s hs).2.1 (hrow.2 s hs).2.2.1
        rw [List.all_map, Bool.eq_iff_iff, List.all_eq_true, List.all_eq_true]
        exact ⟨fun h s hs => by rw [← e s hs]; exact h s hs, fun h s hs => by show okN (sgN s) = true; rw [e s hs]; exact h s hs⟩
      have hD := hcome.out.1.done
      have hLl : L.length ≤ 1000000 := by have := HT.out; have := hcome.out.2; omega
      have hV := Lib.hid (svalid_any 4 A0 L.length c0 L wr hS hLl)
      have HSg := Lib.hid hS
      have HROW := Lib.hid hrow
      clear hcome hrow
      have hne : (⟨#[]⟩ : ByteArray).toList.isEmpty = true := by rw [ByteArray.toList_eq]; rfl
      cases hk : L.all (sgOk 4) with
      | false =>
        rw [hk] at hV
        have hR := Lib.hid (show pAcc t.data.toList = none by rw [hD]; unfold accN; rw [if_neg (by rw [hall, hk]; simp)])
        clear hD hall hk hS hLl
        go_wp2_with fail
        refine hV.out.mono ?_
        rintro e w2 ⟨rfl, hb2⟩
        have hb3 := bl_trans hb hb2
        go_wp2
        go_ret2
        exact ⟨none, 0, [], false, rfl, segs_nilS _, hb3, .inr ⟨rfl, hR.out, rfl⟩⟩
      | true =>
        rw [hk] at hV
        have hne0 : ∀ s ∈ L, s.xs ≠ [] := fun s hs e => by
          have h1 := (sgOk_iff.1 (List.all_eq_true.1 hk s hs)).1.2.1
          have h2 := (HROW.out.2 s hs).2.1
          rw [e] at h2
          simp at h2
          omega
        have hlk := txt_link L hne0
        have hTx := Lib.hid (fun W (hW : Below wr.heap.size wr W) => stext_yes A0 L.length c0 L W (HTN.out.below (bl_trans hb hW)) (HBK.out.below (bl_trans hb hW)) ((HSg.out.below hW).more hW.size) hLl hk)
        by_cases hT : sgsTxt L = t
        · have q1 : ((sgsTxt L).toList == t.toList) = true := by rw [hT]; simp
          have hR := Lib.hid (show pAcc t.data.toList = some (L.map sgN) by rw [hD]; unfold accN; rw [if_pos ⟨by rw [hall, hk], by rw [← hlk, hT]⟩])
          clear hD hall hk hS hLl hlk hne0 hT
          generalize sgsTxt L = Z at *
          go_wp2_with fail
          refine hV.out.mono ?_
          rintro e w2 ⟨rfl, hb2⟩
          go_wp2_with fail
          refine (hTx.out w2 hb2).mono ?_
          rintro e w3 ⟨rfl, hb3⟩
          have hb4 := bl_trans hb2 hb3
          have hb5 := bl_trans hb hb4
          go_wp2
          go_ret2
          exact ⟨A0, c0, L, true, rfl, (HSg.out.below hb4).more hb4.size, hb5, .inl ⟨rfl, hR.out⟩⟩
        · have q1 : ((sgsTxt L).toList == t.toList) = false := by
            rw [beq_eq_false_iff_ne]
            intro e
            rw [ByteArray.toList_eq, ByteArray.toList_eq] at e
            exact hT (ba_extS e)
          have hR := Lib.hid (show pAcc t.data.toList = none by rw [hD]; unfold accN; rw [if_neg (fun h => hT (ba_extS (hlk.trans h.2)))])
          clear hD hall hk hS hLl hlk hne0 hT
          generalize sgsTxt L = Z at *
          go_wp2_with fail
          refine hV.out.mono ?_
          rintro e w2 ⟨rfl, hb2⟩
          go_wp2_with fail
          refine (hTx.out w2 hb2).mono ?_
          rintro e w3 ⟨rfl, hb3⟩
          have hb4 := bl_trans hb2 hb3
          have hb5 := bl_trans hb hb4
          go_wp2
          go_ret2
          exact ⟨none, 0, [], false, rfl, segs_nilS _, hb5, .inr ⟨rfl, hR.out, rfl⟩⟩
    · have hne : b.toList.isEmpty = false := sp_empty hbe
      have hbn : b.data.toList ≠ [] := fun e => hbe (ba_extS e)
      have HBN := Lib.hid hbn
      have hls := hcome.out.2
      have hbs : b.size ≤ 1000000 := by have := HT.out; omega
      have hPF := Lib.hid (pfirst_any b (by omega) wr (HZ.out.below hb) (HBK.out.below hb))
      have HR := Lib.hid hrow
      have HB := Lib.hid hb
      have HLL := Lib.hid (show L.length ≤ 1000000 by have := HT.out; omega)
      clear hrow hb hbn hbe hls
      go_wp2_with fail
      refine hPF.out.mono ?_
      rintro e w2 ⟨k, v2, N, b2, q, rfl, hrow2, hb2, hcs⟩
      obtain ⟨A2, c2, rfl⟩ := own_form hrow2
      have hr2 := HR.out.below hb2
      have hb3 := bl_trans HB.out hb2
      have hs3 := hb3.size
      cases q
      · have hF : firstP b.data.toList = none := by
          rcases hcs with ⟨h, _⟩ | ⟨_, h⟩
          · cases h
          · exact h
        have hR := Lib.hid (hcome.out.1.bad HBN.out hF)
        clear hcs hcome hF hPF
        go_wp2
        go_ret2
        exact ⟨none, 0, [], false, rfl, (SRow.segs (SRow.nil _ 0)).elim (fun A h => h.elim fun c h => by obtain ⟨e, h⟩ := h; injection e with e1 e2 e3; subst e1; exact h), hb3.alloc hs3 _, .inr ⟨rfl, hR.out, rfl⟩⟩
      · obtain ⟨hF, hN, hbl⟩ : firstP b.data.toList = some ((k, N), b2.data.toList) ∧ (∀ y ∈ N, y ≤ 4294967295) ∧ b2.size < b.size := by
          rcases hcs with ⟨_, h⟩ | ⟨h, _⟩
          · exact h
          · cases h
        have hst := Lib.hid (hcome.out.1.step HBN.out hF (by rw [Array.length_toList, Array.length_toList]; exact hbl))
        have hk := firstP_k hF
        obtain ⟨W2, hW2, oB1, oB2, hbW, hWs⟩ := two_boxesS w2 #[.int .i64 k, .slice A2 N.length c2] #[.int .i64 k, .slice A2 N.length c2] 61 61
        subst hW2
        have HO2 := Lib.hid oB2
        have HRW := Lib.hid (own_belowG hr2.1 hbW)
        have HR2 := Lib.hid (hr2.below (bl_alloc (bl_refl w2) (.cells #[.int .i64 k, .slice A2 N.length c2] 61)))
        have hrw2 := own_belowG (own_leG hrow2 (show w.heap.size ≤ wr.heap.size + 1 by have := HB.out.size; omega)) (bl_alloc (bl_refl w2) (.cells #[.int .i64 k, .slice A2 N.length c2] 61))
        have HSD : Hid (SD (w2.alloc (.cells #[.int .i64 k, .slice A2 N.length c2] 61)) w.heap.size ⟨k, A2, N.length, c2, N.map fun y : Nat => (y : Int)⟩) := Lib.hid ⟨by rw [List.map_map]; exact hrw2, (List.length_map _).symm, fun x hx => by
          obtain ⟨y, hy, rfl⟩ := List.mem_map.1 hx
          have := hN y hy
          omega, by rcases hk with rfl | rfl <;> rfl⟩
        have HB4 := Lib.hid (bl_trans hb3 hbW)
        have HBL := Lib.hid hbl
        have hLl := HLL.out
        have HCM := Lib.hid hcome.out.2
        clear oB1 oB2 hbW hWs hr2 hrow2 hrw2 hF hN hbl hk hcs hPF hcome hb3 hs3
        go_wp2_with (at_builtin; refine wpList_append_grow _ rfl _ _ rfl sl_segs w.heap.size _ L.length _ rfl HRW.out (w2.heap.size + 1 + 1) (some ⟨w2.heap.size + 1, 0, none⟩) 1 1 [.int .i64 k, .slice A2 N.length c2] rfl rfl (Shows.of_owned HO2.out (Nat.lt_succ_self _)) (oneS _ _ _ _) (by unfold maxLen; omega) (by omega) (by simp; have := HB4.out.size; simp at this; omega) ?_; intro v3 w3 ho3 hg3)
        have rowN := HR2.out.push HSD.out ho3 hg3
        have hb5 : Below w.heap.size w w3 := HB4.out.grown hg3 HB4.out.size (fun j hj => own_base HRW.out j hj)
        refine (Tryd.strings_TrimPrefix b2 ⟨#[32]⟩ w3).mono ?_
        rintro e w4 ⟨rfl, hw4⟩
        rw [hw4]
        clear hw4 w4
        have htl := trim_len b2.data.toList [32]
        have hb2l : b2.data.toList.length = b2.size := by rw [Array.length_toList]; rfl
        have hszT : (⟨(Lib.trimPrefix b2.data.toList [32]).toArray⟩ : ByteArray).size ≤ b2.size := by
          show ((Lib.trimPrefix b2.data.toList [32]).toArray).size ≤ b2.size
          simp; omega
        have HSZ := Lib.hid hszT
        clear htl hb2l hszT
        go_wp2
        go_roundw
        case rel => exact ⟨L ++ [⟨k, A2, N.length, c2, N.map fun y : Nat => (y : Int)⟩], ⟨(Lib.trimPrefix b2.data.toList [32]).toArray⟩, rfl, rowN, hb5, Lib.hid ⟨by rw [List.map_append, List.map_singleton, sgN_of]; exact hst.out, by rw [List.length_append, List.length_singleton]; have := HSZ.out; have := HBL.out; have := HCM.out; omega⟩⟩
        case measure => show (⟨(Lib.trimPrefix b2.data.toList [32]).toArray⟩ : ByteArray).size < b.size; have := HSZ.out; have := HBL.out; omega
end Go.Proofs.YtecbbjdcnlocdaaDoor

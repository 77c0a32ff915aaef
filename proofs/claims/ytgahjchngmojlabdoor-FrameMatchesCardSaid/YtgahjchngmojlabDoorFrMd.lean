/- XFrMd: XFrX, XFrY in one text -/
import Derived.Test.YtgahjchngmojlabDoorFrMc
import Derived.Test.YtgahjchngmojlabDoorFrMb
import Derived.Lib.QuietBelow
import Derived.BigQuiet
/- frame: Back, the reference's Same, few, Split, alive -/
namespace Go.Proofs.YtgahjchngmojlabDoor
open Go.RowKit Go.Sort

section
variable {P : Program} {ops : Array Oper} {C : World → Prop} {Q : Act → Prop} {a : Act} {o : Oper} {rest : List Oper}
/-- A row inside a block read in a region that draws its order. -/
theorem wpQuiet_load_midF (hw : Region.wanted o (yielded ops a.tmps) = true) (ty : TypeId) (x : Operand) (ho : o.op = .load ty x) (g k : Nat) (hx : a.eval x = .pointer (some ⟨g, k, none⟩)) (cs : List Value) (d : TypeDesc)
    (hg : ∀ w, C w → w.rangeAt g k cs) (hu : P.underlying ty = some d) (hd : d.isRow = true) (hi : (P.info? ty).map (·.size) = some cs.length)
    (h : wpQuiet P ops C Q rest (a.put o.dst (.agg cs.toArray))) : wpQuiet P ops C Q (o :: rest) a := by
  refine BigFrame.wpQuiet_want hw fun K hK => ⟨.agg cs.toArray, fun w hcw => ?_, hK _ h⟩
  unfold Oper.quietAt execOp
  simp only [ho, hx, Instr.loadAt, Instr.sureAddr, Sem.run_bind, Sem.run_pure, Result.andThen_ok, run_loadVar_mid w g k ty cs d (hg w hcw) hu hd hi]
  exact ⟨rfl, rfl⟩
end
set_option maxRecDepth 100000 in
theorem rg_ofF {w : World} {v : Value} {f : FuncId} {args : Array Value} (h : ∀ W, Below w.heap.size w W → Calls Tryd.prog f args W fun e w' => e = .returned v ∧ Below W.heap.size W w') (d : Nat) (os : Array Obj) :
    Calls Tryd.prog f args (grow (redrawn w d) os) fun e w'' => e = .returned v ∧ ∃ p : Regrown, w'' = grow (redrawn w p.d) p.os := Calls.regrown_of (h _ (below_regrown w d os))
theorem range_rgF {w : World} {b o : Nat} {cs : List Value} (hb : b < w.heap.size) (h : w.rangeAt b o cs) : ∀ w', (∃ p : Regrown, w' = grow (redrawn w p.d) p.os) → w'.rangeAt b o cs := by
  rintro w' ⟨p, rfl⟩
  have hg := below_regrown w p.d p.os
  exact fun j u hu => (World.cell?_of_block (a := ⟨b, _, none⟩) (hg.block b hb)).trans (h j u hu)
theorem take_nthE {L : List Ev} {i : Nat} (h : i < L.length) : L.take (i + 1) = L.take i ++ [nthE L i] := by
  rw [List.take_add_one, nthE_some h]; rfl
set_option maxRecDepth 100000 in
set_option maxHeartbeats 3200000 in
theorem back_any (A : Option Addr) (n c : Nat) (L : List Ev) (w : World) (h : Evs w w.heap.size A n L) (hn : n ≤ 100000) :
    Calls Tryd.prog 13 #[.slice A n c] w fun e w' => ∃ A' c', e = .returned (.slice A' n c') ∧ Evs w' w'.heap.size A' n L ∧ Below w.heap.size w w' := by
  have HN := Lib.hid h.1
  have HE := Lib.hid h
  clear h
  go_enter Tryd.func13, Tryd.ntmps13
  go_wp2_with fail
  go_loopw [3, 5, 8] (fun ov _ i wr => ∃ k : Nat, k ≤ n ∧ i = .int .i64 k ∧ wr.ownsRow w.heap.size 51 6 ov k (flatE (L.take k)) ∧ Below w.heap.size w wr) (fun _ _ i _ => n - (intOf i).toNat)
  case atStart => exact ⟨0, Nat.zero_le _, rfl, by simpa [flatE] using World.ownsRow_nil _ _ _ _, bl_refl _⟩
  case round =>
    obtain ⟨k, hk, rfl, hrow, hb⟩ := hrel
    by_cases hlt : k < n
    · obtain ⟨b, o, rfl, hbB, _, hrg⟩ := ((HE.out.below hb)).at_ hlt
      have hst := Lib.hid (show flatE (L.take (k + 1)) = flatE (L.take k) ++ (evc (nthE L k)).toList by rw [take_nthE (by have := HN.out; omega), flatE_append]; simp [flatE])
      generalize nthE L k = E at *
      obtain ⟨EA, En, Ec, Ex, E1, E2, E3, ED, Em, Ee, Ed, E5⟩ := E
      obtain ⟨d0, d1, d2, d3, d4, d5⟩ := range6 hrg
      dsimp only at d0 d1 d2 d3 d4 d5
      have bX := bl_alloc (bl_refl wr) (.cells #[.slice EA En Ec, .int .i64 E1, .int .i64 E2, .int .i64 E3, .slice ED Em Ee, .int .i64 E5] 57)
      have oS := Own.new (wr.alloc (.cells #[.slice EA En Ec, .int .i64 E1, .int .i64 E2, .int .i64 E3, .slice ED Em Ee, .int .i64 E5] 57)) 51 #[.slice EA En Ec, .int .i64 E1, .int .i64 E2, .int .i64 E3, .slice ED Em Ee, .int .i64 E5]
      rw [show (wr.alloc (.cells #[.slice EA En Ec, .int .i64 E1, .int .i64 E2, .int .i64 E3, .slice ED Em Ee, .int .i64 E5] 57)).heap.size = wr.heap.size + 1 by simp] at oS
      have bY := bl_alloc bX (.cells #[.slice EA En Ec, .int .i64 E1, .int .i64 E2, .int .i64 E3, .slice ED Em Ee, .int .i64 E5] 51)
      have HRow := Lib.hid (own_belowG hrow bY)
      have hbY := bl_trans hb bY
      have hbs := hb.size
      clear hrg hrow hb bX bY
      go_wp2_with (at_builtin; refine wpList_append_grow _ rfl _ _ rfl sl_revs w.heap.size _ k (flatE (L.take k)) rfl HRow.out (wr.heap.size + 1 + 1) (some ⟨wr.heap.size + 1, 0, none⟩) 1 1 [.slice EA En Ec, .int .i64 E1, .int .i64 E2, .int .i64 E3, .slice ED Em Ee, .int .i64 E5] rfl rfl (Shows.of_owned (xs := [.slice EA En Ec, .int .i64 E1, .int .i64 E2, .int .i64 E3, .slice ED Em Ee, .int .i64 E5]) oS (Nat.lt_succ_self _)) (fun u hu => L6_one (e := ⟨EA, En, Ec, Ex, E1, E2, E3, ED, Em, Ee, Ed, E5⟩) hu) (by unfold maxLen; omega) (by omega) (by simp; omega) ?_; intro v6 w6 hrow6 hg6)
      have hb6 := hbY.grown hg6 hbY.size (fun j hj => (row_typed HRow.out hj).2)
      go_roundw
      case rel => exact ⟨k + 1, by omega, by go_num, by rw [hst.out]; exact hrow6, hb6⟩
      case measure => simp [intOf]; omega
    · obtain rfl : k = n := by omega
      have HL := Lib.hid (show L.take k = L by rw [List.take_of_length_le (by rw [← HN.out]; exact Nat.le_refl _)])
      rw [HL.out] at hrow
      obtain ⟨A0, c0, rfl⟩ := own_form hrow
      have HF := Lib.hid (show Evs wr wr.heap.size A0 k L from by
        have h2 := own_evs (L := L) (by rw [← HN.out]; exact hrow) (fun x hx => ((HE.out.2.1 x hx).below hb (Nat.le_refl _)).more hb.size)
        rw [← HN.out] at h2
        exact h2)
      clear hrow
      go_wp2
      go_ret
      exact ⟨_, _, rfl, HF.out, hb⟩
set_option maxRecDepth 100000 in
set_option maxHeartbeats 6400000 in
theorem rsame23_any (A A2 : Option Addr) (n n2 c c2 : Nat) (L L2 : List Ev) (w : World) (h : Evs w w.heap.size A n L) (h2 : Evs w w.heap.size A2 n2 L2) (hp : L.map Ev.p = L2.map Ev.p) (hn : n ≤ 100000) :
    Calls Tryd.prog 12 #[.slice A n c, .slice A2 n2 c2] w fun e w' => e = .returned (.bool true) ∧ Below w.heap.size w w' := by
  have hll := congrArg List.length hp
  rw [List.length_map, List.length_map] at hll
  obtain rfl : n2 = n := by rw [h.1, h2.1, hll]
  have HN := Lib.hid h.1
  have HE := Lib.hid h
  have HE2 := Lib.hid h2
  have HP := Lib.hid hp
  have HL := Lib.hid hll
  clear h h2 hp hll
  have q0 : ((n2 : Int) != (n2 : Int)) = false := by simp
  go_enter Tryd.func12, Tryd.ntmps12
  go_wp2_with fail
  go_loopw [5] (fun i wr => ∃ k : Nat, k ≤ n2 ∧ i = .int .i64 k ∧ Below w.heap.size w wr) (fun i _ => n2 - (intOf i).toNat)
  case atStart => exact ⟨0, Nat.zero_le _, rfl, bl_refl _⟩
  case round =>
    obtain ⟨k, hk, rfl, hb⟩ := hrel
    by_cases hlt : k < n2
    · obtain ⟨b, o, rfl, hbB, hok1, hr1⟩ := (HE.out.below hb).at_ hlt
      obtain ⟨b', o', rfl, hbB', hok2, hr2⟩ := (HE2.out.below hb).at_ hlt
      have hpe : (nthE L k).p = (nthE L2 k).p := by
        have e1 := nthE_some (L := L) (i := k) (by have := HN.out; omega)
        have e2 := nthE_some (L := L2) (i := k) (by have := HN.out; have := HL.out; omega)
        have e3 := congrArg (fun l => l[k]?) HP.out
        simp only [List.getElem?_map, e1, e2, Option.map_some] at e3
        exact Option.some.inj e3
      generalize nthE L k = E at *
      generalize nthE L2 k = G at *
      obtain ⟨EA, En, Ec, Ex, E1, E2, E3, ED, Em, Ee, Ed, E5⟩ := E
      obtain ⟨GA, Gn, Gc, Gx, G1, G2, G3, GD, Gm, Ge, Gd, G5⟩ := G
      unfold Ev.p at hpe
      simp only [Prod.mk.injEq] at hpe
      obtain ⟨rfl, rfl, rfl, rfl, rfl, rfl⟩ := hpe
      obtain ⟨hf1, hd1, _⟩ := hok1
      obtain ⟨hf2, hd2, _⟩ := hok2
      dsimp only at hf1 hd1 hf2 hd2
      have HC1 := Lib.hid (rg_ofF (w := wr) (fun W hW => (rsame1_same EA GA En Gn Ec Gc Ex W _ _ (hf1.1.below hW) (hf2.1.below hW)).mono (fun e w' h => ⟨h.1, by rw [← h.2]; exact bl_refl _⟩)))
      have HC2 := Lib.hid (rg_ofF (w := wr) (fun W hW => vsame_same E1 E2 E3 E5 ED GD Em Gm Ee Ge Ed W ((hd1.1.below hW).more hW.size) ((hd2.1.below hW).more hW.size)))
      obtain ⟨d0, _⟩ := range6 hr1
      obtain ⟨g0, _⟩ := range6 hr2
      have rr1 : wr.rangeAt b (o + k * 6 + 1) [.int .i64 E1, .int .i64 E2, .int .i64 E3, .slice ED Em Ee, .int .i64 E5] := fun j v hv => by have := hr1 (j + 1) v (by simpa [evc] using hv); rwa [show o + k * 6 + 1 + j = o + k * 6 + (j + 1) by omega]
      have rr2 : wr.rangeAt b' (o' + k * 6 + 1) [.int .i64 E1, .int .i64 E2, .int .i64 E3, .slice GD Gm Ge, .int .i64 E5] := fun j v hv => by have := hr2 (j + 1) v (by simpa [evc] using hv); rwa [show o' + k * 6 + 1 + j = o' + k * 6 + (j + 1) by omega]
      have r1 := Lib.hid (range_rgF hbB rr1)
      have r2 := Lib.hid (range_rgF hbB' rr2)
      have i1 : Hid ((Tryd.prog.info? 49).map (·.size) = some ([Value.int .i64 E1, .int .i64 E2, .int .i64 E3, .slice ED Em Ee, .int .i64 E5]).length) := Lib.hid (by kernel_rfl)
      have i2 : Hid ((Tryd.prog.info? 49).map (·.size) = some ([Value.int .i64 E1, .int .i64 E2, .int .i64 E3, .slice GD Gm Ge, .int .i64 E5]).length) := Lib.hid (by kernel_rfl)
      dsimp only at d0 g0
      have d0r := cell_regrown d0
      have g0r := cell_regrown g0
      clear hr1 hr2 rr1 rr2 hf1 hd1 hf2 hd2
      go_wp2_with fail
      refine wp_region_quiet_below (by kernel_rfl) (by kernel_rfl) ?_
      repeat (first
        | go_big_quiet_skip
        | (refine wpQuiet_load_midF (by rfl) 49 _ rfl b (o + k * 6 + 1) rfl [.int .i64 E1, .int .i64 E2, .int .i64 E3, .slice ED Em Ee, .int .i64 E5] (.struct (Tryd.prog.fieldsOf 49)) r1.out vd_desc rfl i1.out ?_; go_simp)
        | (refine wpQuiet_load_midF (by rfl) 49 _ rfl b' (o' + k * 6 + 1) rfl [.int .i64 E1, .int .i64 E2, .int .i64 E3, .slice GD Gm Ge, .int .i64 E5] (.struct (Tryd.prog.fieldsOf 49)) r2.out vd_desc rfl i2.out ?_; go_simp)
        | go_big_quiet_step (with_reducible first | exact HC1.out _ _ | exact HC2.out _ _))
      refine wpQuiet_nil ?_
      rintro ⟨dq, osq⟩
      have hgw := below_regrown wr dq osq
      have hb3 := bl_trans hb hgw
      generalize grow (redrawn wr dq) osq = w3 at *
      clear HC1 HC2 r1 r2 hgw hb d0 g0 d0r g0r
      go_wp2
      go_roundw
      case rel => exact ⟨k + 1, by omega, by go_num, hb3⟩
      case measure => simp [intOf]; omega
    · go_wp2
      go_ret
      exact ⟨rfl, hb⟩
/-- Few and short parts. -/
def fewP (ps : List Part) : Bool := decide ((flat ps).length ≤ 1500) && decide (ps.length ≤ 60)
set_option maxRecDepth 100000 in
set_option maxHeartbeats 1600000 in
theorem few23_any (A : Option Addr) (n c : Nat) (ps : List Part) (w : World) (B : Nat) (hx : Parts w B A n ps) (hn : n ≤ maxLen) (hpm : ∀ p ∈ ps, p.n ≤ maxLen) :
    Calls Tryd.prog 9 #[.slice A n c] w fun e w' => e = .returned (.bool (fewP ps)) ∧ w = w' := by
  have HN := Lib.hid hx.1
  have HX := Lib.hid hx
  have HM := Lib.hid hpm
  unfold maxLen at hn
  clear hx hpm
  go_enter Tryd.func9, Tryd.ntmps9
  go_wp2
  go_loop [3, 5, 8] (fun s _ i => ∃ k : Nat, k ≤ n ∧ i = .int .i64 k ∧ s = .int .i64 (lenTo ps k) ∧ lenTo ps k ≤ 1500) (fun _ _ i => n - (intOf i).toNat)
  case atStart => exact ⟨0, Nat.zero_le _, rfl, by simp [lenTo, flat], by simp [lenTo, flat]⟩
  case round =>
    obtain ⟨k, hk, rfl, rfl, hle⟩ := hrel
    by_cases hlt : k < n
    · obtain ⟨b, o, rfl, hbB, hc, hB⟩ := HX.out.at_ hlt
      have hkl : k < ps.length := by have := HN.out; omega
      have hs := Lib.hid (lenTo_succ hkl HX.out.2.1)
      have hpn := HM.out _ (pth_mem hkl)
      have hto := lenTo_le ps (k + 1)
      unfold maxLen at hpn
      clear hB
      by_cases hbig : 1500 < lenTo ps (k + 1)
      · have h1 := hs.out
        have HF := Lib.hid (show fewP ps = false by unfold fewP; simp; omega)
        generalize lenTo ps k = q at *
        generalize (pth ps k).n = m at *
        clear hto hs
        by_cases h2000 : (2000 : Int) < (m : Int)
        · have hq : decide ((1500 : Int) < (q : Int) + 2000) = true := by simp; omega
          go_wp2
          go_ret
          exact ⟨by rw [HF.out]; rfl, rfl⟩
        · have hq : decide ((1500 : Int) < (q : Int) + (m : Int)) = true := by simp; omega
          go_wp2
          go_ret
          exact ⟨by rw [HF.out]; rfl, rfl⟩
      · have h1 := hs.out
        have HS := Lib.hid (show lenTo ps (k + 1) = lenTo ps k + (pth ps k).n ∧ lenTo ps (k + 1) ≤ 1500 from ⟨h1, by omega⟩)
        generalize hlq : lenTo ps k = q at *
        generalize (pth ps k).n = m at *
        clear hto hs hlq
        have h2000 : ¬ (2000 : Int) < (m : Int) := by omega
        have hq : decide ((1500 : Int) < (q : Int) + (m : Int)) = false := by simp; omega
        go_wp2
        go_round
        case rel => exact ⟨k + 1, by omega, by go_num, by rw [HS.out.1]; go_num, HS.out.2⟩
        case measure => simp [intOf]; omega
    · have e2 : lenTo ps k = (flat ps).length := by rw [show k = ps.length by have := HN.out; omega, lenTo_all]
      have HF := Lib.hid (show fewP ps = decide ((n : Int) ≤ 60) by
        unfold fewP
        rw [← e2, ← HN.out, decide_eq_true hle, Bool.true_and, Bool.eq_iff_iff, decide_eq_true_iff, decide_eq_true_iff]
        omega)
      clear e2
      go_wp2
      go_ret
      exact ⟨by rw [HF.out]; rfl, rfl⟩
theorem FS.fold_acc : ∀ (xs : List Int) (s : FS) (l : List EvP), xs.foldl FS.one (s, l) = ((s.feed xs).1, l ++ (s.feed xs).2)
  | [], s, l => by simp [FS.feed]
  | x :: t, s, l => by
    unfold FS.feed
    rw [List.foldl_cons, List.foldl_cons]
    by_cases h : s.closed = true
    · have e1 : FS.one (s, l) x = (s, l) := by unfold FS.one; rw [if_pos h]
      have e2 : FS.one (s, []) x = (s, []) := by unfold FS.one; rw [if_pos h]
      rw [e1, e2, FS.fold_acc t s l]
      rfl
    · have e1 : FS.one (s, l) x = ((s.step x).1, l ++ (s.step x).2) := by unfold FS.one; rw [if_neg h]
      have e2 : FS.one (s, []) x = ((s.step x).1, (s.step x).2) := by unfold FS.one; rw [if_neg h]; simp
      rw [e1, e2, FS.fold_acc t _ _, FS.fold_acc t _ (s.step x).2, List.append_assoc]
theorem FS.feed_append (s : FS) (xs ys : List Int) : s.feed (xs ++ ys) = (((s.feed xs).1.feed ys).1, (s.feed xs).2 ++ ((s.feed xs).1.feed ys).2) := by
  have h : s.feed (xs ++ ys) = ys.foldl FS.one (s.feed xs) := by unfold FS.feed; rw [List.foldl_append]
  rw [h]
  exact FS.fold_acc ys (s.feed xs).1 (s.feed xs).2
theorem FeedR.evs {w w' : World} {B g B' : Nat} {kb kb' : Option Nat} {s' : FS} {ps : List EvP} {L : List Ev} {v : Value} (h : FeedR w w' B g kb s' ps B' kb' L v) : ∃ A c, v = .slice A L.length c ∧ Evs w' w'.heap.size A L.length L ∧ L.map Ev.p = ps := by
  obtain ⟨h1, h2, h3, h4, _⟩ := h
  obtain ⟨A, c, rfl⟩ := own_form h2
  exact ⟨A, c, rfl, own_evs h2 (fun x hx => (h3 x hx).1.more h4.size.2), h1⟩
theorem OneX.out {Z : Option Addr → List Int → Prop} {s' : FS} {ps : List EvP} {w w' : World} {e : Ending} (h : OneX Z s' ps w e w') : ∃ (K' : Option Addr) (n' c' : Nat) (A' : Option Addr) (c2 : Nat) (L : List Ev), e = .returned (.tuple #[.agg (rfa s' K' n' c'), .slice A' L.length c2]) ∧ BT w' w'.heap.size K' n' s'.kept ∧ L.map Ev.p = ps ∧ Evs w' w'.heap.size A' L.length L ∧ Below w.heap.size w w' := by
  obtain ⟨K', n', c', A', c2, L, rfl, h1, _, _, h2, h3, h4, h5⟩ := h
  exact ⟨K', n', c', A', c2, L, rfl, h1, h2, own_evs h3 h4, h5⟩
theorem FrIs.low {w w' : World} {B g B0 : Nat} {kb : Option Nat} {s : FS} (h : FrIs w B g s kb) (R : Rest w w' (Pk g kb)) (h1 : B0 ≤ g) : Below B0 w w' :=
  R.to_below (by have := h.size; omega) (fun i hi e => by have h2 := h.size; rcases e with e | e; omega; have := (h.kb i e).1; omega)
def kaB : List Int := [255, 255, 255, 255, 255, 255, 255, 255, 255, 255, 255, 255, 255, 255, 255, 255, 0, 19, 4]
def o60 : O6 := ⟨false, false, false, false, false, false⟩
theorem ka_one {k : Nat} (h : k < 19) : (fs0 o60).feed (kaB.take (k + 1)) = ((((fs0 o60).feed (kaB.take k)).1.feed [nth kaB k]).1, ((fs0 o60).feed (kaB.take k)).2 ++ (((fs0 o60).feed (kaB.take k)).1.feed [nth kaB k]).2) := by
  rw [take_nth (show k < kaB.length from h), FS.feed_append]
theorem ka_end : ((fs0 o60).feed kaB).2.length = 1 ∧ ((fs0 o60).feed kaB).1.fr = 1 ∧ ((fs0 o60).feed kaB).1.kept = [] := by decide +kernel
theorem ka_le (k : Nat) : ((fs0 o60).feed (kaB.take k)).1.fr ≤ 19 ∧ ((fs0 o60).feed (kaB.take k)).2.length ≤ 19 := by
  have h := FS.feed_ok (fs0_ok o60) (kaB.take k) (fun x hx => by
    have := List.mem_of_mem_take hx
    simp [kaB] at this
    omega)
  have hl : (kaB.take k).length ≤ 19 := by rw [List.length_take]; exact Nat.min_le_right _ _
  have h0 : (fs0 o60).fr = 0 := rfl
  omega
end Go.Proofs.YtgahjchngmojlabDoor

/- frame: what the laws ask of a framer; Split; alive -/
namespace Go.Proofs.YtgahjchngmojlabDoor
open Go.RowKit

set_option maxRecDepth 100000 in
theorem held_st {w : World} {B g : Nat} {kb : Option Nat} {s : FS} (h : FrIs w B g s kb) : Calls Tryd.prog 17 #[.pointer (some ⟨g, 0, none⟩)] w fun e w' => e = .returned (.int .i64 s.kept.length) ∧ w = w' := by
  obtain ⟨K, c, want, o⟩ := h.form
  exact fheld_any g _ c K want s.o _ 0 s.closed s.fr w o
set_option maxRecDepth 100000 in
theorem closed_st {w : World} {B g : Nat} {kb : Option Nat} {s : FS} (h : FrIs w B g s kb) : Calls Tryd.prog 18 #[.pointer (some ⟨g, 0, none⟩)] w fun e w' => e = .returned (.bool s.closed) ∧ w = w' := by
  obtain ⟨K, c, want, o⟩ := h.form
  exact fclosed_any g _ c K want s.o _ 0 s.closed s.fr w o
set_option maxRecDepth 100000 in
theorem frames_st {w : World} {B g : Nat} {kb : Option Nat} {s : FS} (h : FrIs w B g s kb) : Calls Tryd.prog 19 #[.pointer (some ⟨g, 0, none⟩)] w fun e w' => e = .returned (.int .i64 s.fr) ∧ w = w' := by
  obtain ⟨K, c, want, o⟩ := h.form
  exact fframes_any g _ c K want s.o _ 0 s.closed s.fr w o
def FS.shut (s : FS) : FS := { s with kept := [], closed := true }
theorem FS.shut_ok {s : FS} (h : s.Ok) : s.shut.Ok := ⟨(fun _ h => by cases h), (fun h => by simp [FS.shut] at h), h.le, fun _ => rfl⟩
set_option maxRecDepth 100000 in
theorem close_st {w : World} {B g : Nat} {kb : Option Nat} {s : FS} (h : FrIs w B g s kb) (hc : s.closed = false) : Calls Tryd.prog 16 #[.pointer (some ⟨g, 0, none⟩)] w fun e w' => e = .returned (.bool true) ∧ FrIs w' w'.heap.size g s.shut none ∧ Rest w w' (fun i => i = g) := by
  obtain ⟨K, c, want, rfl, ow, hr, hw, hgB, hB, hrows, hgl, hok⟩ := h
  rw [hc] at ow
  refine (fclose_open g _ c K want s.o s.fr w ow).mono ?_
  rintro e w' ⟨rfl, ow', R⟩
  have R' : Rest w w' (Pu w g B) := R.mono (fun i h => .inl h)
  exact ⟨rfl, fr_mk0 (len := s.len) R' hrows hgl hgB hB ow' rfl rfl (FS.shut_ok hok), R⟩
set_option maxRecDepth 100000 in
theorem close_st2 {w : World} {B g : Nat} {kb : Option Nat} {s : FS} (h : FrIs w B g s kb) (hc : s.closed = true) : Calls Tryd.prog 16 #[.pointer (some ⟨g, 0, none⟩)] w fun e w' => e = .returned (.bool false) ∧ Below w.heap.size w w' := by
  obtain ⟨K, c, want, o⟩ := h.form
  rw [hc] at o
  exact fclose_again g _ c K want s.o 0 true s.fr w o
set_option maxRecDepth 100000 in
theorem set_st {w : World} {B g : Nat} {kb : Option Nat} {s : FS} (p : O6) (h : FrIs w B g s kb) : Calls Tryd.prog 15 #[.pointer (some ⟨g, 0, none⟩), .agg p.cs] w fun e w' => e = .returned (.tuple #[]) ∧ FrIs w' B g { s with o := p } kb ∧ Rest w w' (fun i => i = g) := by
  obtain ⟨K, c, want, rfl, ow, hr, hw, hgB, hB, hrows, hgl, hok⟩ := h
  refine (fset_any g _ c K want s.o p _ 0 s.closed s.fr w ow).mono ?_
  rintro e w' ⟨rfl, ow', R⟩
  exact ⟨rfl, ⟨K, c, want, rfl, ow', row_rest hr R (fun j hj e => (row_typed hr hj).1.ne ow.typed (Ne.symm fr_types.1) e), hw, hgB, Nat.le_trans hB R.size, hrows.rest R (fun e => by have e2 : 0 = g := e; omega), hgl, ⟨hok.rng, hok.open_, hok.le, hok.cl⟩⟩, R⟩
/-- A framer that keeps nothing: its base is wherever one likes. -/
def FrE (w : World) (g : Nat) (o : O6) : Prop := Own w g 76 (frc none 0 0 0 o 0 0 false 0) ∧ HRows w ∧ 0 < g
theorem FrE.below {w w' : World} {g : Nat} {o : O6} (h : FrE w g o) (k : Below w.heap.size w w') : FrE w' g o := ⟨h.1.step k, h.2.1.below k, h.2.2⟩
theorem FrE.is {w : World} {g : Nat} {o : O6} (h : FrE w g o) : FrIs w w.heap.size g (fs0 o) none :=
  ⟨none, 0, 0, rfl, h.1, World.ownsRow_nil _ _ _ _, (fun h => by simp [fs0] at h), h.1.lt, Nat.le_refl _, h.2.1, h.2.2, fs0_ok o⟩
set_option maxRecDepth 100000 in
theorem fnewE_any (o : O6) (w : World) (ht : HRows w) : Calls Tryd.prog 8 #[.agg o.cs] w fun e w' => e = .returned (.pointer (some ⟨w.heap.size + 1, 0, none⟩)) ∧ FrE w' (w.heap.size + 1) o ∧ Below w.heap.size w w' := by
  obtain ⟨a0, a1, a2, a3, a4, a5⟩ := o
  simp only [O6.cs]
  have o1 := Own.new (w.alloc (.cells #[.bool a0, .bool a1, .bool a2, .bool a3, .bool a4, .bool a5] 23)) 76 #[.slice none 0 0, .int .i64 0, .bool a0, .bool a1, .bool a2, .bool a3, .bool a4, .bool a5, .int .u32 0, .int .i32 0, .int .u32 0, .bool false, .int .i64 0]
  have hs1 : (w.alloc (.cells #[.bool a0, .bool a1, .bool a2, .bool a3, .bool a4, .bool a5] 23)).heap.size = w.heap.size + 1 := by simp
  have hb := bl_alloc (bl_alloc (bl_refl w) (.cells #[.bool a0, .bool a1, .bool a2, .bool a3, .bool a4, .bool a5] 23)) (.cells #[.slice none 0 0, .int .i64 0, .bool a0, .bool a1, .bool a2, .bool a3, .bool a4, .bool a5, .int .u32 0, .int .i32 0, .int .u32 0, .bool false, .int .i64 0] 76)
  rw [hs1] at o1
  have hgl : 0 < w.heap.size := ht.2
  go_enter Tryd.func8, Tryd.ntmps8
  go_wp2
  go_ret
  exact ⟨rfl, ⟨o1, ht.below hb, by omega⟩, hb⟩
set_option maxRecDepth 100000 in
theorem fsplit_any (o : O6) (A : Option Addr) (n c : Nat) (xs : List Int) (w : World) (ht : HRows w) (hx : Bytes w w.heap.size A n xs) (hn : n ≤ 100000) :
    Calls Tryd.prog 21 #[.agg o.cs, .slice A n c] w fun e w' => ∃ (A' : Option Addr) (c' : Nat) (L : List Ev), e = .returned (.slice A' L.length c') ∧ Evs w' w'.heap.size A' L.length L ∧ L.map Ev.p = ((fs0 o).feed xs).2 ∧ Below w.heap.size w w' := by
  have hb0 := bl_alloc (bl_refl w) (.cells o.cs 23)
  have ht0 := ht.below hb0
  have HO : Hid (∀ W, HRows W → Calls Tryd.prog 8 #[.agg o.cs] W fun e w' => e = .returned (.pointer (some ⟨W.heap.size + 1, 0, none⟩)) ∧ FrE w' (W.heap.size + 1) o ∧ Below W.heap.size W w') := Lib.hid (fun W h => fnewE_any o W h)
  have HF : Hid (∀ W g B, FrIs W B g (fs0 o) none → Bytes W B A n xs → Calls Tryd.prog 14 #[.pointer (some ⟨g, 0, none⟩), .slice A n c] W fun e w' => ∃ (v : Value) (L : List Ev) (B' : Nat) (kb' : Option Nat), e = .returned v ∧ FeedR W w' B g none ((fs0 o).feed xs).1 ((fs0 o).feed xs).2 B' kb' L v) := Lib.hid (fun W g B h1 h2 => ffeed_any g B n c none (fs0 o) A xs W h1 h2 hn (by simp [fs0]))
  generalize ((fs0 o).feed xs).1 = s1 at *
  generalize ((fs0 o).feed xs).2 = ps at *
  obtain ⟨a0, a1, a2, a3, a4, a5⟩ := o
  simp only [O6.cs] at hb0 ht0 HO ⊢
  go_enter Tryd.func21, Tryd.ntmps21
  go_wp2_with fail
  refine (HO.out _ ht0).mono ?_
  rintro e w1 ⟨rfl, hE, hb1⟩
  have hb2 := bl_trans hb0 hb1
  have hz : (w.alloc (.cells #[.bool a0, .bool a1, .bool a2, .bool a3, .bool a4, .bool a5] 23)).heap.size = w.heap.size + 1 := by simp
  rw [hz] at hE ⊢
  have hx1 := (hx.below hb2).more hb2.size
  clear hb0 hb1 ht0 HO hz
  go_wp2_with fail
  refine (HF.out _ _ _ hE.is hx1).mono ?_
  rintro e w2 ⟨v, L, B', kb', rfl, hR⟩
  obtain ⟨A', c', rfl, hev, hps⟩ := hR.evs
  have hfin : Below w.heap.size w w2 := hb2.trans (hR.2.2.2.2.2.1.to_below hb2.size (fun i hi e => by
    rcases e with e | e
    · omega
    · cases e))
  clear hR
  go_wp2
  go_ret
  exact ⟨_, _, L, rfl, hev, hps, hfin⟩
set_option maxRecDepth 100000 in
set_option maxHeartbeats 3200000 in
theorem alive23_any (w : World) (ht : HRows w) : Calls Tryd.prog 10 #[] w fun e w' => e = .returned (.bool true) ∧ Below w.heap.size w w' := by
  have HNw : Hid (∀ W, HRows W → Calls Tryd.prog 8 #[.agg #[.bool false, .bool false, .bool false, .bool false, .bool false, .bool false]] W fun e w' => e = .returned (.pointer (some ⟨W.heap.size + 1, 0, none⟩)) ∧ FrE w' (W.heap.size + 1) o60 ∧ Below W.heap.size W w') := Lib.hid (fun W h => fnewE_any o60 W h)
  go_enter Tryd.func10, Tryd.ntmps10
  go_wp2_with fail
  refine (wrap_alive _ ht).mono ?_
  rintro e w1 ⟨gb, rfl, ho, hb1⟩
  have hx1 : Bytes w1 w1.heap.size (some ⟨gb, 0, none⟩) 19 kaB := Bytes.of_owned (xs := kaB) ho (fun x hx => by simp [kaB] at hx; omega) ho.lt
  have ht1 := ht.below hb1
  clear ho
  go_wp2_with fail
  refine (HNw.out _ ht1).mono ?_
  rintro e w2 ⟨rfl, hE, hb2⟩
  have hx2 := (hx1.below hb2)
  have hlt := hE.1.lt
  obtain ⟨g, hg⟩ : ∃ z, z = w1.heap.size + 1 := ⟨_, rfl⟩
  rw [← hg] at hE hlt ⊢
  have hgw := Lib.hid (show w.heap.size ≤ g by have := hb1.size; omega)
  have hg1 := Lib.hid (show w1.heap.size < g by omega)
  have hb3 := bl_trans hb1 hb2
  have hI0 : FrIs w2 w2.heap.size g ((fs0 o60).feed (kaB.take 0)).1 none := hE.is
  have hz2 := Lib.hid (show w1.heap.size ≤ w2.heap.size from hb2.size)
  clear hg hx1 ht1 hE HNw hb1 hb2
  go_wp2_with fail
  go_loopw [4, 6, 16] (fun nv _ i wr => ∃ (k Br : Nat) (kb : Option Nat), k ≤ 19 ∧ i = .int .i64 k ∧ nv = .int .i64 (((fs0 o60).feed (kaB.take k)).2.length : Nat) ∧ FrIs wr Br g ((fs0 o60).feed (kaB.take k)).1 kb ∧ w1.heap.size ≤ Br ∧ Bytes wr w1.heap.size (some ⟨gb, 0, none⟩) 19 kaB ∧ Below w.heap.size w wr) (fun _ _ i _ => 19 - (intOf i).toNat)
  case atStart => exact ⟨0, w2.heap.size, none, by omega, rfl, rfl, hI0, hz2.out, hx2, hb3⟩
  case round =>
    obtain ⟨k, Br, kb, hk, rfl, rfl, hI, hBr, hx, hb⟩ := hrel
    clear hI0 hx2 hb3
    have hle := ka_le k
    by_cases hlt : k < 19
    · obtain ⟨b, o, he, hbB, hc, h0, h1⟩ := hx.at_ hlt
      injection he with he
      injection he with he1 he2 _
      subst he1 he2
      rw [Nat.zero_add] at hc
      have HK := Lib.hid (ka_one hlt)
      have hIa := hI.below (bl_alloc (bl_refl wr) (.cells #[.int .u8 (nth kaB k)] 5))
      have hja := (Own.new wr 5 #[.int .u8 (nth kaB k)]).cell (i := 0) rfl
      have hF := Lib.hid (ffeed_one g Br wr.heap.size 1 kb _ (nth kaB k) _ hIa hja (by simp) ⟨h0, h1⟩ (by omega))
      have hxa := hx.below (show Below w1.heap.size wr (wr.alloc (.cells #[.int .u8 (nth kaB k)] 5)) from (Below.refl _ _).alloc (by have := hI.size; omega) _)
      have hba := bl_alloc hb (.cells #[.int .u8 (nth kaB k)] 5)
      have HLn := Lib.hid (show (((fs0 o60).feed (kaB.take k)).1.feed [nth kaB k]).2.length ≤ 19 by
        have h3 := (ka_le (k + 1)).2
        rw [HK.out] at h3
        dsimp only at h3
        rw [List.length_append] at h3
        omega)
      generalize nth kaB k = x at *
      generalize (fs0 o60).feed (kaB.take k) = p at *
      obtain ⟨s1, ps⟩ := p
      dsimp only at hI hIa hF HK hle HLn
      have HK2 := Lib.hid (show ((fs0 o60).feed (kaB.take (k + 1))).2.length = ps.length + (s1.feed [x]).2.length by rw [HK.out, List.length_append])
      clear hI hx hb hja
      go_wp2_with fail
      refine hF.out.mono ?_
      rintro e w4 ⟨v, L, B', kb', rfl, hR⟩
      obtain ⟨A', c', rfl, hev, hps⟩ := hR.evs
      have hR5 := hR.2.2.2.2.2.1
      have hI4 := hR.2.2.2.1
      have hBB := hR.2.2.2.2.1
      have hL1 := Lib.hid (show L.length = (s1.feed [x]).2.length by rw [← hps, List.length_map])
      have hL2 := HLn.out
      rw [← hL1.out] at hL2
      have hx4 : Bytes w4 w1.heap.size (some ⟨gb, 0, none⟩) 19 kaB := hxa.below (hR5.to_below (by have := hIa.size; omega) (fun i hi e => by have h1 := hg1.out; have h2 := hIa.size; rcases e with e | e; omega; have := (hIa.kb i e).1; omega))
      have hb4 : Below w.heap.size w w4 := hba.trans (hR5.to_below (by have := hba.size; omega) (fun i hi e => by have h1 := hgw.out; have h2 := hIa.size; rcases e with e | e; omega; have := (hIa.kb i e).1; omega))
      clear hR hev hps hR5 hF hxa hba
      clear hIa
      go_wp2
      go_roundw
      case rel => exact ⟨k + 1, B', kb', by omega, by go_num, by rw [HK2.out, ← hL1.out]; go_num, by rw [HK.out]; exact hI4, by omega, hx4, hb4⟩
      case measure => simp [intOf]; omega
    · obtain rfl : k = 19 := by omega
      have he := ka_end
      have hek : kaB.take 19 = kaB := rfl
      rw [hek] at hI ⊢
      have HFr := Lib.hid (frames_st hI)
      have HHd := Lib.hid (held_st hI)
      rw [he.2.1] at HFr
      rw [he.2.2] at HHd
      rw [he.1]
      have hg2 := hI.size
      clear he hek hle hI hx
      go_wp2_with (first | (go_at_call 19; refine HFr.out.mono ?_; rintro e w' ⟨rfl, rfl⟩) | (go_at_call 17; refine HHd.out.mono ?_; rintro e w' ⟨rfl, rfl⟩))
      go_ret
      exact ⟨rfl, hb⟩
end Go.Proofs.YtgahjchngmojlabDoor

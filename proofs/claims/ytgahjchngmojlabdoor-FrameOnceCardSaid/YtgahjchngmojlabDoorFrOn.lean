/- FrameOnce: what the events of a stream are; the walk -/
import Derived.Test.YtgahjchngmojlabDoorFrMd
import Derived.Deep.Cut
namespace Go.Proofs.YtgahjchngmojlabDoor
open Go.RowKit Go.Sort

def vz : VP := (0, 0, 0, 0, [])
def flE (ps : List EvP) : List Int := ps.flatMap Prod.fst
/-- The frames are the beginning of the stream, and at most the last event is a verdict. -/
def FInv (xs : List Int) (p : FS × List EvP) : Prop :=
  (p.1.closed = false → (∀ e ∈ p.2, e.2 = vz ∧ 19 ≤ e.1.length) ∧ flE p.2 ++ p.1.kept = xs) ∧
  (p.1.closed = true → p.1.kept = [] ∧ ∃ l v, p.2 = l ++ [([], v)] ∧ v.1 ≠ 0 ∧ (∀ e ∈ l, e.2 = vz ∧ 19 ≤ e.1.length) ∧ ∃ t, flE l ++ t = xs)
theorem flE_append (a b : List EvP) : flE (a ++ b) = flE a ++ flE b := by simp [flE]
theorem finv_tail {s : FS} {l : List EvP} {ys : List Int} (hc : s.closed = false) (h1 : ∀ e ∈ l, e.2 = vz ∧ 19 ≤ e.1.length) (h2 : flE l ++ s.kept = ys) : FInv ys (s.tail.1, l ++ s.tail.2) := by
  by_cases h : 19 ≤ s.kept.length ∧ (s.kept.length : Int) = s.len
  · rw [FS.tail_yes h.1 h.2]
    refine ⟨fun _ => ⟨fun e he => ?_, ?_⟩, fun e => by
      have e' : s.closed = true := e
      rw [hc] at e'
      cases e'⟩
    · rcases List.mem_append.1 he with he | he
      · exact h1 e he
      · rw [List.mem_singleton] at he
        rw [he]; exact ⟨rfl, h.1⟩
    · show flE (l ++ [(s.kept, (0, 0, 0, 0, []))]) ++ [] = ys
      rw [flE_append, List.append_nil, ← h2]
      simp [flE]
  · rw [FS.tail_no (by omega)]
    refine ⟨fun _ => ⟨fun e he => h1 e (by simpa using he), by simpa using h2⟩, fun e => by
      have e' : s.closed = true := e
      rw [hc] at e'
      cases e'⟩
theorem finv_snoc {xs : List Int} {p : FS × List EvP} (h : FInv xs p) (x : Int) : FInv (xs ++ [x]) (FS.one p x) := by
  obtain ⟨s, l⟩ := p
  cases hc : s.closed with
  | true =>
    have e : FS.one (s, l) x = (s, l) := by unfold FS.one; rw [if_pos hc]
    rw [e]
    obtain ⟨hk, l', v, h1, h2, h3, t, h4⟩ := h.2 hc
    exact ⟨(fun e => by
      have e' : s.closed = false := e
      rw [hc] at e'
      cases e'), fun _ => ⟨hk, l', v, h1, h2, h3, t ++ [x], by rw [← List.append_assoc, h4]⟩⟩
  | false =>
    have e : FS.one (s, l) x = ((s.step x).1, l ++ (s.step x).2) := by unfold FS.one; rw [if_neg (by rw [hc]; decide)]
    rw [e]
    obtain ⟨h1, h2⟩ := h.1 hc
    have h2' : flE l ++ s.kept = xs := h2
    have h3 : flE l ++ (s.kept ++ [x]) = xs ++ [x] := by rw [← List.append_assoc, h2']
    by_cases hlk : s.looks x
    · by_cases hk : (s.hr x).k1 = 0
      · rw [FS.step_good hlk hk]
        exact finv_tail (s := { s with kept := s.kept ++ [x], len := (s.hr x).N }) hc h1 h3
      · rw [FS.step_bad hlk hk]
        exact ⟨(fun e => by cases e), fun _ => ⟨rfl, l, (s.hr x).vp, rfl, hk, h1, s.kept ++ [x], h3⟩⟩
    · rw [FS.step_plain hlk]
      exact finv_tail (s := { s with kept := s.kept ++ [x] }) hc h1 h3
theorem finv_feed (o : O6) (xs : List Int) : FInv xs ((fs0 o).feed xs) := by
  suffices H : ∀ n, n ≤ xs.length → FInv (xs.take n) ((fs0 o).feed (xs.take n)) by
    have := H xs.length (Nat.le_refl _)
    rwa [List.take_length] at this
  intro n
  induction n with
  | zero => intro _; exact ⟨fun _ => ⟨(fun _ h => by cases h), rfl⟩, fun h => by cases h⟩
  | succ n ih =>
    intro hn
    rw [take_nth (by omega), FS.feed_snoc]
    exact finv_snoc (ih (by omega)) _
def flN (ps : List EvP) (i : Nat) : Nat := (flE (ps.take i)).length
theorem flN_succ {ps : List EvP} {i : Nat} {e : EvP} (h : ps[i]? = some e) : flN ps (i + 1) = flN ps i + e.1.length := by
  unfold flN
  rw [List.take_add_one, h, flE_append, List.length_append]
  simp [flE]
theorem part_at {ps : List EvP} {i : Nat} {e : EvP} {t xs : List Int} (h : ps[i]? = some e) (hx : flE ps ++ t = xs) : flN ps i + e.1.length ≤ xs.length ∧ (xs.drop (flN ps i)).take e.1.length = e.1 := by
  have hi : i < ps.length := (List.getElem?_eq_some_iff.1 h).1
  have hd : ps = ps.take i ++ (e :: ps.drop (i + 1)) := by
    rw [← (List.getElem?_eq_some_iff.1 h).2, ← List.drop_eq_getElem_cons hi, List.take_append_drop]
  have hxs : xs = flE (ps.take i) ++ (e.1 ++ (flE (ps.drop (i + 1)) ++ t)) := by
    rw [← hx]
    conv => lhs; rw [hd, flE_append]
    simp [flE]
  rw [hxs]
  unfold flN
  refine ⟨by simp only [List.length_append]; omega, ?_⟩
  rw [List.drop_left, List.take_left]
theorem finv_at {xs : List Int} {p : FS × List EvP} (h : FInv xs p) {i : Nat} {e : EvP} (hi : p.2[i]? = some e) :
    (e.2.1 ≠ 0 → p.1.closed = true ∧ p.1.kept = [] ∧ i + 1 = p.2.length) ∧ (e.2.1 = 0 → flN p.2 i + e.1.length ≤ xs.length ∧ (xs.drop (flN p.2 i)).take e.1.length = e.1 ∧ 19 ≤ e.1.length) := by
  cases hc : p.1.closed with
  | false =>
    obtain ⟨h1, h2⟩ := h.1 hc
    have hv := h1 e (List.mem_of_getElem? hi)
    refine ⟨fun hne => ?_, fun _ => ⟨(part_at hi h2).1, (part_at hi h2).2, hv.2⟩⟩
    rw [hv.1] at hne
    exact absurd rfl hne
  | true =>
    obtain ⟨hk, l, v, h1, h2, h3, t, h4⟩ := h.2 hc
    have hlen : p.2.length = l.length + 1 := by rw [h1]; simp
    have hil : i < p.2.length := (List.getElem?_eq_some_iff.1 hi).1
    by_cases hlt : i < l.length
    · have hi' : l[i]? = some e := by rw [h1, List.getElem?_append_left hlt] at hi; exact hi
      have hv := h3 e (List.mem_of_getElem? hi')
      have hf : flN p.2 i = flN l i := by unfold flN; rw [h1, List.take_append_of_le_length (by omega)]
      refine ⟨fun hne => ?_, fun _ => by rw [hf]; exact ⟨(part_at hi' h4).1, (part_at hi' h4).2, hv.2⟩⟩
      rw [hv.1] at hne
      exact absurd rfl hne
    · have hil2 : i = l.length := by omega
      have he : e = ([], v) := by
        rw [h1, List.getElem?_append_right (by omega), hil2, Nat.sub_self] at hi
        simpa using hi.symm
      refine ⟨fun _ => ⟨rfl, hk, by omega⟩, fun hz => ?_⟩
      rw [he] at hz
      exact absurd hz h2
theorem finv_end {xs : List Int} {p : FS × List EvP} (h : FInv xs p) (hz : ∀ (i : Nat) (e : EvP), p.2[i]? = some e → e.2.1 = 0) : p.1.closed = false ∧ flN p.2 p.2.length + p.1.kept.length = xs.length := by
  cases hc : p.1.closed with
  | false =>
    obtain ⟨_, h2⟩ := h.1 hc
    refine ⟨rfl, ?_⟩
    unfold flN
    rw [List.take_length, ← h2, List.length_append]
  | true =>
    obtain ⟨hk, l, v, h1, h2, _⟩ := h.2 hc
    have := hz l.length ([], v) (by rw [h1]; simp)
    exact absurd this h2
theorem parts_twoF {W : World} {j : Nat} {T : TypeId} {A1 A2 : Option Addr} {n1 c1 n2 c2 : Nat} {xs ys : List Int} (ho : Own W j T #[.slice A1 n1 c1, .slice A2 n2 c2]) (h1 : Bytes W W.heap.size A1 n1 xs) (h2 : Bytes W W.heap.size A2 n2 ys) :
    Parts W W.heap.size (some ⟨j, 0, none⟩) 2 [⟨A1, n1, c1, xs⟩, ⟨A2, n2, c2, ys⟩] := by
  refine ⟨rfl, fun p hp => ?_, Shows.of_owned ho ho.lt⟩
  simp only [List.mem_cons, List.not_mem_nil, or_false] at hp
  rcases hp with rfl | rfl
  · exact h1
  · exact h2
set_option maxRecDepth 100000 in
set_option maxHeartbeats 12800000 in
theorem fonce_main (a0 a1 a2 a3 a4 a5 : Bool) (A A2 : Option Addr) (n c n2 c2 : Nat) (xs ys : List Int) (w : World) (ht : HRows w) (hx : Bytes w w.heap.size A n xs) (hcap : n ≤ c) (hcm : c ≤ maxLen) (hy : Bytes w w.heap.size A2 n2 ys) (hm2 : n2 ≤ maxLen) :
    Calls Tryd.prog 5 #[.agg #[.bool a0, .bool a1, .bool a2, .bool a3, .bool a4, .bool a5], .slice A n c, .slice A2 n2 c2] w fun e w' => e = .returned (.bool true) ∧ Below w.heap.size w w' := by
  have HN := Lib.hid hx.1
  have HX := Lib.hid hx
  have HY := Lib.hid hy
  unfold maxLen at hcm
  have hb0 := bl_alloc (bl_alloc (bl_refl w) (.cells #[.bool a0, .bool a1, .bool a2, .bool a3, .bool a4, .bool a5] 23)) (.cells #[.slice A n c, .slice A2 n2 c2] 26)
  have oo0 := (Own.new w 23 #[.bool a0, .bool a1, .bool a2, .bool a3, .bool a4, .bool a5]).alloc (.cells #[.slice A n c, .slice A2 n2 c2] 26)
  have op0 := Own.new (w.alloc (.cells #[.bool a0, .bool a1, .bool a2, .bool a3, .bool a4, .bool a5] 23)) 26 #[.slice A n c, .slice A2 n2 c2]
  rw [show (w.alloc (.cells #[.bool a0, .bool a1, .bool a2, .bool a3, .bool a4, .bool a5] 23)).heap.size = w.heap.size + 1 by simp] at op0
  have ht0 := ht.below hb0
  have hpt := parts_twoF op0 ((hx.below hb0).more hb0.size) ((hy.below hb0).more hb0.size)
  have HFw := Lib.hid (few23_any _ 2 2 _ _ _ hpt (by unfold maxLen; omega) (fun p hp => by
    simp only [List.mem_cons, List.not_mem_nil, or_false] at hp
    rcases hp with rfl | rfl
    · unfold maxLen; dsimp only; omega
    · exact hm2))
  have HNw := Lib.hid (fnewE_any ⟨a0, a1, a2, a3, a4, a5⟩ _ ht0)
  have HOO := Lib.hid oo0
  have HB0 := Lib.hid hb0
  have HT0 := Lib.hid ht0
  obtain ⟨q0, q1, q2, q3, q4, q5⟩ : _ ∧ _ ∧ _ ∧ _ ∧ _ ∧ _ := ⟨oo0.cell (i := 0) rfl, oo0.cell (i := 1) rfl, oo0.cell (i := 2) rfl, oo0.cell (i := 3) rfl, oo0.cell (i := 4) rfl, oo0.cell (i := 5) rfl⟩
  clear hx hy ht ht0 hpt op0 oo0 hb0
  go_enter Tryd.func5, Tryd.ntmps5
  cases hf : fewP [⟨A, n, c, xs⟩, ⟨A2, n2, c2, ys⟩] with
  | false =>
    rw [hf] at HFw
    go_wp2_with fail
    refine HFw.out.mono ?_
    rintro e w' ⟨rfl, rfl⟩
    go_wp2_with fail
    refine (alive23_any _ HT0.out).mono ?_
    rintro e w3 ⟨rfl, hb3⟩
    go_wp2
    go_ret
    exact ⟨rfl, bl_trans HB0.out hb3⟩
  | true =>
    rw [hf] at HFw
    unfold fewP flat at hf
    simp only [List.flatMap_cons, List.flatMap_nil, List.append_nil, List.length_append, Bool.and_eq_true, decide_eq_true_eq] at hf
    have hn1 : n ≤ 1500 := by have := HN.out; omega
    have hn2 : n2 ≤ 1500 := by have := HY.out.1; omega
    clear hf
    go_wp2_with fail
    refine HFw.out.mono ?_
    rintro e w' ⟨rfl, rfl⟩
    go_wp2_with fail
    refine HNw.out.mono ?_
    rintro e w1 ⟨rfl, hE, hb1⟩
    rw [show ((w.alloc (.cells #[.bool a0, .bool a1, .bool a2, .bool a3, .bool a4, .bool a5] 23)).alloc (.cells #[.slice A n c, .slice A2 n2 c2] 26)).heap.size = w.heap.size + 1 + 1 by simp] at hE ⊢
    obtain ⟨g, hg⟩ : ∃ z, z = w.heap.size + 1 + 1 + 1 := ⟨_, rfl⟩
    rw [← hg] at hE ⊢
    have Hgw := Lib.hid (show w.heap.size + 1 < g by omega)
    have hb2 := bl_trans HB0.out hb1
    have oo1 := HOO.out.step hb1
    have hf1 := hE.is
    have hx1 := (HX.out.below hb2).more hb2.size
    have hlt := hE.1.lt
    have HFd := Lib.hid (ffeed_any g _ n c (fs0 ⟨a0, a1, a2, a3, a4, a5⟩) A xs w1 hf1 hx1 (by omega) (Nat.zero_le _))
    have HRF : Hid (∀ W, Bytes W W.heap.size A n xs → Calls Tryd.prog 11 #[.agg #[.bool a0, .bool a1, .bool a2, .bool a3, .bool a4, .bool a5, .slice none 0 0, .int .i64 0, .bool false, .int .i64 0], .slice A n c] W fun e w' => OneX ((fs0 ⟨a0, a1, a2, a3, a4, a5⟩).feed xs).1 ((fs0 ⟨a0, a1, a2, a3, a4, a5⟩).feed xs).2 W e w') :=
      Lib.hid (fun W h1 => rfeed_any (fs0 ⟨a0, a1, a2, a3, a4, a5⟩) none 0 0 A n c xs W (BT.nil _ _ _) h1 (fs0_ok _) (by omega) (Nat.zero_le _))
    have HInv := Lib.hid (finv_feed ⟨a0, a1, a2, a3, a4, a5⟩ xs)
    have hfo := FS.feed_ok (fs0_ok ⟨a0, a1, a2, a3, a4, a5⟩) xs HX.out.2.1
    have HFr := Lib.hid (show ((fs0 ⟨a0, a1, a2, a3, a4, a5⟩).feed xs).1.fr ≤ 1500 ∧ ((fs0 ⟨a0, a1, a2, a3, a4, a5⟩).feed xs).2.length ≤ n from by
      have h3 : (fs0 ⟨a0, a1, a2, a3, a4, a5⟩).fr = 0 := rfl
      have := HN.out
      omega)
    generalize (fs0 ⟨a0, a1, a2, a3, a4, a5⟩).feed xs = pE at *
    obtain ⟨sE, qE⟩ := pE
    dsimp only at HFd HRF HFr
    clear hfo hE hb1 hg hx1 q0 q1 q2 q3 q4 q5 HFw HNw HOO HT0
    go_wp2_with fail
    refine HFd.out.mono ?_
    rintro e w4 ⟨v, L, B', rfl, hR⟩
    obtain ⟨Ag, cg, rfl, hEg, hLg⟩ := hR.evs
    have hf4 := hR.2.2.2.1
    have hl4 : Below w.heap.size w w4 := hb2.trans (hR.2.2.2.2.2.to_below hb2.size (fun i hi e => by
      have h1 := Hgw.out
      have h2 := hb2.size
      rcases e with e | e
      · omega
      · have := e.1
        omega))
    have oo4 := Own.below oo1 (hR.2.2.2.2.2.to_below (B := w.heap.size + 1) (by have := oo1.lt; omega) (fun i hi e => by
      have h1 := Hgw.out
      have h2 := oo1.lt
      rcases e with e | e
      · omega
      · have := e.1
        omega)) (by omega)
    obtain ⟨q0, q1, q2, q3, q4, q5⟩ : _ ∧ _ ∧ _ ∧ _ ∧ _ ∧ _ := ⟨oo4.cell (i := 0) rfl, oo4.cell (i := 1) rfl, oo4.cell (i := 2) rfl, oo4.cell (i := 3) rfl, oo4.cell (i := 4) rfl, oo4.cell (i := 5) rfl⟩
    have hR4 := Lib.hid (HRF.out w4 ((HX.out.below hl4).more hl4.size))
    clear hR HFd HRF hf1 hb2 oo1 oo4
    go_wp2_with fail
    refine hR4.out.mono ?_
    rintro e w6 hone
    obtain ⟨K', n', c', A', c3, Lw, rfl, hbt, hLw, hEw, hb6⟩ := hone.out
    simp only [rfa]
    have hbx := bl_alloc (bl_refl w6) (.cells #[.bool sE.o.a0, .bool sE.o.a1, .bool sE.o.a2, .bool sE.o.a3, .bool sE.o.a4, .bool sE.o.a5, .slice K' n' c', .int .i64 sE.len, .bool sE.closed, .int .i64 sE.fr] 34)
    have hb7 := bl_trans hb6 hbx
    have hf7 := hf4.below hb7
    have hE7 := hEg.below hb7
    have hEw7 := hEw.below hbx
    have hl7 := bl_trans hl4 hb7
    have hLl : L.length ≤ 1500 := by have h1 := congrArg List.length hLg; rw [List.length_map] at h1; have := HFr.out.2; omega
    have hLwl : Lw.length ≤ 1500 := by have h1 := congrArg List.length hLw; rw [List.length_map] at h1; have := HFr.out.2; omega
    clear hone hbt hEw hbx hb6 hb7 hf4 hEg hl4 q0 q1 q2 q3 q4 q5 hR4
    go_wp2_with fail
    refine (back_any Ag _ cg L _ hE7 (by omega)).mono ?_
    rintro e w8 ⟨Ab, cb, rfl, heb, hb8⟩
    have hf8 := hf7.below hb8
    have hEw8 := hEw7.below hb8
    have hl8 := bl_trans hl7 hb8
    have hpp : L.map Ev.p = Lw.map Ev.p := by rw [hLg, hLw]
    have hSm := Lib.hid (rsame23_any Ab A' _ _ cb c3 L Lw w8 heb hEw8 hpp (by omega))
    have HLw := Lib.hid hLw
    clear hE7 hEw7 hf7 hl7 hb8 heb hpp hLg hLw
    go_wp2_with fail
    refine hSm.out.mono ?_
    rintro e w9 ⟨rfl, hb9⟩
    have hf9 := hf8.below hb9
    have hEw9 := hEw8.below hb9
    have hl9 := bl_trans hl8 hb9
    clear hf8 hEw8 hl8 hb9 hSm
    have HEw := Lib.hid hEw9
    have HF9 := Lib.hid hf9
    generalize hlw : Lw.length = lw at *
    have HLwn := Lib.hid hlw
    clear hEw9 hf9 hlw
    go_wp2_with fail
    go_loopw [11, 12, 13, 41] (fun nv _ _ i wr => ∃ k : Nat, k ≤ lw ∧ i = .int .i64 k ∧ nv = .int .i64 (flN qE k : Nat) ∧ Hid (∀ (j : Nat) (e : EvP), j < k → qE[j]? = some e → e.2.1 = 0) ∧ flN qE k ≤ n ∧ Below w9.heap.size w9 wr) (fun _ _ _ i _ => lw - (intOf i).toNat)
    case atStart => exact ⟨0, Nat.zero_le _, rfl, rfl, Lib.hid (fun j e h => absurd h (Nat.not_lt_zero j)), by simp [flN, flE], bl_refl _⟩
    case round =>
      obtain ⟨k, hk, rfl, rfl, hz, hfn, hb⟩ := hrel
      by_cases hlt : k < lw
      · obtain ⟨b, o, rfl, hbB, hok, hrg⟩ := (HEw.out.below hb).at_ hlt
        have hke : qE[k]? = some (nthE Lw k).p := by
          rw [← HLw.out, List.getElem?_map, nthE_some (by have := HLwn.out; omega)]
          rfl
        have hat := finv_at HInv.out hke
        have hsu := Lib.hid (flN_succ hke)
        have hql : qE.length = lw := by rw [← HLw.out, List.length_map, HLwn.out]
        have HKE := Lib.hid hke
        clear hke
        generalize nthE Lw k = E at *
        obtain ⟨EA, En, Ec, Ex, E1, E2, E3, ED, Em, Ee, Ed, E5⟩ := E
        obtain ⟨d0, d1, d2, d3, d4, d5⟩ := range6 hrg
        dsimp only at d0 d1 d2 d3 d4 d5
        obtain ⟨hf0, _, _⟩ := hok
        dsimp only at hf0
        have hbX := bl_alloc (bl_refl wr) (.cells #[.slice EA En Ec, .int .i64 E1, .int .i64 E2, .int .i64 E3, .slice ED Em Ee, .int .i64 E5] 51)
        have hbY := bl_trans hb hbX
        have HEn := Lib.hid hf0.1.1
        by_cases hk1 : E1 = 0
        · have p0 : (E1 != 0) = false := by simp [hk1]
          obtain ⟨hle, hsl, h19⟩ := hat.2 hk1
          have hle2 : flN qE k + En ≤ n := by have := HN.out; have := HEn.out; have h2 : flN qE k + Ex.length ≤ xs.length := hle; omega
          have HZ2 := Lib.hid (show ∀ (j : Nat) (e : EvP), j < k + 1 → qE[j]? = some e → e.2.1 = 0 from fun j e hj he => by
            by_cases h : j < k
            · exact hz.out j e h he
            · obtain rfl : j = k := by omega
              rw [HKE.out] at he
              cases he
              exact hk1)
          have HSL := Lib.hid (show (xs.drop (flN qE k)).take En = Ex by rw [HEn.out]; exact hsl)
          have HSU := Lib.hid (show flN qE (k + 1) = flN qE k + En from hsu.out.trans (by show flN qE k + Ex.length = flN qE k + En; rw [HEn.out]))
          have hle3 := Lib.hid h19
          clear hk1 hat hle hsl h19 hsu
          generalize flN qE k = N at *
          have hp1 : decide ((n : Int) < (N : Int) + (En : Int)) = false := by rw [decide_eq_false_iff_not]; omega
          have h19' : 19 ≤ En := by have h2 : 19 ≤ Ex.length := hle3.out; have := HEn.out; omega
          have hn0 : 0 < n := by omega
          have hw9 : Below w.heap.size w _ := bl_trans hl9 hbY
          obtain ⟨ba, oa, rfl, hba, _⟩ := HX.out.at_ hn0
          have hcN : ¬ c = N := by omega
          have hcN2 : ¬ (c : Int) = (N : Int) := by omega
          have z0 : (0 : Int) ≤ (N : Int) := by omega
          have z1 : (N : Int) ≤ (N : Int) + (En : Int) := by omega
          have z2 : (N : Int) + (En : Int) ≤ (c : Int) := by omega
          have z3 : (0 : Int) ≤ (N : Int) + (En : Int) := by omega
          have hwr : IntKind.i64.wrap ((N : Int) + (En : Int)) = (N : Int) + (En : Int) := by rw [IntKind.wrap_i64]; omega
          have oe := Own.new wr 51 #[.slice EA En Ec, .int .i64 E1, .int .i64 E2, .int .i64 E3, .slice ED Em Ee, .int .i64 E5]
          have HCt := Lib.hid (fun W (h : Below w.heap.size w W) => show Bytes W w.heap.size (some ⟨ba, oa + N, none⟩) En Ex from by
            have h1 := ((HX.out.below h).cut (k := N) (cap := c) (by omega) hcap).front (k := En) (by omega)
            rw [if_neg hcN, HSL.out] at h1
            simpa [Addr.add_lit] using h1)
          have hbsz := hbB
          generalize hV : wr.alloc (.cells #[.slice EA En Ec, .int .i64 E1, .int .i64 E2, .int .i64 E3, .slice ED Em Ee, .int .i64 E5] 51) = V at *
          have HFq := Lib.hid (rg_ofF (w := V) (fun W hW => (bytesEq_same (some ⟨ba, oa + N, none⟩) EA En En (c - N) Ec Ex W _ _ (HCt.out _ (bl_trans hw9 hW)) ((hf0.1.below (show Below wr.heap.size wr W from bl_trans hbX hW))) (by omega) (by omega)).mono (fun e w' ⟨h1, m, h2⟩ => ⟨h1, by rw [← h2]; exact bl_drewN (bl_refl _) m⟩)))
          have HV := Lib.hid hV
          clear hV
          go_upto_region 16 with fail
          rw [HV.out]
          have e0 := oe.cell (i := 0) rfl
          have e0r := cell_regrown e0
          refine wp_region_quiet_below (by kernel_rfl) (by kernel_rfl) ?_
          repeat (first
            | go_big_quiet_skip
            | go_big_quiet_step (with_reducible exact HFq.out _ _))
          refine wpQuiet_nil ?_
          rintro _ ⟨⟨dq, osq⟩, rfl⟩
          have hgw := below_regrown V dq osq
          have oe2 := oe.step hgw
          have hbZ := bl_trans hbY hgw
          generalize grow (redrawn V dq) osq = w3 at *
          have e02 := oe2.cell (i := 0) rfl
          have hz3 := oe2.lt
          clear HFq HCt hgw oe e0 e0r hw9 hf0 hbX hbY
          go_wp2
          go_roundw
          case rel => exact ⟨k + 1, by omega, by go_num, by rw [HSU.out]; go_num, HZ2, by rw [HSU.out]; exact hle2, hbZ⟩
          case measure => simp [intOf]; omega
        · have p0 : (E1 != 0) = true := by simpa using hk1
          obtain ⟨hcl, hkp, hik⟩ := hat.1 hk1
          have hfX := HF9.out.below hbY
          have hlX := bl_trans hl9 hbY
          have hi1 : ((k : Int) == (lw : Int) - 1) = true := by
            have h2 : k + 1 = qE.length := hik
            simp
            omega
          have hhd := held_st hfX
          have hcd := closed_st hfX
          have hkp' : sE.kept = [] := hkp
          have hcl' : sE.closed = true := hcl
          have Hcl := Lib.hid hcl'
          have HS := Lib.hid (fun W (h : FrIs W B' g sE) => held_st h)
          have HC := Lib.hid (fun W (h : FrIs W B' g sE) => closed_st h)
          rw [hkp'] at HS
          rw [hcl'] at HC
          have hgB := hfX.size
          have HFd := Lib.hid (fun W (h : FrIs W B' g sE) (h2 : Below w.heap.size w W) => ffeed_any g B' n2 c2 sE A2 ys W h ((HY.out.below h2).more (by have := Hgw.out; omega)) (by omega) (by have := HFr.out.1; omega))
          have hfc : sE.feed ys = (sE, []) := FS.fold_closed ys (sE, []) hcl'
          rw [hfc] at HFd
          have HCl := Lib.hid (fun W (h : FrIs W B' g sE) => close_st2 h hcl')
          have HXX := Lib.hid (And.intro hfX hlX)
          clear hhd hcd hk1 hat hik hkp hcl hkp' hcl' hfc hfX hlX hf0 hbX hgB
          go_wp2_with fail
          refine (alive23_any _ HXX.out.1.hrows).mono ?_
          rintro e v1 ⟨rfl, hv1⟩
          have hf1 := HXX.out.1.below hv1
          have hl1 := bl_trans HXX.out.2 hv1
          go_wp2_with fail
          refine (HC.out _ hf1).mono ?_
          rintro e v2 ⟨rfl, rfl⟩
          go_wp2_with fail
          refine (HS.out _ hf1).mono ?_
          rintro e v3 ⟨rfl, rfl⟩
          go_wp2_with fail
          refine (HFd.out _ hf1 hl1).mono ?_
          rintro e v4 ⟨vv, L2, B2, rfl, hR2⟩
          have hnil : L2 = [] := by
            have h1 := hR2.1
            exact List.map_eq_nil_iff.1 h1
          subst hnil
          obtain ⟨A4, c4, rfl⟩ := own_form hR2.2.1
          have hf4 := hR2.2.2.2.1
          have hl4 : Below w.heap.size w v4 := hl1.trans (hR2.2.2.2.2.2.to_below hl1.size (fun i hi e => by
            have h1 := Hgw.out
            have h2 := hf1.size
            rcases e with e | e
            · omega
            · have := e.1
              omega))
          clear hR2
          go_wp2_with fail
          refine (close_st2 hf4 (by
            have h1 := HC.out
            have h2 := HInv.out
            exact Hcl.out)).mono ?_
          rintro e v5 ⟨rfl, hv5⟩
          go_wp2
          go_ret
          exact ⟨rfl, bl_trans hl4 hv5⟩
      · obtain rfl : k = lw := by omega
        have hql : qE.length = k := by rw [← HLw.out, List.length_map, HLwn.out]
        obtain ⟨hcl, hsum⟩ := finv_end HInv.out (fun i e hi => hz.out i e (by
          have h1 : i < qE.length := (List.getElem?_eq_some_iff.1 hi).1
          omega) hi)
        have hcl' : sE.closed = false := hcl
        have hsum' : flN qE k + sE.kept.length = n := by rw [HN.out, ← hql]; exact hsum
        have hq1 : ((sE.kept.length : Int) == (n : Int) - (flN qE k : Nat)) = true := by
          simp
          omega
        have hfX := HF9.out.below hb
        have hlX := bl_trans hl9 hb
        have HS := Lib.hid (fun W (h : FrIs W B' g sE) => held_st h)
        have HC := Lib.hid (fun W (h : FrIs W B' g sE) => closed_st h)
        rw [hcl'] at HC
        have HXX := Lib.hid (And.intro hfX hlX)
        clear hcl hcl' hsum hsum' hfX hlX
        go_wp2_with fail
        refine (alive23_any _ HXX.out.1.hrows).mono ?_
        rintro e v1 ⟨rfl, hv1⟩
        have hf1 := HXX.out.1.below hv1
        have hl1 := bl_trans HXX.out.2 hv1
        go_wp2_with fail
        refine (HS.out _ hf1).mono ?_
        rintro e v2 ⟨rfl, rfl⟩
        go_wp2_with fail
        refine (HC.out _ hf1).mono ?_
        rintro e v3 ⟨rfl, rfl⟩
        go_wp2
        go_ret
        exact ⟨rfl, hl1⟩
end Go.Proofs.YtgahjchngmojlabDoor

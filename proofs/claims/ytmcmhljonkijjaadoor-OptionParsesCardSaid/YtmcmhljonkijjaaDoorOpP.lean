/- All options, and those of a text: peerageref05.All, peerageref05.Parse, option.Parse -/
import Derived.Test.YtmcmhljonkijjaaDoorOpI
import Derived.Test.YtmcmhljonkijjaaDoorOpJ
import Derived.Test.YtmcmhljonkijjaaDoorOpC
import Derived.Test.YtmcmhljonkijjaaDoorApAt
import Derived.Lib.SplitLaws
namespace Go.Proofs.YtmcmhljonkijjaaDoor
open Go.RowKit Go.Sort

def nthO (n : Nat) : List Bool := [n.testBit 0, n.testBit 1, n.testBit 2, n.testBit 3, n.testBit 4, n.testBit 5]
def allO : List (List Bool) := (List.range 64).map nthO
def oTx : List Bool → ByteArray
  | [a0, a1, a2, a3, a4, a5] => oTxt a0 a1 a2 a3 a4 a5
  | _ => ⟨#[]⟩
def pOf (s : ByteArray) : Option (List Bool) := allO.find? fun l => decide (oTx l = s)
theorem allO_get {k : Nat} (h : k < 64) : allO[k]? = some (nthO k) := by simp [allO, h]
theorem allO_take {k : Nat} (h : k < 64) : allO.take (k + 1) = allO.take k ++ [nthO k] := by rw [List.take_add_one, allO_get h]; rfl
theorem pOf_hit {s : ByteArray} {k : Nat} (h : k < 64) (hno : ∀ l ∈ allO.take k, oTx l ≠ s) (hy : oTx (nthO k) = s) : pOf s = some (nthO k) := by
  have e : allO = allO.take k ++ nthO k :: allO.drop (k + 1) := by
    have h1 := List.drop_eq_getElem_cons (l := allO) (i := k) (by simpa [allO] using h)
    have h2 : allO[k]'(by simpa [allO] using h) = nthO k := by simp [allO]
    rw [h2] at h1
    rw [← h1, List.take_append_drop]
  unfold pOf
  rw [e, List.find?_append]
  have h0 : (allO.take k).find? (fun l => decide (oTx l = s)) = none := by
    rw [List.find?_eq_none]
    intro l hl
    simpa using hno l hl
  rw [h0]
  simp [hy]
theorem pOf_no {s : ByteArray} (hno : ∀ l ∈ allO, oTx l ≠ s) : pOf s = none := by
  unfold pOf
  rw [List.find?_eq_none]
  intro l hl
  simpa using hno l hl
theorem pOf_some {s : ByteArray} {l : List Bool} (h : pOf s = some l) : ∃ a0 a1 a2 a3 a4 a5, l = [a0, a1, a2, a3, a4, a5] ∧ oTxt a0 a1 a2 a3 a4 a5 = s := by
  unfold pOf at h
  have h1 := List.find?_some h
  have h2 := List.mem_of_find?_eq_some h
  obtain ⟨k, _, rfl⟩ := List.mem_map.1 h2
  exact ⟨_, _, _, _, _, _, rfl, by simpa [oTx, nthO] using h1⟩
theorem oTxt_inj {a0 a1 a2 a3 a4 a5 b0 b1 b2 b3 b4 b5 : Bool} (h : oTxt a0 a1 a2 a3 a4 a5 = oTxt b0 b1 b2 b3 b4 b5) : [a0, a1, a2, a3, a4, a5] = [b0, b1, b2, b3, b4, b5] := by
  cases ha : oNone a0 a1 a2 a3 a4 a5 with
  | true =>
    cases hb : oNone b0 b1 b2 b3 b4 b5 with
    | true =>
      unfold oNone at ha hb
      simp only [Bool.and_eq_true, Bool.not_eq_true'] at ha hb
      obtain ⟨⟨⟨⟨⟨rfl, rfl⟩, rfl⟩, rfl⟩, rfl⟩, rfl⟩ := ha
      obtain ⟨⟨⟨⟨⟨rfl, rfl⟩, rfl⟩, rfl⟩, rfl⟩, rfl⟩ := hb
      rfl
    | false =>
      have h1 := (otext_facts _ _ _ _ _ _ hb).1.1
      unfold oTxt at h
      rw [if_pos ha] at h
      exact absurd h.symm h1
  | false =>
    cases hb : oNone b0 b1 b2 b3 b4 b5 with
    | true =>
      have h1 := (otext_facts _ _ _ _ _ _ ha).1.1
      rw [h] at h1
      unfold oTxt at h1
      rw [if_pos hb] at h1
      exact absurd rfl h1
    | false =>
      obtain ⟨_, s1, _, f1⟩ := otext_facts _ _ _ _ _ _ ha
      obtain ⟨_, s2, _, f2⟩ := otext_facts _ _ _ _ _ _ hb
      rw [h] at s1
      rw [← s1, s2, f2] at f1
      exact (Option.some.inj f1).symm
theorem allO_all : ∀ a0 a1 a2 a3 a4 a5 : Bool, ∃ k : Fin 64, nthO k.1 = [a0, a1, a2, a3, a4, a5] := by decide +kernel
theorem pOf_text (a0 a1 a2 a3 a4 a5 : Bool) : pOf (oTxt a0 a1 a2 a3 a4 a5) = some [a0, a1, a2, a3, a4, a5] := by
  cases hp : pOf (oTxt a0 a1 a2 a3 a4 a5) with
  | none =>
    unfold pOf at hp
    rw [List.find?_eq_none] at hp
    obtain ⟨k, hk⟩ := allO_all a0 a1 a2 a3 a4 a5
    have := hp (nthO k.1) (List.mem_map.2 ⟨k.1, List.mem_range.2 k.2, rfl⟩)
    rw [hk] at this
    simp [oTx] at this
  | some l =>
    obtain ⟨b0, b1, b2, b3, b4, b5, rfl, hb⟩ := pOf_some hp
    rw [oTxt_inj hb]
def flatO (ls : List (List Bool)) : List Value := ls.flatMap fun l => l.map Value.bool
theorem flatO_allO_len (k : Nat) : (flatO (allO.take k)).length = (allO.take k).length * 6 := by
  have key : ∀ ls : List (List Bool), (∀ l ∈ ls, l.length = 6) → (flatO ls).length = ls.length * 6 := by
    intro ls
    induction ls with
    | nil => intro _; rfl
    | cons x xs ih =>
      intro h
      have h1 := ih (fun l hl => h l (List.mem_cons_of_mem _ hl))
      have h2 := h x List.mem_cons_self
      have e : flatO (x :: xs) = x.map Value.bool ++ flatO xs := rfl
      rw [e, List.length_append, List.length_map, h1, h2, List.length_cons]
      omega
  refine key _ (fun l hl => ?_)
  obtain ⟨j, _, rfl⟩ := List.mem_map.1 (List.mem_of_mem_take hl)
  rfl
theorem flatO_get {k i : Nat} (hk : k < 64) (hi : i < 6) : (flatO allO)[k * 6 + i]? = ((nthO k).map Value.bool)[i]? := by
  have h : ∀ k : Fin 64, ∀ i : Fin 6, (flatO allO)[k.1 * 6 + i.1]? = ((nthO k.1).map Value.bool)[i.1]? := by
    intro k i
    have e : allO = allO.take k.1 ++ allO.drop k.1 := (List.take_append_drop _ _).symm
    have e2 : allO.drop k.1 = nthO k.1 :: allO.drop (k.1 + 1) := by
      have h1 := List.drop_eq_getElem_cons (l := allO) (i := k.1) (by simp [allO])
      rw [h1]
      simp [allO]
    have e3 : flatO allO = flatO (allO.take k.1) ++ ((nthO k.1).map Value.bool ++ flatO (allO.drop (k.1 + 1))) := by
      conv => lhs; rw [e, e2]
      simp [flatO]
    have hl := flatO_allO_len k.1
    have hl2 : (allO.take k.1).length = k.1 := by simp [allO]
    rw [hl2] at hl
    rw [e3, List.getElem?_append_right (by omega), hl, Nat.add_sub_cancel_left, List.getElem?_append_left (by have := i.2; simp [nthO])]
  exact h ⟨k, hk⟩ ⟨i, hi⟩
set_option maxRecDepth 100000 in
theorem sl_opts : SliceOf Tryd.prog 103 50 6 6 := SliceOf.mk Tryd.underlying103 (z := .agg #[.bool false, .bool false, .bool false, .bool false, .bool false, .bool false]) (by kernel_rfl) rfl (by decide)
def mixO (k m : Nat) : Array Value := #[.bool (decide (0 < m) && k.testBit 0), .bool (decide (1 < m) && k.testBit 1), .bool (decide (2 < m) && k.testBit 2), .bool (decide (3 < m) && k.testBit 3), .bool (decide (4 < m) && k.testBit 4), .bool (decide (5 < m) && k.testBit 5)]
theorem bitsK : ∀ k : Fin 64, ((bits BinOp.and IntKind.i64 ((k.1 : Nat) : Int) 1 == 1) = k.1.testBit 0 ∧ (bits BinOp.and IntKind.i64 (((k.1 : Nat) : Int) / 2) 1 == 1) = k.1.testBit 1 ∧ (bits BinOp.and IntKind.i64 (((k.1 : Nat) : Int) / 4) 1 == 1) = k.1.testBit 2) ∧ (bits BinOp.and IntKind.i64 (((k.1 : Nat) : Int) / 8) 1 == 1) = k.1.testBit 3 ∧ (bits BinOp.and IntKind.i64 (((k.1 : Nat) : Int) / 16) 1 == 1) = k.1.testBit 4 ∧ (bits BinOp.and IntKind.i64 (((k.1 : Nat) : Int) / 32) 1 == 1) = k.1.testBit 5 := by decide +kernel
theorem bitsK_hid (k : Nat) (h : k < 64) : (Hid ((bits BinOp.and IntKind.i64 (k : Int) 1 == 1) = k.testBit 0) ∧ Hid ((bits BinOp.and IntKind.i64 ((k : Int) / 2) 1 == 1) = k.testBit 1) ∧ Hid ((bits BinOp.and IntKind.i64 ((k : Int) / 4) 1 == 1) = k.testBit 2)) ∧ Hid ((bits BinOp.and IntKind.i64 ((k : Int) / 8) 1 == 1) = k.testBit 3) ∧ Hid ((bits BinOp.and IntKind.i64 ((k : Int) / 16) 1 == 1) = k.testBit 4) ∧ Hid ((bits BinOp.and IntKind.i64 ((k : Int) / 32) 1 == 1) = k.testBit 5) := by
  obtain ⟨⟨a, b, c⟩, d, e, f⟩ := bitsK ⟨k, h⟩
  exact ⟨⟨Lib.hid a, Lib.hid b, Lib.hid c⟩, Lib.hid d, Lib.hid e, Lib.hid f⟩
set_option maxRecDepth 100000 in
set_option maxHeartbeats 3200000 in
theorem rall5_any (w : World) : Calls Tryd.prog 59 #[] w fun e w' => ∃ v, e = .returned v ∧ w'.ownsRow w.heap.size 50 6 v 64 (flatO allO) ∧ Below w.heap.size w w' := by
  go_enter Tryd.func59, Tryd.ntmps59
  go_wp2_with fail
  go_loopw [1, 2, 3, 4] (fun v n _ _ wr => ∃ k : Nat, k ≤ 64 ∧ n = .int .i64 k ∧ wr.ownsRow w.heap.size 50 6 v k (flatO (allO.take k)) ∧ Below w.heap.size w wr) (fun _ n _ _ _ => 64 - (intOf n).toNat)
  case atStart => exact ⟨0, by omega, rfl, World.ownsRow_nil _ _ _ _, bl_refl w⟩
  case round =>
    obtain ⟨k, hk, rfl, hown, hb⟩ := hrel
    by_cases hlt : k < 64
    · have hst := Lib.hid (allO_take hlt)
      have gl := Own.new wr 4 #[.bool false, .bool false, .bool false, .bool false, .bool false, .bool false]
      have hb1 := bl_alloc hb (.cells #[.bool false, .bool false, .bool false, .bool false, .bool false, .bool false] 4)
      have hbs := hb.size
      have hown1 := own_belowG hown (bl_alloc (bl_refl wr) (.cells #[.bool false, .bool false, .bool false, .bool false, .bool false, .bool false] 4))
      have hne := Lib.hid (fun j (h : (u1).ownBlock = some j) => show j < wr.heap.size from (hown.lt j h).2)
      obtain ⟨⟨HB0, HB1, HB2⟩, HB3, HB4, HB5⟩ := bitsK_hid k hlt
      clear hown
      go_wp2_with fail
      generalize wr.heap.size = G at *
      go_loopw [4] (fun i w2 => ∃ m : Nat, m ≤ 6 ∧ i = .int .i64 m ∧ Own w2 G 4 (mixO k m) ∧ w2.ownsRow w.heap.size 50 6 u1 k (flatO (allO.take k)) ∧ Below w.heap.size w w2) (fun i _ => 6 - (intOf i).toNat)
      case atStart => exact ⟨0, by omega, rfl, gl, hown1, hb1⟩
      case round =>
        obtain ⟨m, hm, rfl, g2, hown2, hb2⟩ := hrel
        clear gl hown1 hb1
        have hm6 : m = 0 ∨ m = 1 ∨ m = 2 ∨ m = 3 ∨ m = 4 ∨ m = 5 ∨ m = 6 := by omega
        have hlt2 := g2.lt
        rcases hm6 with rfl | rfl | rfl | rfl | rfl | rfl | rfl
        · have hc := g2.cell (i := 0) rfl
          have hf := g2.frozen 0
          go_wp2
          go_roundw
          case rel => exact ⟨1, by omega, rfl, by have := g2.set_ 0 (.bool (k.testBit 0)); rw [HB0.out]; exact this, row_rest hown2 (Rest.setCell _ ⟨G, 0, none⟩ _) (fun j h e => by have := hne.out j h; have e2 : j = G := e; omega), hb2.setCell (p := ⟨G, 0, none⟩) (by show w.heap.size ≤ G; omega) _⟩
          case measure => simp [intOf]
        · have hc := g2.cell (i := 1) rfl
          have hf := g2.frozen 1
          go_wp2
          go_roundw
          case rel => exact ⟨2, by omega, rfl, by have := g2.set_ 1 (.bool (k.testBit 1)); rw [HB1.out]; exact this, row_rest hown2 (Rest.setCell _ ⟨G, 1, none⟩ _) (fun j h e => by have := hne.out j h; have e2 : j = G := e; omega), hb2.setCell (p := ⟨G, 1, none⟩) (by show w.heap.size ≤ G; omega) _⟩
          case measure => simp [intOf]
        · have hc := g2.cell (i := 2) rfl
          have hf := g2.frozen 2
          go_wp2
          go_roundw
          case rel => exact ⟨3, by omega, rfl, by have := g2.set_ 2 (.bool (k.testBit 2)); rw [HB2.out]; exact this, row_rest hown2 (Rest.setCell _ ⟨G, 2, none⟩ _) (fun j h e => by have := hne.out j h; have e2 : j = G := e; omega), hb2.setCell (p := ⟨G, 2, none⟩) (by show w.heap.size ≤ G; omega) _⟩
          case measure => simp [intOf]
        · have hc := g2.cell (i := 3) rfl
          have hf := g2.frozen 3
          go_wp2
          go_roundw
          case rel => exact ⟨4, by omega, rfl, by have := g2.set_ 3 (.bool (k.testBit 3)); rw [HB3.out]; exact this, row_rest hown2 (Rest.setCell _ ⟨G, 3, none⟩ _) (fun j h e => by have := hne.out j h; have e2 : j = G := e; omega), hb2.setCell (p := ⟨G, 3, none⟩) (by show w.heap.size ≤ G; omega) _⟩
          case measure => simp [intOf]
        · have hc := g2.cell (i := 4) rfl
          have hf := g2.frozen 4
          go_wp2
          go_roundw
          case rel => exact ⟨5, by omega, rfl, by have := g2.set_ 4 (.bool (k.testBit 4)); rw [HB4.out]; exact this, row_rest hown2 (Rest.setCell _ ⟨G, 4, none⟩ _) (fun j h e => by have := hne.out j h; have e2 : j = G := e; omega), hb2.setCell (p := ⟨G, 4, none⟩) (by show w.heap.size ≤ G; omega) _⟩
          case measure => simp [intOf]
        · have hc := g2.cell (i := 5) rfl
          have hf := g2.frozen 5
          go_wp2
          go_roundw
          case rel => exact ⟨6, by omega, rfl, by have := g2.set_ 5 (.bool (k.testBit 5)); rw [HB5.out]; exact this, row_rest hown2 (Rest.setCell _ ⟨G, 5, none⟩ _) (fun j h e => by have := hne.out j h; have e2 : j = G := e; omega), hb2.setCell (p := ⟨G, 5, none⟩) (by show w.heap.size ≤ G; omega) _⟩
          case measure => simp [intOf]
        · have g3 : Own wr G 4 #[.bool (k.testBit 0), .bool (k.testBit 1), .bool (k.testBit 2), .bool (k.testBit 3), .bool (k.testBit 4), .bool (k.testBit 5)] := g2
          have HE := Lib.hid (show nthO k = [k.testBit 0, k.testBit 1, k.testBit 2, k.testBit 3, k.testBit 4, k.testBit 5] from rfl)
          clear HB0 HB1 HB2 HB3 HB4 HB5
          generalize k.testBit 0 = t0 at g3 HE
          generalize k.testBit 1 = t1 at g3 HE
          generalize k.testBit 2 = t2 at g3 HE
          generalize k.testBit 3 = t3 at g3 HE
          generalize k.testBit 4 = t4 at g3 HE
          generalize k.testBit 5 = t5 at g3 HE
          go_wp2_with fail
          refine (rof5_any _ _ _ _ _ _ _ _ g3).mono ?_
          rintro e w3 ⟨rfl, hb3⟩
          have hown3 := own_belowG hown2 hb3
          have hb4 := bl_trans hb2 hb3
          have hown4 := own_belowG hown3 (bl_alloc (bl_refl w3) (.cells #[.bool (t0), .bool (t1), .bool (t2), .bool (t3), .bool (t4), .bool (t5)] 50))
          have oS := Own.new w3 50 #[.bool (t0), .bool (t1), .bool (t2), .bool (t3), .bool (t4), .bool (t5)]
          have hb5 := bl_alloc hb4 (.cells #[.bool (t0), .bool (t1), .bool (t2), .bool (t3), .bool (t4), .bool (t5)] 50)
          have hbs5 := hb5.size
          clear hown2 hown3 hb2 hb3 hb4 g2 g3
          go_wp2_with (at_builtin; refine wpList_append_grow _ rfl _ _ rfl sl_opts w.heap.size _ k _ rfl hown4 (w3.heap.size + 1) (some ⟨w3.heap.size, 0, none⟩) 1 1 [.bool (t0), .bool (t1), .bool (t2), .bool (t3), .bool (t4), .bool (t5)] rfl rfl (Shows.of_owned (xs := [.bool (t0), .bool (t1), .bool (t2), .bool (t3), .bool (t4), .bool (t5)]) oS (Nat.lt_succ_self _)) (by intro u hu; simp only [List.mem_cons, List.not_mem_nil, or_false] at hu; rcases hu with rfl | rfl | rfl | rfl | rfl | rfl <;> rfl) (by unfold maxLen; omega) (by omega) hbs5 ?_; intro v6 w6 hown6 hgr6)
          have hb6 := hb5.grown hgr6 hbs5 (fun j hj => (hown4.lt j hj).1)
          go_roundw
          case rel => exact ⟨k + 1, by omega, by go_num, by rw [hst.out, HE.out]; simpa [flatO] using hown6, hb6⟩
          case measure => simp [intOf]; omega
    · obtain rfl : k = 64 := by omega
      have HT := Lib.hid (show allO.take 64 = allO from List.take_of_length_le (by simp [allO]))
      rw [HT.out] at hown
      go_wp2
      go_ret
      exact ⟨_, rfl, hown, hb⟩
theorem rowO_cells {w : World} {base g c : Nat} {k : Nat} (h : w.ownsRow base 50 6 (.slice (some ⟨g, 0, none⟩) 64 c) 64 (flatO allO)) (hk : k < 64) :
    w.cell? ⟨g, k * 6, none⟩ = some (.bool (k.testBit 0)) ∧ w.cell? ⟨g, k * 6 + 1, none⟩ = some (.bool (k.testBit 1)) ∧ w.cell? ⟨g, k * 6 + 2, none⟩ = some (.bool (k.testBit 2)) ∧ w.cell? ⟨g, k * 6 + 3, none⟩ = some (.bool (k.testBit 3)) ∧ w.cell? ⟨g, k * 6 + 4, none⟩ = some (.bool (k.testBit 4)) ∧ w.cell? ⟨g, k * 6 + 5, none⟩ = some (.bool (k.testBit 5)) := by
  have key : ∀ i u, i < 6 → ((nthO k).map Value.bool)[i]? = some u → w.cell? ⟨g, k * 6 + i, none⟩ = some u := fun i u hi hu => by
    have := h.cells (g := g) rfl (k * 6 + i) u ((flatO_get hk hi).trans hu)
    simpa [Addr.add_lit] using this
  exact ⟨key 0 _ (by omega) rfl, key 1 _ (by omega) rfl, key 2 _ (by omega) rfl, key 3 _ (by omega) rfl, key 4 _ (by omega) rfl, key 5 _ (by omega) rfl⟩
theorem ne_strs {x y : ByteArray} (h : x ≠ y) : ¬ (x.toList = y.toList) ∧ (x.toList == y.toList) = false ∧ (x.toList != y.toList) = true := by
  have h1 : ¬ (x.toList = y.toList) := fun e => h ((toList_iffO _ _).1 e)
  exact ⟨h1, by simpa using h1, by simpa using h1⟩
set_option maxRecDepth 100000 in
set_option maxHeartbeats 3200000 in
theorem rparse5_any (s : ByteArray) (w : World) : Calls Tryd.prog 34 #[.string s] w fun e w' => e = .returned (oOf (pOf s)) ∧ Below w.heap.size w w' := by
  have z0 := Own.new w 50 #[.bool false, .bool false, .bool false, .bool false, .bool false, .bool false]
  have hb0 := bl_alloc (bl_refl w) (.cells #[.bool false, .bool false, .bool false, .bool false, .bool false, .bool false] 50)
  go_enter Tryd.func34, Tryd.ntmps34
  go_wp2_with fail
  refine (rall5_any _).mono ?_
  rintro e w1 ⟨v, rfl, hown, hb1⟩
  have z1 := z0.step hb1
  have hb2 := bl_trans hb0 hb1
  obtain ⟨g, c, rfl⟩ : ∃ g c, v = .slice (some ⟨g, 0, none⟩) 64 c := by
    rcases hown.2 with ⟨_, h0⟩ | ⟨g, cap, cur, rfl, _⟩
    · cases h0
    · exact ⟨g, cap, rfl⟩
  clear z0 hb0 hb1
  go_wp2_with fail
  go_loopw [5] (fun i wr => ∃ k : Nat, k ≤ 64 ∧ i = .int .i64 k ∧ Hid (∀ l ∈ allO.take k, oTx l ≠ s) ∧ Own wr w.heap.size 50 #[.bool false, .bool false, .bool false, .bool false, .bool false, .bool false] ∧ wr.ownsRow (w.heap.size + 1) 50 6 (.slice (some ⟨g, 0, none⟩) 64 c) 64 (flatO allO) ∧ Below w.heap.size w wr) (fun i _ => 64 - (intOf i).toNat)
  case atStart => exact ⟨0, by omega, rfl, Lib.hid (by intro l hl; simp at hl), z1, by simpa using hown, hb2⟩
  case round =>
    obtain ⟨k, hk, rfl, hno, zr, hr, hbr⟩ := hrel
    clear z1 hown hb2
    by_cases hlt : k < 64
    · have hki : (k : Int) < 64 := by omega
      obtain ⟨c0, c1, c2, c3, c4, c5⟩ := rowO_cells hr hlt
      have HH := Lib.hid (pOf_hit (s := s) hlt hno.out)
      have HTk := Lib.hid (allO_take hlt)
      have HOt := Lib.hid (show oTx (nthO k) = oTxt (k.testBit 0) (k.testBit 1) (k.testBit 2) (k.testBit 3) (k.testBit 4) (k.testBit 5) from rfl)
      have HE := Lib.hid (show nthO k = [k.testBit 0, k.testBit 1, k.testBit 2, k.testBit 3, k.testBit 4, k.testBit 5] from rfl)
      have hglt := (hr.lt g rfl).2
      generalize k.testBit 0 = t0 at *
      generalize k.testBit 1 = t1 at *
      generalize k.testBit 2 = t2 at *
      generalize k.testBit 3 = t3 at *
      generalize k.testBit 4 = t4 at *
      generalize k.testBit 5 = t5 at *
      go_wp2_with fail
      refine (rtext_any t0 t1 t2 t3 t4 t5 _).mono ?_
      rintro e w2 ⟨rfl, hb3⟩
      have z2 := zr.step hb3
      have hr2 := own_belowG hr hb3
      have hb4 := bl_trans hbr hb3
      have hK := Lib.hid (fun b o (h : b < wr.heap.size) => hb3.cell (p := ⟨b, o, none⟩) h)
      have d0 := (hK.out g _ hglt).trans c0
      have d1 := (hK.out g _ hglt).trans c1
      have d2 := (hK.out g _ hglt).trans c2
      have d3 := (hK.out g _ hglt).trans c3
      have d4 := (hK.out g _ hglt).trans c4
      have d5 := (hK.out g _ hglt).trans c5
      clear c0 c1 c2 c3 c4 c5 zr hr hbr hb3
      by_cases hq : oTxt t0 t1 t2 t3 t4 t5 = s
      · have hR := Lib.hid (show pOf s = some [t0, t1, t2, t3, t4, t5] by rw [← HE.out]; exact HH.out (HOt.out.trans hq))
        rw [hq]
        clear hq
        go_wp2_with (refine wpList_store_row rfl 50 _ _ rfl w.heap.size #[.bool t0, .bool t1, .bool t2, .bool t3, .bool t4, .bool t5] rfl rfl 50 #[.bool false, .bool false, .bool false, .bool false, .bool false, .bool false] z2 (op_info _ _ _ _ _ _) rfl (op_oneF _ _ _ _ _ _) ?_)
        rw [hR.out]
        exact bodyPost_ret (results_cell_tmp (p := 2) (t := 3) (fn := Tryd.f34) rfl _ _ w.heap.size 50 #[.bool t0, .bool t1, .bool t2, .bool t3, .bool t4, .bool t5] _ rfl z2.setRow op_desc rfl (op_info _ _ _ _ _ _)) rfl ⟨rfl, bl_setRow hb4 (Nat.le_refl _)⟩
      · obtain ⟨m1, m2, m3⟩ := ne_strs hq
        have HN := Lib.hid (show ∀ l ∈ allO.take (k + 1), oTx l ≠ s by
          rw [HTk.out]
          intro l hl
          rcases List.mem_append.1 hl with hl | hl
          · exact hno.out l hl
          · rw [List.mem_singleton] at hl
            rw [hl, HOt.out]
            exact hq)
        clear hq
        generalize oTxt t0 t1 t2 t3 t4 t5 = T at *
        go_wp2
        go_roundw
        case rel => exact ⟨k + 1, by omega, by go_num, HN, z2, hr2, hb4⟩
        case measure => simp [intOf]; omega
    · obtain rfl : k = 64 := by omega
      have hR := Lib.hid (pOf_no (s := s) (by have := hno.out; rwa [show allO.take 64 = allO from List.take_of_length_le (by simp [allO])] at this))
      go_wp2_with (refine wpList_store_row rfl 50 _ _ rfl w.heap.size #[.bool false, .bool false, .bool false, .bool false, .bool false, .bool false] rfl rfl 50 #[.bool false, .bool false, .bool false, .bool false, .bool false, .bool false] zr (op_info _ _ _ _ _ _) rfl (op_oneF _ _ _ _ _ _) ?_)
      rw [hR.out]
      exact bodyPost_ret (results_cell_tmp (p := 2) (t := 3) (fn := Tryd.f34) rfl _ _ w.heap.size 50 #[.bool false, .bool false, .bool false, .bool false, .bool false, .bool false] _ rfl zr.setRow op_desc rfl (op_info _ _ _ _ _ _)) rfl ⟨rfl, bl_setRow hbr (Nat.le_refl _)⟩
end Go.Proofs.YtmcmhljonkijjaaDoor

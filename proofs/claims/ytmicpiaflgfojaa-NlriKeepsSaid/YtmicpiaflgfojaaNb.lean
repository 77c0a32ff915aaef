/- nlri.Bytes -/
import Derived.Test.YtmicpiaflgfojaaRt
import Derived.Test.YtmicpiaflgfojaaPfxC
import Derived.Test.YtmicpiaflgfojaaPut
namespace Go.Proofs.Ytmicpiaflgfojaa
open Go.RowKit

set_option maxRecDepth 100000 in
theorem sl_slices : SliceOf Try.prog 49 38 1 24 := SliceOf.mk Try.underlying49 (z := .slice none 0 0) (by kernel_rfl) rfl (by decide)
theorem own_below {w w' : World} {base : Nat} {e : TypeId} {size n : Nat} {v : Value} {xs : List Value} (h : w.ownsRow base e size v n xs) (hb : Below w.heap.size w w') : w'.ownsRow base e size v n xs :=
  h.kept (row := none) ⟨hb.os, hb.tape, hb.output, hb.size, fun k hk _ => hb.block k hk⟩ (by cases hv : v.ownBlock <;> simp)

/-- A part whose bytes are a block of their own. -/
def PT (w : World) (p : Part) : Prop := p.n = p.xs.length ∧ (∀ x ∈ p.xs, 0 ≤ x ∧ x ≤ 255) ∧ ∃ g, p.a = some ⟨g, 0, none⟩ ∧ Own w g 5 (p.xs.map (Value.int .u8)).toArray
theorem PT.ok {w : World} {p : Part} (h : PT w p) : p.ok w w.heap.size := by
  obtain ⟨hn, hr, g, ha, ho⟩ := h
  unfold Part.ok
  rw [hn, ha]
  exact Bytes.of_owned ho hr ho.lt
theorem PT.step {w w' : World} {p : Part} (h : PT w p) (hb : Below w.heap.size w w') : PT w' p := by
  obtain ⟨hn, hr, g, ha, ho⟩ := h
  exact ⟨hn, hr, g, ha, ho.step hb⟩
theorem PT.grown {w w' : World} {p : Part} {base n : Nat} {v : Value} {xs : List Value} (h : PT w p) (hown : w.ownsRow base 38 1 v n xs) (hg : w.grownBy w' v.ownBlock) : PT w' p := by
  obtain ⟨hn, hr, g, ha, ho⟩ := h
  exact ⟨hn, hr, g, ha, ho.grown hg (fun e => own_blk hown ho (by decide) e.symm)⟩
theorem pt_parts {w : World} {base : Nat} {v : Value} {ps : List Part} (hown : w.ownsRow base 38 1 v ps.length (ps.map Part.v)) (hp : ∀ p ∈ ps, PT w p) :
    ∃ A c, v = .slice A ps.length c ∧ Parts w w.heap.size A ps.length ps := by
  obtain ⟨A, c, rfl, _, hs⟩ := own_val hown
  exact ⟨A, c, rfl, rfl, fun p h => (hp p h).ok, hs⟩
/-- What is so before an append of one more part: the parts so far. -/
def Pile (W w : World) (v : Value) (ps : List Part) : Prop := w.ownsRow W.heap.size 38 1 v ps.length (ps.map Part.v) ∧ (∀ p ∈ ps, PT w p) ∧ Below W.heap.size W w
theorem Pile.step {W w w' : World} {v : Value} {ps : List Part} (h : Pile W w v ps) (hb : Below w.heap.size w w') : Pile W w' v ps :=
  ⟨own_below h.1 hb, fun p hp => (h.2.1 p hp).step hb, bl_trans h.2.2 hb⟩
theorem Pile.more {W w w' : World} {v v' : Value} {ps : List Part} {q : Part} (h : Pile W w v ps) (hq : PT w q) {o : Obj} (hown : w'.ownsRow W.heap.size 38 1 v' (ps.length + 1) (ps.map Part.v ++ [q.v])) (hg : (w.alloc o).grownBy w' v.ownBlock) : Pile W w' v' (ps ++ [q]) := by
  have ha : Below w.heap.size w (w.alloc o) := bl_alloc (bl_refl w) o
  have h1 := h.step ha
  refine ⟨by simpa using hown, ?_, ?_⟩
  · intro p hp
    rcases List.mem_append.1 hp with hp | hp
    · exact (h1.2.1 p hp).grown h1.1 hg
    · rw [List.mem_singleton] at hp
      subst hp
      exact (hq.step ha).grown h1.1 hg
  · exact h1.2.2.grown hg h1.2.2.size (own_base h1.1)
theorem Pile.own {W w w' : World} {v : Value} {ps : List Part} {g : Nat} {t : TypeId} {cs : Array Value} (h : Pile W w v ps) (ho : Own w g t cs) (hne : 38 ≠ t) {o : Obj} (hg : (w.alloc o).grownBy w' v.ownBlock) : Own w' g t cs :=
  (ho.alloc o).grown hg (fun e => own_blk (h.step (bl_alloc (bl_refl w) o)).1 (ho.alloc o) hne e.symm)
theorem Routes.step {w w' : World} {W : World} {A : Option Addr} {n : Nat} {rs : List Rt} (h : Routes W W.heap.size A n rs) (_ : Below W.heap.size W w) (hb : Below W.heap.size W w') : Routes w' W.heap.size A n rs := h.below hb

/-- The form of a route. -/
def rtForm (add : Bool) (r : Rt) : List Int := (if add then digitsOf 4 r.p else []) ++ pfxForm r.l r.a
def formAll (add : Bool) (rs : List Rt) : List Int := rs.flatMap (rtForm add)
theorem formAll_take {add : Bool} {rs : List Rt} {j : Nat} (h : j < rs.length) : formAll add (rs.take (j + 1)) = formAll add (rs.take j) ++ rtForm add (nthR rs j) := by
  unfold formAll
  rw [take_nthR h, List.flatMap_append]; simp
theorem rtForm_len {add : Bool} {r : Rt} {f : Int} (h : pfxOk f r.l r.a = true) : (rtForm add r).length ≤ 21 := by
  have := pfxOk_range h
  unfold rtForm pfxForm
  have h4 := digitsOf_len 4 r.p
  have h5 : (sizeOfBits r.l).toNat ≤ 16 := by unfold sizeOfBits; omega
  cases add <;> simp [h4] <;> omega
theorem formAll_len {add : Bool} {f : Int} {rs : List Rt} (h : rs.all (rtOk f add) = true) : (formAll add rs).length ≤ 21 * rs.length := by
  induction rs with
  | nil => simp [formAll]
  | cons r rs ih =>
    rw [List.all_cons, Bool.and_eq_true] at h
    have h1 := ih h.2
    have h2 : (rtForm add r).length ≤ 21 := rtForm_len (f := r.f) (by have := h.1; simp only [rtOk, Bool.and_eq_true] at this; exact this.1.2)
    unfold formAll at *
    rw [List.flatMap_cons, List.length_append, List.length_cons]
    omega

set_option maxHeartbeats 400000 in
set_option maxRecDepth 100000 in
theorem nbytes_no (f : Int) (add : Bool) (A : Option Addr) (n c : Nat) (rs : List Rt) (w : World) (h : Routes w w.heap.size A n rs) (hn : n ≤ 1000000000) (hk : rs.all (rtOk f add) = false) :
    Calls Try.prog 12 #[.int .i64 f, .bool add, .slice A n c] w fun e w' => e = .returned (.tuple #[.slice none 0 0, .bool false]) ∧ Below w.heap.size w w' := by
  go_enter Try.func12, Try.ntmps12
  go_wp2_with fail
  refine (nvalid_any f add _ _ _ rs _ h hn).mono ?_
  rw [hk]
  rintro e w1 ⟨rfl, hb⟩
  go_wp2
  go_ret2
  exact ⟨rfl, hb⟩

set_option maxHeartbeats 3200000 in
set_option maxRecDepth 100000 in
theorem nbytes_false (f : Int) (A : Option Addr) (n c : Nat) (rs : List Rt) (w : World) (h : Routes w w.heap.size A n rs) (hn : n ≤ 1000000) (hk : rs.all (rtOk f false) = true) :
    Calls Try.prog 12 #[.int .i64 f, .bool false, .slice A n c] w fun e w' => ∃ g, e = .returned (.tuple #[.slice (some ⟨g, 0, none⟩) (formAll false rs).length (formAll false rs).length, .bool true]) ∧ w.heap.size ≤ g ∧ Own w' g 5 ((formAll false rs).map (Value.int .u8)).toArray ∧ Below w.heap.size w w' := by
  have hz19 : #[.int .u32 0, .int .i64 0, .int .i64 0, .int .u8 0, .int .u8 0, .int .u8 0, .int .u8 0, .int .u8 0, .int .u8 0, .int .u8 0, .int .u8 0, .int .u8 0, .int .u8 0, .int .u8 0, .int .u8 0, .int .u8 0, .int .u8 0, .int .u8 0, .int .u8 0] = rt rt0 := rt_zero.symm
  have HN := Lib.hid h.1
  have HF := Lib.hid (formAll_len hk)
  have HK := Lib.hid hk
  clear hk
  go_enter Try.func12, Try.ntmps12
  go_wp2_with fail
  refine (nvalid_any f false _ _ _ rs _ h (by omega)).mono ?_
  rw [HK.out]
  rintro e w1 ⟨rfl, hb0⟩
  go_wp2_with fail
  go_loopw [8, 22] (fun v i wr => ∃ (j : Nat) (ps : List Part), j ≤ n ∧ i = .int .i64 j ∧ Pile w wr v ps ∧ flat ps = formAll false (rs.take j) ∧ ps.length ≤ 2 * j) (fun _ i _ => n - (intOf i).toNat)
  case atStart => exact ⟨0, [], Nat.zero_le _, rfl, ⟨World.ownsRow_nil _ _ _ _, by simp, hb0⟩, by simp [flat, formAll], Nat.zero_le _⟩
  case round =>
    obtain ⟨j, ps, hj, rfl, hpile, hflat, hpl⟩ := hrel
    by_cases hlt : j < n
    · obtain ⟨b, o, rfl, hbB, hok, hrg⟩ := (h.below hpile.2.2).at_ hlt
      have hrl := hok.1.1
      have hp0 := hok.2.1
      have hp1 := hok.2.2
      have hjl := Lib.hid (show j < rs.length by have := HN.out; omega)
      have hro := Lib.hid (show rtOk f false (nthR rs j) = true from List.all_eq_true.1 HK.out _ (nthR_mem hjl.out))
      have hpk := Lib.hid (show pfxOk (nthR rs j).f (nthR rs j).l (nthR rs j).a = true by have := hro.out; simp only [rtOk, Bool.and_eq_true] at this; exact this.1.2)
      have hi19 := Lib.hid (rt_infol hrl)
      have hi18 := Lib.hid (pfx_infol (f := (nthR rs j).f) (l := (nthR rs j).l) hrl)
      have hi20 := Lib.hid (rt_info hrl)
      have ho' := (Own.new wr 31 (rt rt0))
      have ho := ho'.setRow (cs' := rt (nthR rs j))
      have hb1 : Below wr.heap.size wr _ := bl_setRow (cs := rt (nthR rs j)) (bl_alloc (bl_refl wr) (.cells (rt rt0) 31)) (Nat.le_refl _)
      have hpile1 := hpile.step hb1
      have hc0 := ho.cell (rt_0 _)
      have HFl := Lib.hid hflat
      clear hflat hpile hb1
      go_wp2_with (first | (refine wpList_load_mid rfl 31 _ rfl b (o + j * 19) rfl (rt (nthR rs j)).toList (.struct (Try.prog.fieldsOf 31)) hrg rt_desc rfl hi19.out ?_) | (refine wpList_store_row rfl 31 _ _ rfl wr.heap.size (rt (nthR rs j)) rfl rfl 31 (rt rt0) ho' hi20.out (by rw [rt_size hrl]; rfl) (rt_one _) ?_) | (refine wpList_load_mid rfl 29 _ rfl wr.heap.size 1 rfl (pfx (nthR rs j).f (nthR rs j).l (nthR rs j).a).toList (.struct (Try.prog.fieldsOf 29)) ho.pfxAt pfx_desc rfl hi18.out ?_))
      refine (pbytes_own _ _ _ _ hok.1 hpk.out).mono ?_
      rintro e w4 ⟨g4, rfl, hg4, ho4, hb4⟩
      have hpile4 := hpile1.step hb4
      have hrng := pfxOk_range hpk.out
      have hq4 : PT w4 ⟨some ⟨g4, 0, none⟩, (pfxForm (nthR rs j).l (nthR rs j).a).length, (pfxForm (nthR rs j).l (nthR rs j).a).length, pfxForm (nthR rs j).l (nthR rs j).a⟩ := ⟨rfl, pfxForm_range hok.1 hrng.1 hrng.2, g4, rfl, ho4⟩
      go_wp2_with (at_builtin; refine wpList_append_grow _ rfl _ _ rfl sl_slices w.heap.size _ _ _ rfl (hpile4.1.alloc _) (w4.heap.size + 1) (some ⟨w4.heap.size, 0, none⟩) 1 1 [_] rfl rfl (Shows.of_owned (Own.new _ _ _) (by simp)) (one1 rfl) (by unfold maxLen; omega) (by omega) (by have := hpile4.2.2.size; simp; omega) ?_; intro v5 w5 hown_w5 hgrow_w5)
      have hpile5 := hpile4.more hq4 hown_w5 hgrow_w5
      go_roundw
      case rel =>
        refine ⟨j + 1, _, by omega, by go_num, hpile5, ?_, by simp; omega⟩
        rw [formAll_take hjl.out, ← HFl.out]
        simp [flat, rtForm]
      case measure => simp [intOf]; omega
    · have hjn := Lib.hid (show j = rs.length by have := HN.out; omega)
      obtain ⟨A2, c2, rfl, hP⟩ := pt_parts hpile.1 hpile.2.1
      have hfl := Lib.hid (show flat ps = formAll false rs by rw [hflat, hjn.out, List.take_length])
      go_wp2_with fail
      refine (cat_own hP (by omega) (by rw [hfl.out]; have := HF.out; have := HN.out; omega)).mono ?_
      rw [hfl.out]
      rintro e w2 ⟨rfl, ho2, hb2⟩
      go_wp2
      go_ret2
      exact ⟨_, rfl, hpile.2.2.size, ho2, bl_trans hpile.2.2 hb2⟩

set_option maxHeartbeats 3200000 in
set_option maxRecDepth 100000 in
theorem nbytes_true (f : Int) (A : Option Addr) (n c : Nat) (rs : List Rt) (w : World) (h : Routes w w.heap.size A n rs) (hn : n ≤ 1000000) (hk : rs.all (rtOk f true) = true) :
    Calls Try.prog 12 #[.int .i64 f, .bool true, .slice A n c] w fun e w' => ∃ g, e = .returned (.tuple #[.slice (some ⟨g, 0, none⟩) (formAll true rs).length (formAll true rs).length, .bool true]) ∧ w.heap.size ≤ g ∧ Own w' g 5 ((formAll true rs).map (Value.int .u8)).toArray ∧ Below w.heap.size w w' := by
  have hz19 : #[.int .u32 0, .int .i64 0, .int .i64 0, .int .u8 0, .int .u8 0, .int .u8 0, .int .u8 0, .int .u8 0, .int .u8 0, .int .u8 0, .int .u8 0, .int .u8 0, .int .u8 0, .int .u8 0, .int .u8 0, .int .u8 0, .int .u8 0, .int .u8 0, .int .u8 0] = rt rt0 := rt_zero.symm
  have HN := Lib.hid h.1
  have HF := Lib.hid (formAll_len hk)
  have HK := Lib.hid hk
  clear hk
  go_enter Try.func12, Try.ntmps12
  go_wp2_with fail
  refine (nvalid_any f true _ _ _ rs _ h (by omega)).mono ?_
  rw [HK.out]
  rintro e w1 ⟨rfl, hb0⟩
  go_wp2_with fail
  go_loopw [8, 22] (fun v i wr => ∃ (j : Nat) (ps : List Part), j ≤ n ∧ i = .int .i64 j ∧ Pile w wr v ps ∧ flat ps = formAll true (rs.take j) ∧ ps.length ≤ 2 * j) (fun _ i _ => n - (intOf i).toNat)
  case atStart => exact ⟨0, [], Nat.zero_le _, rfl, ⟨World.ownsRow_nil _ _ _ _, by simp, hb0⟩, by simp [flat, formAll], Nat.zero_le _⟩
  case round =>
    obtain ⟨j, ps, hj, rfl, hpile, hflat, hpl⟩ := hrel
    by_cases hlt : j < n
    · obtain ⟨b, o, rfl, hbB, hok, hrg⟩ := (h.below hpile.2.2).at_ hlt
      have hrl := hok.1.1
      have hp0 := hok.2.1
      have hp1 := hok.2.2
      have hjl := Lib.hid (show j < rs.length by have := HN.out; omega)
      have hro := Lib.hid (show rtOk f true (nthR rs j) = true from List.all_eq_true.1 HK.out _ (nthR_mem hjl.out))
      have hpk := Lib.hid (show pfxOk (nthR rs j).f (nthR rs j).l (nthR rs j).a = true by have := hro.out; simp only [rtOk, Bool.and_eq_true] at this; exact this.1.2)
      have hi19 := Lib.hid (rt_infol hrl)
      have hi18 := Lib.hid (pfx_infol (f := (nthR rs j).f) (l := (nthR rs j).l) hrl)
      have hi20 := Lib.hid (rt_info hrl)
      have ho' := (Own.new wr 31 (rt rt0))
      have ho := ho'.setRow (cs' := rt (nthR rs j))
      have hb1 : Below wr.heap.size wr _ := bl_setRow (cs := rt (nthR rs j)) (bl_alloc (bl_refl wr) (.cells (rt rt0) 31)) (Nat.le_refl _)
      have hpile1 := hpile.step hb1
      have hc0 := ho.cell (rt_0 _)
      have HFl := Lib.hid hflat
      clear hflat hpile hb1
      go_wp2_with (first | (refine wpList_load_mid rfl 31 _ rfl b (o + j * 19) rfl (rt (nthR rs j)).toList (.struct (Try.prog.fieldsOf 31)) hrg rt_desc rfl hi19.out ?_) | (refine wpList_store_row rfl 31 _ _ rfl wr.heap.size (rt (nthR rs j)) rfl rfl 31 (rt rt0) ho' hi20.out (by rw [rt_size hrl]; rfl) (rt_one _) ?_))
      refine (put_yes 4 _ _ (by omega) (by omega) hp0 (by show (nthR rs j).p < 4294967296; omega)).mono ?_
      rintro e w2 ⟨rfl, ho2, hb2⟩
      have hpile2 := hpile1.step hb2
      have hor2 := ho.step hb2
      have hsz : ((wr.alloc (.cells (rt rt0) 31)).setRow wr.heap.size (rt (nthR rs j))).heap.size = wr.heap.size + 1 := by simp
      rw [hsz] at ho2
      clear hsz
      have hq2 : PT w2 ⟨some ⟨wr.heap.size + 1, 0, none⟩, 4, 4, digitsOf 4 (nthR rs j).p⟩ := ⟨(digitsOf_len 4 _).symm, digitsOf_range 4 _, _, rfl, ho2⟩
      clear hpile1 ho hb2
      go_wp2_with (first | (at_builtin; refine wpList_append_grow _ rfl _ _ rfl sl_slices w.heap.size _ _ _ rfl (hpile2.1.alloc _) (w2.heap.size + 1) (some ⟨w2.heap.size, 0, none⟩) 1 1 [_] rfl rfl (Shows.of_owned (Own.new _ _ _) (by simp)) (one1 rfl) (by unfold maxLen; omega) (by omega) (by have := hpile2.2.2.size; simp; omega) ?_; intro v3 w3 hown_w3 hgrow_w3; have hpx := (hpile2.own hor2 (by decide) hgrow_w3).pfxAt) | (refine wpList_load_mid rfl 29 _ rfl wr.heap.size 1 rfl (pfx (nthR rs j).f (nthR rs j).l (nthR rs j).a).toList (.struct (Try.prog.fieldsOf 29)) hpx pfx_desc rfl hi18.out ?_))
      have hpile3 := hpile2.more hq2 hown_w3 hgrow_w3
      clear hpile2 hown_w3 hgrow_w3
      refine (pbytes_own _ _ _ _ hok.1 hpk.out).mono ?_
      rintro e w4 ⟨g4, rfl, hg4, ho4, hb4⟩
      have hpile4 := hpile3.step hb4
      have hrng := pfxOk_range hpk.out
      have hq4 : PT w4 ⟨some ⟨g4, 0, none⟩, (pfxForm (nthR rs j).l (nthR rs j).a).length, (pfxForm (nthR rs j).l (nthR rs j).a).length, pfxForm (nthR rs j).l (nthR rs j).a⟩ := ⟨rfl, pfxForm_range hok.1 hrng.1 hrng.2, g4, rfl, ho4⟩
      go_wp2_with (at_builtin; refine wpList_append_grow _ rfl _ _ rfl sl_slices w.heap.size _ _ _ rfl (hpile4.1.alloc _) (w4.heap.size + 1) (some ⟨w4.heap.size, 0, none⟩) 1 1 [_] rfl rfl (Shows.of_owned (Own.new _ _ _) (by simp)) (one1 rfl) (by rw [List.length_append, List.length_singleton]; unfold maxLen; omega) (by rw [List.length_append, List.length_singleton]; omega) (by have := hpile4.2.2.size; simp; omega) ?_; intro v5 w5 hown_w5 hgrow_w5)
      have hpile5 := hpile4.more hq4 hown_w5 hgrow_w5
      go_roundw
      case rel =>
        refine ⟨j + 1, _, by omega, by go_num, hpile5, ?_, by simp; omega⟩
        rw [formAll_take hjl.out, ← HFl.out]
        simp [flat, rtForm]
      case measure => simp [intOf]; omega
    · have hjn := Lib.hid (show j = rs.length by have := HN.out; omega)
      obtain ⟨A2, c2, rfl, hP⟩ := pt_parts hpile.1 hpile.2.1
      have hfl := Lib.hid (show flat ps = formAll true rs by rw [hflat, hjn.out, List.take_length])
      go_wp2_with fail
      refine (cat_own hP (by omega) (by rw [hfl.out]; have := HF.out; have := HN.out; omega)).mono ?_
      rw [hfl.out]
      rintro e w2 ⟨rfl, ho2, hb2⟩
      go_wp2
      go_ret2
      exact ⟨_, rfl, hpile.2.2.size, ho2, bl_trans hpile.2.2 hb2⟩

end Go.Proofs.Ytmicpiaflgfojaa

/- XPqM3: XNb, XNr, XNs, XNo, XNd, XNe, XReq, XReqG, XPeq in one text -/
import Derived.Test.YtecbbjdcnlocdaaDoorRt
import Derived.Test.YtecbbjdcnlocdaaDoorPfxC
import Derived.Test.YtecbbjdcnlocdaaDoorPut
import Derived.Great.BuildSlice
import Derived.Laws.StructEq
/- nlri.Bytes -/
namespace Go.Proofs.YtecbbjdcnlocdaaDoor
open Go.RowKit

set_option maxRecDepth 100000 in
theorem sl_slices : SliceOf Tryd.prog 63 25 1 24 := SliceOf.mk Tryd.underlying63 (z := .slice none 0 0) (by kernel_rfl) rfl (by decide)
theorem own_below {w w' : World} {base : Nat} {e : TypeId} {size n : Nat} {v : Value} {xs : List Value} (h : w.ownsRow base e size v n xs) (hb : Below w.heap.size w w') : w'.ownsRow base e size v n xs :=
  h.kept (row := none) ⟨hb.os, hb.tape, hb.output, hb.size, fun k hk _ => hb.block k hk⟩ (by cases hv : v.ownBlock <;> simp)

/-- A part whose bytes are a block of their own. -/
def PT (w : World) (p : Part) : Prop := p.n = p.xs.length ∧ (∀ x ∈ p.xs, 0 ≤ x ∧ x ≤ 255) ∧ ∃ g, p.a = some ⟨g, 0, none⟩ ∧ Own w g 5 (p.xs.map (Value.int .u8)).toArray
theorem PT.ok {w : World} {p : Part} (h : PT w p) : p.ok w w.heap.size := by
  obtain ⟨hn, hr, g, ha, ho⟩ := h
  unfold Part.ok
  rw [hn, ha]
  exact Bytes.of_owned ho hr ho.lt
theorem PT.step {w w' : World} {p : Part} (h : PT w p) (hb : Below w.heap.size w w') : PT w' p := by
  obtain ⟨hn, hr, g, ha, ho⟩ := h
  exact ⟨hn, hr, g, ha, ho.step hb⟩
theorem PT.grown {w w' : World} {p : Part} {base n : Nat} {v : Value} {xs : List Value} (h : PT w p) (hown : w.ownsRow base 25 1 v n xs) (hg : w.grownBy w' v.ownBlock) : PT w' p := by
  obtain ⟨hn, hr, g, ha, ho⟩ := h
  exact ⟨hn, hr, g, ha, ho.grown hg (fun e => own_blk hown ho (by decide) e.symm)⟩
theorem pt_parts {w : World} {base : Nat} {v : Value} {ps : List Part} (hown : w.ownsRow base 25 1 v ps.length (ps.map Part.v)) (hp : ∀ p ∈ ps, PT w p) :
    ∃ A c, v = .slice A ps.length c ∧ Parts w w.heap.size A ps.length ps := by
  obtain ⟨A, c, rfl, _, hs⟩ := own_val hown
  exact ⟨A, c, rfl, rfl, fun p h => (hp p h).ok, hs⟩
/-- What is so before an append of one more part: the parts so far. -/
def Pile (W w : World) (v : Value) (ps : List Part) : Prop := w.ownsRow W.heap.size 25 1 v ps.length (ps.map Part.v) ∧ (∀ p ∈ ps, PT w p) ∧ Below W.heap.size W w
theorem Pile.step {W w w' : World} {v : Value} {ps : List Part} (h : Pile W w v ps) (hb : Below w.heap.size w w') : Pile W w' v ps :=
  ⟨own_below h.1 hb, fun p hp => (h.2.1 p hp).step hb, bl_trans h.2.2 hb⟩
theorem Pile.more {W w w' : World} {v v' : Value} {ps : List Part} {q : Part} (h : Pile W w v ps) (hq : PT w q) {o : Obj} (hown : w'.ownsRow W.heap.size 25 1 v' (ps.length + 1) (ps.map Part.v ++ [q.v])) (hg : (w.alloc o).grownBy w' v.ownBlock) : Pile W w' v' (ps ++ [q]) := by
  have ha : Below w.heap.size w (w.alloc o) := bl_alloc (bl_refl w) o
  have h1 := h.step ha
  refine ⟨by simpa using hown, ?_, ?_⟩
  · intro p hp
    rcases List.mem_append.1 hp with hp | hp
    · exact (h1.2.1 p hp).grown h1.1 hg
    · rw [List.mem_singleton] at hp
      subst hp
      exact (hq.step ha).grown h1.1 hg
  · exact h1.2.2.grown hg h1.2.2.size (own_base h1.1)
theorem Pile.own {W w w' : World} {v : Value} {ps : List Part} {g : Nat} {t : TypeId} {cs : Array Value} (h : Pile W w v ps) (ho : Own w g t cs) (hne : 25 ≠ t) {o : Obj} (hg : (w.alloc o).grownBy w' v.ownBlock) : Own w' g t cs :=
  (ho.alloc o).grown hg (fun e => own_blk (h.step (bl_alloc (bl_refl w) o)).1 (ho.alloc o) hne e.symm)
theorem Routes.step {w w' : World} {W : World} {A : Option Addr} {n : Nat} {rs : List Rt} (h : Routes W W.heap.size A n rs) (_ : Below W.heap.size W w) (hb : Below W.heap.size W w') : Routes w' W.heap.size A n rs := h.below hb

/-- The form of a route. -/
def rtForm (add : Bool) (r : Rt) : List Int := (if add then digitsOf 4 r.p else []) ++ pfxForm r.l r.a
def formAll (add : Bool) (rs : List Rt) : List Int := rs.flatMap (rtForm add)
theorem formAll_take {add : Bool} {rs : List Rt} {j : Nat} (h : j < rs.length) : formAll add (rs.take (j + 1)) = formAll add (rs.take j) ++ rtForm add (nthR rs j) := by
  unfold formAll
  rw [take_nthR h, List.flatMap_append]; simp
theorem rtForm_len {add : Bool} {r : Rt} {f : Int} (h : pfxOk f r.l r.a = true) : (rtForm add r).length ≤ 21 := by
  have := pfxOk_range h
  unfold rtForm pfxForm
  have h4 := digitsOf_len 4 r.p
  have h5 : (sizeOfBits r.l).toNat ≤ 16 := by unfold sizeOfBits; omega
  cases add <;> simp [h4] <;> omega
theorem formAll_len {add : Bool} {f : Int} {rs : List Rt} (h : rs.all (rtOk f add) = true) : (formAll add rs).length ≤ 21 * rs.length := by
  induction rs with
  | nil => simp [formAll]
  | cons r rs ih =>
    rw [List.all_cons, Bool.and_eq_true] at h
    have h1 := ih h.2
    have h2 : (rtForm add r).length ≤ 21 := rtForm_len (f := r.f) (by have := h.1; simp only [rtOk, Bool.and_eq_true] at this; exact this.1.2)
    unfold formAll at *
    rw [List.flatMap_cons, List.length_append, List.length_cons]
    omega

set_option maxHeartbeats 400000 in
set_option maxRecDepth 100000 in
theorem nbytes_no (f : Int) (add : Bool) (A : Option Addr) (n c : Nat) (rs : List Rt) (w : World) (h : Routes w w.heap.size A n rs) (hn : n ≤ 1000000000) (hk : rs.all (rtOk f add) = false) :
    Calls Tryd.prog 97 #[.int .i64 f, .bool add, .slice A n c] w fun e w' => e = .returned (.tuple #[.slice none 0 0, .bool false]) ∧ Below w.heap.size w w' := by
  go_enter Tryd.func97, Tryd.ntmps97
  go_wp2_with fail
  refine (nvalid_any f add _ _ _ rs _ h hn).mono ?_
  rw [hk]
  rintro e w1 ⟨rfl, hb⟩
  go_wp2
  go_ret2
  exact ⟨rfl, hb⟩

set_option maxHeartbeats 3200000 in
set_option maxRecDepth 100000 in
theorem nbytes_false (f : Int) (A : Option Addr) (n c : Nat) (rs : List Rt) (w : World) (h : Routes w w.heap.size A n rs) (hn : n ≤ 1000000) (hk : rs.all (rtOk f false) = true) :
    Calls Tryd.prog 97 #[.int .i64 f, .bool false, .slice A n c] w fun e w' => ∃ g, e = .returned (.tuple #[.slice (some ⟨g, 0, none⟩) (formAll false rs).length (formAll false rs).length, .bool true]) ∧ w.heap.size ≤ g ∧ Own w' g 5 ((formAll false rs).map (Value.int .u8)).toArray ∧ Below w.heap.size w w' := by
  have hz19 : #[.int .u32 0, .int .i64 0, .int .i64 0, .int .u8 0, .int .u8 0, .int .u8 0, .int .u8 0, .int .u8 0, .int .u8 0, .int .u8 0, .int .u8 0, .int .u8 0, .int .u8 0, .int .u8 0, .int .u8 0, .int .u8 0, .int .u8 0, .int .u8 0, .int .u8 0] = rt rt0 := rt_zero.symm
  have HN := Lib.hid h.1
  have HF := Lib.hid (formAll_len hk)
  have HK := Lib.hid hk
  clear hk
  go_enter Tryd.func97, Tryd.ntmps97
  go_wp2_with fail
  refine (nvalid_any f false _ _ _ rs _ h (by omega)).mono ?_
  rw [HK.out]
  rintro e w1 ⟨rfl, hb0⟩
  go_wp2_with fail
  go_loopw [8, 22] (fun v i wr => ∃ (j : Nat) (ps : List Part), j ≤ n ∧ i = .int .i64 j ∧ Pile w wr v ps ∧ flat ps = formAll false (rs.take j) ∧ ps.length ≤ 2 * j) (fun _ i _ => n - (intOf i).toNat)
  case atStart => exact ⟨0, [], Nat.zero_le _, rfl, ⟨World.ownsRow_nil _ _ _ _, by simp, hb0⟩, by simp [flat, formAll], Nat.zero_le _⟩
  case round =>
    obtain ⟨j, ps, hj, rfl, hpile, hflat, hpl⟩ := hrel
    by_cases hlt : j < n
    · obtain ⟨b, o, rfl, hbB, hok, hrg⟩ := (h.below hpile.2.2).at_ hlt
      have hrl := hok.1.1
      have hp0 := hok.2.1
      have hp1 := hok.2.2
      have hjl := Lib.hid (show j < rs.length by have := HN.out; omega)
      have hro := Lib.hid (show rtOk f false (nthR rs j) = true from List.all_eq_true.1 HK.out _ (nthR_mem hjl.out))
      have hpk := Lib.hid (show pfxOk (nthR rs j).f (nthR rs j).l (nthR rs j).a = true by have := hro.out; simp only [rtOk, Bool.and_eq_true] at this; exact this.1.2)
      have hi19 := Lib.hid (rt_infol hrl)
      have hi18 := Lib.hid (pfx_infol (f := (nthR rs j).f) (l := (nthR rs j).l) hrl)
      have hi20 := Lib.hid (rt_info hrl)
      have ho' := (Own.new wr 119 (rt rt0))
      have ho := ho'.setRow (cs' := rt (nthR rs j))
      have hb1 : Below wr.heap.size wr _ := bl_setRow (cs := rt (nthR rs j)) (bl_alloc (bl_refl wr) (.cells (rt rt0) 119)) (Nat.le_refl _)
      have hpile1 := hpile.step hb1
      have hc0 := ho.cell (rt_0 _)
      have HFl := Lib.hid hflat
      clear hflat hpile hb1
      go_wp2_with (first | (refine wpList_load_mid rfl 119 _ rfl b (o + j * 19) rfl (rt (nthR rs j)).toList (.struct (Tryd.prog.fieldsOf 119)) hrg rt_desc rfl hi19.out ?_) | (refine wpList_store_row rfl 119 _ _ rfl wr.heap.size (rt (nthR rs j)) rfl rfl 119 (rt rt0) ho' hi20.out (by rw [rt_size hrl]; rfl) (rt_one _) ?_) | (refine wpList_load_mid rfl 41 _ rfl wr.heap.size 1 rfl (pfx (nthR rs j).f (nthR rs j).l (nthR rs j).a).toList (.struct (Tryd.prog.fieldsOf 41)) ho.pfxAt pfx_desc rfl hi18.out ?_))
      refine (pbytes_own _ _ _ _ hok.1 hpk.out).mono ?_
      rintro e w4 ⟨g4, rfl, hg4, ho4, hb4⟩
      have hpile4 := hpile1.step hb4
      have hrng := pfxOk_range hpk.out
      have hq4 : PT w4 ⟨some ⟨g4, 0, none⟩, (pfxForm (nthR rs j).l (nthR rs j).a).length, (pfxForm (nthR rs j).l (nthR rs j).a).length, pfxForm (nthR rs j).l (nthR rs j).a⟩ := ⟨rfl, pfxForm_range hok.1 hrng.1 hrng.2, g4, rfl, ho4⟩
      go_wp2_with (at_builtin; refine wpList_append_grow _ rfl _ _ rfl sl_slices w.heap.size _ _ _ rfl (hpile4.1.alloc _) (w4.heap.size + 1) (some ⟨w4.heap.size, 0, none⟩) 1 1 [_] rfl rfl (Shows.of_owned (Own.new _ _ _) (by simp)) (one1 rfl) (by unfold maxLen; omega) (by omega) (by have := hpile4.2.2.size; simp; omega) ?_; intro v5 w5 hown_w5 hgrow_w5)
      have hpile5 := hpile4.more hq4 hown_w5 hgrow_w5
      go_roundw
      case rel =>
        refine ⟨j + 1, _, by omega, by go_num, hpile5, ?_, by simp; omega⟩
        rw [formAll_take hjl.out, ← HFl.out]
        simp [flat, rtForm]
      case measure => simp [intOf]; omega
    · have hjn := Lib.hid (show j = rs.length by have := HN.out; omega)
      obtain ⟨A2, c2, rfl, hP⟩ := pt_parts hpile.1 hpile.2.1
      have hfl := Lib.hid (show flat ps = formAll false rs by rw [hflat, hjn.out, List.take_length])
      go_wp2_with fail
      refine (cat_own hP (by omega) (by rw [hfl.out]; have := HF.out; have := HN.out; omega)).mono ?_
      rw [hfl.out]
      rintro e w2 ⟨rfl, ho2, hb2⟩
      go_wp2
      go_ret2
      exact ⟨_, rfl, hpile.2.2.size, ho2, bl_trans hpile.2.2 hb2⟩

set_option maxHeartbeats 3200000 in
set_option maxRecDepth 100000 in
theorem nbytes_true (f : Int) (A : Option Addr) (n c : Nat) (rs : List Rt) (w : World) (h : Routes w w.heap.size A n rs) (hn : n ≤ 1000000) (hk : rs.all (rtOk f true) = true) :
    Calls Tryd.prog 97 #[.int .i64 f, .bool true, .slice A n c] w fun e w' => ∃ g, e = .returned (.tuple #[.slice (some ⟨g, 0, none⟩) (formAll true rs).length (formAll true rs).length, .bool true]) ∧ w.heap.size ≤ g ∧ Own w' g 5 ((formAll true rs).map (Value.int .u8)).toArray ∧ Below w.heap.size w w' := by
  have hz19 : #[.int .u32 0, .int .i64 0, .int .i64 0, .int .u8 0, .int .u8 0, .int .u8 0, .int .u8 0, .int .u8 0, .int .u8 0, .int .u8 0, .int .u8 0, .int .u8 0, .int .u8 0, .int .u8 0, .int .u8 0, .int .u8 0, .int .u8 0, .int .u8 0, .int .u8 0] = rt rt0 := rt_zero.symm
  have HN := Lib.hid h.1
  have HF := Lib.hid (formAll_len hk)
  have HK := Lib.hid hk
  clear hk
  go_enter Tryd.func97, Tryd.ntmps97
  go_wp2_with fail
  refine (nvalid_any f true _ _ _ rs _ h (by omega)).mono ?_
  rw [HK.out]
  rintro e w1 ⟨rfl, hb0⟩
  go_wp2_with fail
  go_loopw [8, 22] (fun v i wr => ∃ (j : Nat) (ps : List Part), j ≤ n ∧ i = .int .i64 j ∧ Pile w wr v ps ∧ flat ps = formAll true (rs.take j) ∧ ps.length ≤ 2 * j) (fun _ i _ => n - (intOf i).toNat)
  case atStart => exact ⟨0, [], Nat.zero_le _, rfl, ⟨World.ownsRow_nil _ _ _ _, by simp, hb0⟩, by simp [flat, formAll], Nat.zero_le _⟩
  case round =>
    obtain ⟨j, ps, hj, rfl, hpile, hflat, hpl⟩ := hrel
    by_cases hlt : j < n
    · obtain ⟨b, o, rfl, hbB, hok, hrg⟩ := (h.below hpile.2.2).at_ hlt
      have hrl := hok.1.1
      have hp0 := hok.2.1
      have hp1 := hok.2.2
      have hjl := Lib.hid (show j < rs.length by have := HN.out; omega)
      have hro := Lib.hid (show rtOk f true (nthR rs j) = true from List.all_eq_true.1 HK.out _ (nthR_mem hjl.out))
      have hpk := Lib.hid (show pfxOk (nthR rs j).f (nthR rs j).l (nthR rs j).a = true by have := hro.out; simp only [rtOk, Bool.and_eq_true] at this; exact this.1.2)
      have hi19 := Lib.hid (rt_infol hrl)
      have hi18 := Lib.hid (pfx_infol (f := (nthR rs j).f) (l := (nthR rs j).l) hrl)
      have hi20 := Lib.hid (rt_info hrl)
      have ho' := (Own.new wr 119 (rt rt0))
      have ho := ho'.setRow (cs' := rt (nthR rs j))
      have hb1 : Below wr.heap.size wr _ := bl_setRow (cs := rt (nthR rs j)) (bl_alloc (bl_refl wr) (.cells (rt rt0) 119)) (Nat.le_refl _)
      have hpile1 := hpile.step hb1
      have hc0 := ho.cell (rt_0 _)
      have HFl := Lib.hid hflat
      clear hflat hpile hb1
      go_wp2_with (first | (refine wpList_load_mid rfl 119 _ rfl b (o + j * 19) rfl (rt (nthR rs j)).toList (.struct (Tryd.prog.fieldsOf 119)) hrg rt_desc rfl hi19.out ?_) | (refine wpList_store_row rfl 119 _ _ rfl wr.heap.size (rt (nthR rs j)) rfl rfl 119 (rt rt0) ho' hi20.out (by rw [rt_size hrl]; rfl) (rt_one _) ?_))
      refine (put_yes 4 _ _ (by omega) (by omega) hp0 (by show (nthR rs j).p < 4294967296; omega)).mono ?_
      rintro e w2 ⟨rfl, ho2, hb2⟩
      have hpile2 := hpile1.step hb2
      have hor2 := ho.step hb2
      have hsz : ((wr.alloc (.cells (rt rt0) 119)).setRow wr.heap.size (rt (nthR rs j))).heap.size = wr.heap.size + 1 := by simp
      rw [hsz] at ho2
      clear hsz
      have hq2 : PT w2 ⟨some ⟨wr.heap.size + 1, 0, none⟩, 4, 4, digitsOf 4 (nthR rs j).p⟩ := ⟨(digitsOf_len 4 _).symm, digitsOf_range 4 _, _, rfl, ho2⟩
      clear hpile1 ho hb2
      go_wp2_with (first | (at_builtin; refine wpList_append_grow _ rfl _ _ rfl sl_slices w.heap.size _ _ _ rfl (hpile2.1.alloc _) (w2.heap.size + 1) (some ⟨w2.heap.size, 0, none⟩) 1 1 [_] rfl rfl (Shows.of_owned (Own.new _ _ _) (by simp)) (one1 rfl) (by unfold maxLen; omega) (by omega) (by have := hpile2.2.2.size; simp; omega) ?_; intro v3 w3 hown_w3 hgrow_w3; have hpx := (hpile2.own hor2 (by decide) hgrow_w3).pfxAt) | (refine wpList_load_mid rfl 41 _ rfl wr.heap.size 1 rfl (pfx (nthR rs j).f (nthR rs j).l (nthR rs j).a).toList (.struct (Tryd.prog.fieldsOf 41)) hpx pfx_desc rfl hi18.out ?_))
      have hpile3 := hpile2.more hq2 hown_w3 hgrow_w3
      clear hpile2 hown_w3 hgrow_w3
      refine (pbytes_own _ _ _ _ hok.1 hpk.out).mono ?_
      rintro e w4 ⟨g4, rfl, hg4, ho4, hb4⟩
      have hpile4 := hpile3.step hb4
      have hrng := pfxOk_range hpk.out
      have hq4 : PT w4 ⟨some ⟨g4, 0, none⟩, (pfxForm (nthR rs j).l (nthR rs j).a).length, (pfxForm (nthR rs j).l (nthR rs j).a).length, pfxForm (nthR rs j).l (nthR rs j).a⟩ := ⟨rfl, pfxForm_range hok.1 hrng.1 hrng.2, g4, rfl, ho4⟩
      go_wp2_with (at_builtin; refine wpList_append_grow _ rfl _ _ rfl sl_slices w.heap.size _ _ _ rfl (hpile4.1.alloc _) (w4.heap.size + 1) (some ⟨w4.heap.size, 0, none⟩) 1 1 [_] rfl rfl (Shows.of_owned (Own.new _ _ _) (by simp)) (one1 rfl) (by rw [List.length_append, List.length_singleton]; unfold maxLen; omega) (by rw [List.length_append, List.length_singleton]; omega) (by have := hpile4.2.2.size; simp; omega) ?_; intro v5 w5 hown_w5 hgrow_w5)
      have hpile5 := hpile4.more hq4 hown_w5 hgrow_w5
      go_roundw
      case rel =>
        refine ⟨j + 1, _, by omega, by go_num, hpile5, ?_, by simp; omega⟩
        rw [formAll_take hjl.out, ← HFl.out]
        simp [flat, rtForm]
      case measure => simp [intOf]; omega
    · have hjn := Lib.hid (show j = rs.length by have := HN.out; omega)
      obtain ⟨A2, c2, rfl, hP⟩ := pt_parts hpile.1 hpile.2.1
      have hfl := Lib.hid (show flat ps = formAll true rs by rw [hflat, hjn.out, List.take_length])
      go_wp2_with fail
      refine (cat_own hP (by omega) (by rw [hfl.out]; have := HF.out; have := HN.out; omega)).mono ?_
      rw [hfl.out]
      rintro e w2 ⟨rfl, ho2, hb2⟩
      go_wp2
      go_ret2
      exact ⟨_, rfl, hpile.2.2.size, ho2, bl_trans hpile.2.2 hb2⟩

end Go.Proofs.YtecbbjdcnlocdaaDoor

/- peerageref03.Valid, form, Bytes -/
namespace Go.Proofs.YtecbbjdcnlocdaaDoor
open Go.RowKit

set_option maxHeartbeats 800000 in
set_option maxRecDepth 100000 in
theorem rright_any (f : Int) (add : Bool) (r : Rt) (w : World) (hok : r.Ok) :
    Calls Tryd.prog 127 #[.int .i64 f, .bool add, .agg (rt r)] w fun e w' => e = .returned (.bool (rtOk f add r)) ∧ Below w.heap.size w w' := by
  have hi18 := Lib.hid (pfx_infol (f := r.f) (l := r.l) hok.1.1)
  have ho := Own.new w 119 (rt r)
  have hb0 := bl_alloc (bl_refl w) (.cells (rt r) 119)
  have hpx := ho.pfxAt
  have HO := Lib.hid (show rtOk f add r = (pfxOk r.f r.l r.a && decide (r.f = f) && (add || decide (r.p = 0))) by unfold rtOk; rw [Bool.and_comm (decide _)])
  go_enter Tryd.func127, Tryd.ntmps127
  go_wp2_with (refine wpList_load_mid rfl 41 _ rfl w.heap.size 1 rfl (pfx r.f r.l r.a).toList (.struct (Tryd.prog.fieldsOf 41)) hpx pfx_desc rfl hi18.out ?_)
  refine (rpvalid_any _ _ _ _ hok.1).mono ?_
  rintro e w1 ⟨rfl, hb1⟩
  have ho1 := ho.step hb1
  have hc0 := ho1.cell (rt_0 _)
  have hc1 := ho1.cell (rt_1 _)
  have hb2 := bl_trans hb0 hb1
  clear ho hb0 hpx hb1
  go_wp2_with fail
  all_goals
    go_ret
    refine ⟨?_, hb2⟩
    rw [HO.out]
    first | (simp_all; done) | (simp_all; rfl)

set_option maxHeartbeats 800000 in
set_option maxRecDepth 100000 in
theorem rvalid_any (f : Int) (add : Bool) (A : Option Addr) (n c : Nat) (rs : List Rt) (w : World) (h : Routes w w.heap.size A n rs) (hn : n ≤ 1000000000) :
    Calls Tryd.prog 106 #[.int .i64 f, .bool add, .slice A n c] w fun e w' => e = .returned (.bool (rs.all (rtOk f add))) ∧ Below w.heap.size w w' := by
  have HN := Lib.hid h.1
  go_enter Tryd.func106, Tryd.ntmps106
  go_wp2_with fail
  go_loopw [7] (fun i wr => (∃ j : Nat, j ≤ n ∧ i = .int .i64 j ∧ (rs.take j).all (rtOk f add) = true) ∧ Below w.heap.size w wr) (fun i _ => n - (intOf i).toNat)
  case atStart => exact ⟨⟨0, Nat.zero_le _, rfl, by simp⟩, bl_refl w⟩
  case round =>
    obtain ⟨⟨j, hj, rfl, hall⟩, hbw⟩ := hrel
    by_cases hlt : j < n
    · obtain ⟨b, o, rfl, hbB, hok, hrg⟩ := (h.below hbw).at_ hlt
      have hi19 := Lib.hid (rt_infol hok.1.1)
      have hj' := Lib.hid (show j < rs.length by have := HN.out; omega)
      go_wp2_with (refine wpList_load_mid rfl 119 _ rfl b (o + j * 19) rfl (rt (nthR rs j)).toList (.struct (Tryd.prog.fieldsOf 119)) hrg rt_desc rfl hi19.out ?_)
      refine (rright_any f add (nthR rs j) _ hok).mono ?_
      by_cases hr : rtOk f add (nthR rs j) = true
      · rw [hr]
        rintro e w2 ⟨rfl, hb2⟩
        have hb3 := bl_trans hbw hb2
        go_wp2
        go_roundw
        case rel => exact ⟨⟨j + 1, by omega, by go_num, all_step hj'.out hall hr⟩, hb3⟩
        case measure => simp [intOf]; omega
      · have hr' : rtOk f add (nthR rs j) = false := by simpa using hr
        rw [hr']
        rintro e w2 ⟨rfl, hb2⟩
        have hb3 := bl_trans hbw hb2
        go_wp2
        go_ret
        exact ⟨by rw [all_no hj'.out hr']; rfl, hb3⟩
    · have hjn := Lib.hid (show j = rs.length by have := HN.out; omega)
      go_wp2
      go_ret
      refine ⟨?_, hbw⟩
      rw [hjn.out, List.take_length] at hall
      rw [hall]; rfl

theorem own_base_le {w : World} {base b : Nat} {e : TypeId} {size n : Nat} {v : Value} {xs : List Value} (h : w.ownsRow base e size v n xs) (hb : b ≤ base) : w.ownsRow b e size v n xs := by
  refine ⟨h.1, ?_⟩
  rcases h.2 with hn | ⟨g, cap, cur, hv, hbg, rest⟩
  · exact .inl hn
  · exact .inr ⟨g, cap, cur, hv, Nat.le_trans hb hbg, rest⟩

end Go.Proofs.YtecbbjdcnlocdaaDoor

/- nlri.Size -/
namespace Go.Proofs.YtecbbjdcnlocdaaDoor
open Go.RowKit

theorem pfxForm_len {f l : Int} {a : List Int} (ha : IsAddr a) (h : pfxOk f l a = true) : ((pfxForm l a).length : Int) = 1 + (l + 7) / 8 := by
  have := pfxOk_range h
  have h5 : 0 ≤ sizeOfBits l ∧ sizeOfBits l ≤ 16 := by unfold sizeOfBits; omega
  have h6 := ha.1
  unfold pfxForm
  rw [List.length_cons, List.length_take, h6]
  unfold sizeOfBits at *
  omega

end Go.Proofs.YtecbbjdcnlocdaaDoor

/- the closure of nlri.Read -/
namespace Go.Proofs.YtecbbjdcnlocdaaDoor
open Go.RowKit

def pOk (f : Int) (xs : List Int) : Bool := match xs with
  | [] => false
  | x :: ys => lenOk f x && decide ((sizeOfBits x).toNat ≤ ys.length)
def pN (xs : List Int) : Nat := 1 + (sizeOfBits (xs.headD 0)).toNat
def pF (f : Int) (xs : List Int) : Int := if pOk f xs then f else 0
def pL (f : Int) (xs : List Int) : Int := if pOk f xs then xs.headD 0 else 0
def pA (f : Int) (xs : List Int) : List Int := if pOk f xs then maskL (xs.headD 0) (padTo ((xs.drop 1).take (sizeOfBits (xs.headD 0)).toNat)) else zero16
theorem pA_addr {f : Int} {xs : List Int} (h : ∀ x ∈ xs, 0 ≤ x ∧ x ≤ 255) : IsAddr (pA f xs) := by
  unfold pA
  by_cases hk : pOk f xs = true
  · rw [if_pos hk]
    match xs, hk, h with
    | x :: ys, hk, h =>
      simp only [pOk, Bool.and_eq_true, decide_eq_true_eq] at hk
      have hr := lenOk_range hk.1
      have h5 : sizeOfBits x ≤ 16 := by unfold sizeOfBits; omega
      exact maskL_addr x (padTo_addr (by simp only [List.drop_one, List.tail_cons, List.headD_cons, List.length_take]; omega) (fun y hy => h y (List.mem_cons_of_mem _ (List.mem_of_mem_take hy))))
  · rw [if_neg hk]; exact zero16_addr

set_option maxRecDepth 100000 in
theorem pread_any (B : Nat) (f : Int) (xs : List Int) (g p : Nat) (w : World) (h : RdrB B w g xs p) (hl : xs.length ≤ 1000000000) (hp : p ≤ 999999999) :
    Calls Tryd.prog 28 #[.int .i64 f, .pointer (some ⟨g, 0, none⟩)] w fun e w' => e = .returned (.tuple #[.agg (pfx (pF f xs) (pL f xs) (pA f xs)), .bool (pOk f xs)]) ∧ (pOk f xs = true → RdrB B w' g (xs.drop (pN xs)) (p + pN xs)) ∧ w.grownBy w' (some g) := by
  match xs, h, hl with
  | [], h, hl =>
    refine (pread_nil f g p w h.rdr).mono ?_
    rintro e w' ⟨rfl, hb⟩
    exact ⟨rfl, (by intro hh; simp [pOk] at hh), only_of_below hb _⟩
  | x :: ys, h, hl =>
    by_cases h1 : lenOk f x = true
    · by_cases h2 : (sizeOfBits x).toNat ≤ ys.length
      · have hk : pOk f (x :: ys) = true := by simp [pOk, h1, h2]
        refine (pread_yes B f x ys g p w h hl hp h1 h2).mono ?_
        rintro e w' ⟨rfl, hr, hg⟩
        refine ⟨by simp [pF, pL, pA, hk], fun _ => ?_, hg⟩
        have e1 : (x :: ys).drop (pN (x :: ys)) = ys.drop (sizeOfBits x).toNat := by unfold pN; rw [Nat.add_comm, List.headD_cons, List.drop_succ_cons]
        have e2 : p + pN (x :: ys) = p + 1 + (sizeOfBits x).toNat := by unfold pN; rw [List.headD_cons]; omega
        rw [e1, e2]; exact hr
      · have hk : pOk f (x :: ys) = false := by simp [pOk, h2]
        refine (pread_short B f x ys g p w h hl hp h1 (by omega)).mono ?_
        rintro e w' ⟨rfl, hr, hg⟩
        exact ⟨by simp [pF, pL, pA, hk], (by rw [hk]; intro hh; cases hh), hg⟩
    · have h1' : lenOk f x = false := by simpa using h1
      have hk : pOk f (x :: ys) = false := by simp [pOk, h1']
      refine (pread_bad B f x ys g p w h hl (by omega) h1').mono ?_
      rintro e w' ⟨rfl, hr, hg⟩
      exact ⟨by simp [pF, pL, pA, hk], (by rw [hk]; intro hh; cases hh), hg⟩

/-- One route before the bytes xs. -/
def oneOk (f : Int) (add : Bool) (xs : List Int) : Bool := if add then decide (4 ≤ xs.length) && pOk f (xs.drop 4) else pOk f xs
def oneN (add : Bool) (xs : List Int) : Nat := if add then 4 + pN (xs.drop 4) else pN xs
def oneR (f : Int) (add : Bool) (xs : List Int) : Rt := if add then (if 4 ≤ xs.length then ⟨big (xs.take 4), pF f (xs.drop 4), pL f (xs.drop 4), pA f (xs.drop 4)⟩ else rt0) else ⟨0, pF f xs, pL f xs, pA f xs⟩

set_option maxRecDepth 100000 in
theorem built_rt (p f l : Int) {m : List Int} (h : m.length = 16) : Tryd.prog.built 119 [(0, .int .u32 p), (1, .agg (pfx f l m))] = some (rt ⟨p, f, l, m⟩) := by
  obtain ⟨x0, x1, x2, x3, x4, x5, x6, x7, x8, x9, x10, x11, x12, x13, x14, x15, rfl⟩ := list16 h
  kernel_rfl

end Go.Proofs.YtecbbjdcnlocdaaDoor

/- nlri.Read -/
namespace Go.Proofs.YtecbbjdcnlocdaaDoor
open Go.RowKit

/-- The first p of the bytes xs are the routes rs. -/
inductive Parsed (f : Int) (add : Bool) (xs : List Int) : Nat → List Rt → Prop where
  | nil : Parsed f add xs 0 []
  | cons {p : Nat} {rs : List Rt} : Parsed f add xs p rs → p < xs.length → oneOk f add (xs.drop p) = true → Parsed f add xs (p + oneN add (xs.drop p)) (rs ++ [oneR f add (xs.drop p)])
theorem pOk_len {f : Int} {xs : List Int} (h : pOk f xs = true) : pN xs ≤ xs.length := by
  match xs, h with
  | x :: ys, h =>
    simp only [pOk, Bool.and_eq_true, decide_eq_true_eq] at h
    unfold pN
    rw [List.headD_cons, List.length_cons]
    omega
theorem oneOk_len {f : Int} {add : Bool} {xs : List Int} (h : oneOk f add xs = true) : oneN add xs ≤ xs.length := by
  cases add
  · exact pOk_len h
  · simp only [oneOk, if_true, Bool.and_eq_true, decide_eq_true_eq] at h
    have := pOk_len h.2
    rw [List.length_drop] at this
    show 4 + pN (xs.drop 4) ≤ _
    omega
theorem oneN_pos (add : Bool) (xs : List Int) : 1 ≤ oneN add xs := by
  cases add
  · show 1 ≤ 1 + _; omega
  · show 1 ≤ 4 + _; omega
theorem Parsed.le {f : Int} {add : Bool} {xs : List Int} {p : Nat} {rs : List Rt} (h : Parsed f add xs p rs) : p ≤ xs.length ∧ rs.length ≤ p := by
  induction h with
  | nil => exact ⟨Nat.zero_le _, Nat.le_refl _⟩
  | @cons p rs h hp hk ih =>
    have h1 := oneOk_len hk
    have h2 := oneN_pos add (xs.drop p)
    rw [List.length_drop] at h1
    rw [List.length_append, List.length_singleton]
    omega
theorem oneR_ok {f : Int} {add : Bool} {xs : List Int} (h : ∀ x ∈ xs, 0 ≤ x ∧ x ≤ 255) : (oneR f add xs).Ok := by
  cases add
  · exact ⟨pA_addr h, by show (0 : Int) ≤ 0; omega, by show (0 : Int) ≤ _; omega⟩
  · by_cases h4 : 4 ≤ xs.length
    · have e : oneR f true xs = ⟨big (xs.take 4), pF f (xs.drop 4), pL f (xs.drop 4), pA f (xs.drop 4)⟩ := by simp [oneR, h4]
      rw [e]
      have hb := big_range 4 (xs.take 4) (by rw [List.length_take]; omega) (fun x hx => h x (List.mem_of_mem_take hx))
      exact ⟨pA_addr (fun x hx => h x (List.mem_of_mem_drop hx)), hb.1, by have := hb.2; show big _ ≤ _; omega⟩
    · have e : oneR f true xs = rt0 := by simp [oneR, h4]
      rw [e]
      exact ⟨zero16_addr, by show (0 : Int) ≤ 0; omega, by show (0 : Int) ≤ _; omega⟩
theorem Parsed.ok {f : Int} {add : Bool} {xs : List Int} {p : Nat} {rs : List Rt} (h : Parsed f add xs p rs) (hr : ∀ x ∈ xs, 0 ≤ x ∧ x ≤ 255) : ∀ r ∈ rs, r.Ok := by
  induction h with
  | nil => intro r h; cases h
  | cons h hp hk ih =>
    intro r hm
    rcases List.mem_append.1 hm with hm | hm
    · exact ih r hm
    · rw [List.mem_singleton] at hm; subst hm
      exact oneR_ok (fun x hx => hr x (List.mem_of_mem_drop hx))

def flatR (rs : List Rt) : List Value := rs.flatMap fun r => (rt r).toList
theorem flatR_get : ∀ {rs : List Rt}, (∀ r ∈ rs, r.Ok) → ∀ (i : Nat) (r : Rt), rs[i]? = some r → ∀ (j : Nat) (v : Value), (rt r).toList[j]? = some v → (flatR rs)[i * 19 + j]? = some v
  | [], _, i, r, hi, _, _, _ => by simp at hi
  | q :: rs, h, i, r, hi, j, v, hj => by
    have hq : (rt q).toList.length = 19 := by rw [Array.length_toList, rt_size (h q (List.mem_cons_self ..)).1.1]
    show ((rt q).toList ++ flatR rs)[_]? = _
    match i, hi with
    | 0, hi =>
      have e : q = r := by simpa using hi
      subst e
      rw [List.getElem?_append_left (by rw [Nat.zero_mul, Nat.zero_add]; exact (List.getElem?_eq_some_iff.1 hj).1), Nat.zero_mul, Nat.zero_add]
      exact hj
    | i + 1, hi =>
      rw [List.getElem?_append_right (by omega), hq, show (i + 1) * 19 + j - 19 = i * 19 + j by omega]
      exact flatR_get (fun r hr => h r (List.mem_cons_of_mem _ hr)) i r (by simpa using hi) j v hj
theorem own_routes {w : World} {base n : Nat} {v : Value} {rs : List Rt} (h : w.ownsRow base 119 19 v n (flatR rs)) (hr : ∀ r ∈ rs, r.Ok) (hn : n = rs.length) : ∃ A c, v = .slice A n c ∧ n ≤ c ∧ Routes w w.heap.size A n rs := by
  obtain ⟨A, c, rfl, hc, hs⟩ := own_val h
  refine ⟨A, c, rfl, hc, hn, hr, ?_⟩
  match rs, hr, hs with
  | [], _, _ => exact .inl rfl
  | q :: rs, hr, hs =>
    right
    have hq : (rt q).toList.length = 19 := by rw [Array.length_toList, rt_size (hr q (List.mem_cons_self ..)).1.1]
    rcases hs with h0 | ⟨b, o, hA, hb, hcc⟩
    · have : (flatR (q :: rs)).length = 0 := by rw [h0]; rfl
      have e : flatR (q :: rs) = (rt q).toList ++ flatR rs := rfl
      rw [e, List.length_append] at this
      omega
    · refine ⟨b, o, hA, hb, fun i r hi j u hu => ?_⟩
      have := hcc _ _ (flatR_get hr i r hi j u hu)
      rw [← Nat.add_assoc] at this
      exact this

def lit19 : Array Value := #[.int .u32 0, .int .i64 0, .int .i64 0, .int .u8 0, .int .u8 0, .int .u8 0, .int .u8 0, .int .u8 0, .int .u8 0, .int .u8 0, .int .u8 0, .int .u8 0, .int .u8 0, .int .u8 0, .int .u8 0, .int .u8 0, .int .u8 0, .int .u8 0, .int .u8 0]
set_option maxRecDepth 100000 in
theorem sl_routes : SliceOf Tryd.prog 53 119 19 40 := SliceOf.mk Tryd.underlying53 (z := .agg lit19) (by kernel_rfl) rfl (by decide)
theorem fill_route {r : Rt} (h : r.a.length = 16) : Instr.fill (fun i => some (i * 19, 19)) ((Array.range (1 * 19)).map ((Value.agg lit19).cells[· % (Value.agg lit19).cells.size]!)) [(0, .agg (rt r))] = some (rt r) := by
  obtain ⟨p, f, l, a⟩ := r
  obtain ⟨x0, x1, x2, x3, x4, x5, x6, x7, x8, x9, x10, x11, x12, x13, x14, x15, rfl⟩ := list16 h
  kernel_rfl
set_option maxRecDepth 100000 in
theorem wpList_build_route {ops : Array Oper} {rest : List Oper} {o : Oper} {a : Act} {w : World} {Q : Exit → Act → World → Prop} (hg : o.guard = none) (parts : Array (Nat × Operand)) (ho : o.op = .buildSlice 53 1 parts)
    (r : Rt) (hr : r.a.length = 16) (hp : (parts.map fun (i, x) => (i, a.eval x)).toList = [(0, .agg (rt r))])
    (h : wpList Tryd.prog ops Q rest (a.put o.dst (.slice (some ⟨w.heap.size, 0, none⟩) 1 1)) (w.alloc (.cells (rt r) 119))) : wpList Tryd.prog ops Q (o :: rest) a w := by
  have h1 : (Tryd.prog.info? 119).map (·.size) = some 19 := by kernel_rfl
  have h2 : (Tryd.prog.info? 119).bind (·.zero) = some (.agg lit19) := by kernel_rfl
  cases hie : Tryd.prog.info? 119 with
  | none => rw [hie] at h1; cases h1
  | some ie =>
    rw [hie] at h1 h2
    simp only [Option.map_some, Option.some.injEq, Option.bind_some] at h1 h2
    refine wpList_buildSlice hg 53 119 1 parts ho (rt r) ie (.agg lit19) Tryd.underlying53 hie h2 (by rw [h1]; decide) (by rw [h1]; decide) ?_ h
    rw [hp, h1]
    exact fill_route hr
theorem rt_one_mem {r : Rt} : ∀ u ∈ (rt r).toList, u.oneCell' = true := fun u hu => Array.all_eq_true_iff_forall_mem.1 (rt_one r) u (by simpa using hu)
def lenOf : Value → Nat
  | .slice _ n _ => n
  | _ => 0
end Go.Proofs.YtecbbjdcnlocdaaDoor

/- nlri.Read: the walk -/
namespace Go.Proofs.YtecbbjdcnlocdaaDoor
open Go.RowKit

theorem gr_row {a b c : World} {g : Nat} {row : Option Nat} (h : a.grownBy b (some g)) (k : b.grownBy c row) (hr : ∀ j, row = some j → a.heap.size ≤ j) : a.grownBy c (some g) :=
  ⟨k.os.trans h.os, k.tape.trans h.tape, k.output.trans h.output, Nat.le_trans h.size k.size, fun i hi hne => (k.block i (Nat.lt_of_lt_of_le hi h.size) (fun e => by have := hr i e.symm; omega)).trans (h.block i hi hne)⟩
theorem RdrB.row {B : Nat} {w w' : World} {g : Nat} {xs : List Int} {p : Nat} {row : Option Nat} (h : RdrB B w g xs p) (k : w.grownBy w' row) (hr : ∀ j, row = some j → B ≤ j ∧ g < j) : RdrB B w' g xs p :=
  h.keep k.size (fun b hb => k.block b (by have := h.size; have := h.lt; omega) (fun e => by have := hr b e.symm; omega))

/-- What nlri.Read returns. -/
def ReadsTo (f : Int) (add : Bool) (xs : List Int) (w : World) (v : Value) (at_ : Int) : Prop :=
  (∃ rs A c, at_ = -1 ∧ Parsed f add xs xs.length rs ∧ v = .slice A rs.length c ∧ rs.length ≤ c ∧ Routes w w.heap.size A rs.length rs) ∨
  (∃ p rs, at_ = ((p : Nat) : Int) ∧ p < xs.length ∧ Parsed f add xs p rs ∧ oneOk f add (xs.drop p) = false ∧ v = .slice none 0 0)

end Go.Proofs.YtecbbjdcnlocdaaDoor

/- routes that are equal: '!=' says no -/
namespace Go.Proofs.YtecbbjdcnlocdaaDoor
open Go.RowKit
open Go.RowKit Extern.Stop

set_option maxRecDepth 100000 in
theorem part_pfx {r : Rt} (h : r.a.length = 16) (W : World) : (Go.part 41 (rt r) 1).run Tryd.prog W = Result.ok (.agg (pfx r.f r.l r.a)) W := by
  obtain ⟨p, f, l, a⟩ := r
  obtain ⟨x0, x1, x2, x3, x4, x5, x6, x7, x8, x9, x10, x11, x12, x13, x14, x15, rfl⟩ := list16 h
  kernel_rfl
set_option maxRecDepth 100000 in
theorem part_path {r : Rt} (h : r.a.length = 16) (W : World) : (Go.part 51 (rt r) 0).run Tryd.prog W = Result.ok (.int .u32 r.p) W := by
  obtain ⟨p, f, l, a⟩ := r
  obtain ⟨x0, x1, x2, x3, x4, x5, x6, x7, x8, x9, x10, x11, x12, x13, x14, x15, rfl⟩ := list16 h
  kernel_rfl
set_option maxRecDepth 100000 in
theorem part_fam {f l : Int} {a : List Int} (h : a.length = 16) (W : World) : (Go.part 3 (pfx f l a) 0).run Tryd.prog W = Result.ok (.int .i64 f) W := by
  obtain ⟨x0, x1, x2, x3, x4, x5, x6, x7, x8, x9, x10, x11, x12, x13, x14, x15, rfl⟩ := list16 h
  kernel_rfl
set_option maxRecDepth 100000 in
theorem part_len {f l : Int} {a : List Int} (h : a.length = 16) (W : World) : (Go.part 3 (pfx f l a) 1).run Tryd.prog W = Result.ok (.int .i64 l) W := by
  obtain ⟨x0, x1, x2, x3, x4, x5, x6, x7, x8, x9, x10, x11, x12, x13, x14, x15, rfl⟩ := list16 h
  kernel_rfl
set_option maxRecDepth 100000 in
theorem part_addr {f l : Int} {a : List Int} (h : a.length = 16) (W : World) : (Go.part 39 (pfx f l a) 2).run Tryd.prog W = Result.ok (.agg (arr a)) W := by
  obtain ⟨x0, x1, x2, x3, x4, x5, x6, x7, x8, x9, x10, x11, x12, x13, x14, x15, rfl⟩ := list16 h
  kernel_rfl
set_option maxRecDepth 100000 in
theorem eqIn_arr (d : Nat) {a : List Int} (ha : IsAddr a) (W : World) : (Op.equalIn (d + 2) 39 (.agg (arr a)) (.agg (arr a))).run Tryd.prog W = Result.ok true W := by
  obtain ⟨us, rfl⟩ := bytes_lift a ha.2
  have e : arr (us.map (fun u => (u.toNat : Int))) = (us.map cell).toArray := by
    unfold arr; rw [List.map_map]; rfl
  have hl : us.length = 16 := by have := ha.1; simpa using this
  rw [e, run_equalIn_bytes W d 39 5 16 Tryd.underlying39 Tryd.underlying5 (fun _ => by kernel_rfl) us us hl hl]
  simp
theorem fields3 {fs : List Field} {n1 n2 n3 : String} {t1 t2 t3 : TypeId} {o1 o2 o3 : Nat} (hf : fs.map (fun x => (x.name, x.type, x.offset)) = [(n1, t1, o1), (n2, t2, o2), (n3, t3, o3)]) :
    ∃ f1 f2 f3 : Field, fs = [f1, f2, f3] ∧ (f1.name = n1 ∧ f1.type = t1 ∧ f1.offset = o1) ∧ (f2.name = n2 ∧ f2.type = t2 ∧ f2.offset = o2) ∧ f3.name = n3 ∧ f3.type = t3 ∧ f3.offset = o3 := by
  obtain ⟨f1, g1, rfl, h1, hf⟩ := List.map_eq_cons_iff.1 hf
  obtain ⟨f2, g2, rfl, h2, hf⟩ := List.map_eq_cons_iff.1 hf
  obtain ⟨f3, g3, rfl, h3, hf⟩ := List.map_eq_cons_iff.1 hf
  rw [List.map_eq_nil_iff] at hf
  subst hf
  simp only [Prod.mk.injEq] at h1 h2 h3
  exact ⟨f1, f2, f3, rfl, h1, h2, h3⟩
theorem fields2 {fs : List Field} {n1 n2 : String} {t1 t2 : TypeId} {o1 o2 : Nat} (hf : fs.map (fun x => (x.name, x.type, x.offset)) = [(n1, t1, o1), (n2, t2, o2)]) :
    ∃ f1 f2 : Field, fs = [f1, f2] ∧ (f1.name = n1 ∧ f1.type = t1 ∧ f1.offset = o1) ∧ f2.name = n2 ∧ f2.type = t2 ∧ f2.offset = o2 := by
  obtain ⟨f1, g1, rfl, h1, hf⟩ := List.map_eq_cons_iff.1 hf
  obtain ⟨f2, g2, rfl, h2, hf⟩ := List.map_eq_cons_iff.1 hf
  rw [List.map_eq_nil_iff] at hf
  subst hf
  simp only [Prod.mk.injEq] at h1 h2
  exact ⟨f1, f2, rfl, h1, h2⟩
set_option maxRecDepth 100000 in
theorem eqIn_pfx (d : Nat) {f l : Int} {a : List Int} (ha : IsAddr a) (W : World) : (Op.equalIn (d + 3) 41 (.agg (pfx f l a)) (.agg (pfx f l a))).run Tryd.prog W = Result.ok true W := by
  have hz := Tryd.underlying3
  rw [run_equalIn_agg W (d + 2) 41 _ _ pfx_desc (by kernel_rfl)]
  have hf : (Tryd.prog.fieldsOf 41).toList.map (fun x => (x.name, x.type, x.offset)) = [("Fam", 3, 0), ("Len", 3, 1), ("Addr", 39, 2)] := by kernel_rfl
  obtain ⟨f1, f2, f3, e, ⟨n1, t1, o1⟩, ⟨n2, t2, o2⟩, n3, t3, o3⟩ := fields3 hf
  have q1 : ∀ W, (Op.equalIn (d + 2) 3 (.int .i64 f) (.int .i64 f)).run Tryd.prog W = Result.ok true W := fun W => by rw [run_equalIn_int W (d + 1) 3 .i64 .i64 _ _ hz]; simp
  have q2 : ∀ W, (Op.equalIn (d + 2) 3 (.int .i64 l) (.int .i64 l)).run Tryd.prog W = Result.ok true W := fun W => by rw [run_equalIn_int W (d + 1) 3 .i64 .i64 _ _ hz]; simp
  rw [e]
  simp only [Op.eqFields, n1, t1, o1, n2, t2, o2, n3, t3, o3]
  simp only [show ("Fam" ≠ "_") = True by decide, show ("Len" ≠ "_") = True by decide, show ("Addr" ≠ "_") = True by decide, if_true, Sem.run_bind, part_fam ha.1, part_len ha.1, part_addr ha.1, Result.andThen_ok, q1, q2, eqIn_arr d ha, Bool.not_true, Bool.false_eq_true, if_false, Sem.run_pure]
set_option maxRecDepth 100000 in
theorem eqIn_rt (d : Nat) {r : Rt} (ho : r.Ok) (W : World) : (Op.equalIn (d + 4) 119 (.agg (rt r)) (.agg (rt r))).run Tryd.prog W = Result.ok true W := by
  have hz := Tryd.underlying51
  rw [run_equalIn_agg W (d + 3) 119 _ _ rt_desc (by kernel_rfl)]
  have hf : (Tryd.prog.fieldsOf 119).toList.map (fun x => (x.name, x.type, x.offset)) = [("Path", 51, 0), ("Prefix", 41, 1)] := by kernel_rfl
  obtain ⟨f1, f2, e, ⟨n1, t1, o1⟩, n2, t2, o2⟩ := fields2 hf
  have q1 : ∀ W, (Op.equalIn (d + 3) 51 (.int .u32 r.p) (.int .u32 r.p)).run Tryd.prog W = Result.ok true W := fun W => by rw [run_equalIn_int W (d + 2) 51 .u32 .u32 _ _ hz]; simp
  rw [e]
  simp only [Op.eqFields, n1, t1, o1, n2, t2, o2]
  simp only [show ("Path" ≠ "_") = True by decide, show ("Prefix" ≠ "_") = True by decide, if_true, Sem.run_bind, part_path ho.1.1, part_pfx ho.1.1, Result.andThen_ok, q1, eqIn_pfx d ho.1, Bool.not_true, Bool.false_eq_true, if_false, Sem.run_pure]
set_option maxRecDepth 100000 in
theorem neq_rt {r : Rt} (ho : r.Ok) (W : World) : (binOp .neq 119 (.agg (rt r)) (.agg (rt r))).run Tryd.prog W = Result.ok (.bool false) W := by
  rw [run_neq_struct W, eqIn_rt 9996 ho]
  rfl
end Go.Proofs.YtecbbjdcnlocdaaDoor

/- routes compared, equal or not -/
namespace Go.Proofs.YtecbbjdcnlocdaaDoor
open Go.RowKit Extern.Stop

def rtEq (r q : Rt) : Bool := decide (r.p = q.p) && (decide (r.f = q.f) && (decide (r.l = q.l) && decide (r.a = q.a)))
theorem rtEq_iff {r q : Rt} : rtEq r q = true ↔ r = q := by
  obtain ⟨p, f, l, a⟩ := r
  obtain ⟨p', f', l', a'⟩ := q
  simp [rtEq]
set_option maxRecDepth 100000 in
theorem eqIn_arr2 (d : Nat) {a b : List Int} (ha : IsAddr a) (hb : IsAddr b) (W : World) : (Op.equalIn (d + 2) 39 (.agg (arr a)) (.agg (arr b))).run Tryd.prog W = Result.ok (decide (a = b)) W := by
  obtain ⟨us, rfl⟩ := bytes_lift a ha.2
  obtain ⟨vs, rfl⟩ := bytes_lift b hb.2
  have e : ∀ us : List UInt8, arr (us.map (fun u => (u.toNat : Int))) = (us.map cell).toArray := fun us => by
    unfold arr; rw [List.map_map]; rfl
  have hl : us.length = 16 := by have := ha.1; simpa using this
  have hm : vs.length = 16 := by have := hb.1; simpa using this
  rw [e, e, run_equalIn_bytes W d 39 5 16 Tryd.underlying39 Tryd.underlying5 (fun _ => by kernel_rfl) us vs hl hm]
  have inj : us.map (fun u => (u.toNat : Int)) = vs.map (fun u => (u.toNat : Int)) ↔ us = vs :=
    List.map_inj_right (fun x y h => UInt8.toNat_inj.1 (Int.ofNat.inj h))
  by_cases h : us = vs
  · subst h; simp
  · have h' : ¬ us.map (fun u => (u.toNat : Int)) = vs.map (fun u => (u.toNat : Int)) := fun e => h (inj.1 e)
    rw [decide_eq_false h', beq_eq_false_iff_ne.2 h]
set_option maxRecDepth 100000 in
theorem eqIn_pfx2 (d : Nat) {f l f' l' : Int} {a a' : List Int} (ha : IsAddr a) (ha' : IsAddr a') (W : World) : (Op.equalIn (d + 3) 41 (.agg (pfx f l a)) (.agg (pfx f' l' a'))).run Tryd.prog W = Result.ok (decide (f = f') && (decide (l = l') && decide (a = a'))) W := by
  have hz := Tryd.underlying3
  rw [run_equalIn_agg W (d + 2) 41 _ _ pfx_desc (by kernel_rfl)]
  have hf : (Tryd.prog.fieldsOf 41).toList.map (fun x => (x.name, x.type, x.offset)) = [("Fam", 3, 0), ("Len", 3, 1), ("Addr", 39, 2)] := by kernel_rfl
  obtain ⟨f1, f2, f3, e, ⟨n1, t1, o1⟩, ⟨n2, t2, o2⟩, n3, t3, o3⟩ := fields3 hf
  have q : ∀ (x y : Int) W, (Op.equalIn (d + 2) 3 (.int .i64 x) (.int .i64 y)).run Tryd.prog W = Result.ok (x == y) W := fun x y W => by rw [run_equalIn_int W (d + 1) 3 .i64 .i64 _ _ hz]
  rw [e]
  simp only [Op.eqFields, n1, t1, o1, n2, t2, o2, n3, t3, o3]
  simp only [show ("Fam" ≠ "_") = True by decide, show ("Len" ≠ "_") = True by decide, show ("Addr" ≠ "_") = True by decide, if_true, Sem.run_bind, part_fam ha.1, part_fam ha'.1, Result.andThen_ok, q]
  by_cases h1 : f = f'
  · by_cases h2 : l = l'
    · by_cases h3 : a = a'
      · subst h1 h2 h3
        simp [part_len ha.1, part_addr ha.1, q, eqIn_arr2 d ha ha]
      · subst h1 h2
        simp [h3, part_len ha.1, part_len ha'.1, part_addr ha.1, part_addr ha'.1, q, eqIn_arr2 d ha ha']
    · subst h1
      simp [h2, part_len ha.1, part_len ha'.1, q]
  · simp [h1]
set_option maxRecDepth 100000 in
theorem eqIn_rt2 (d : Nat) {r s : Rt} (ho : r.Ok) (hs : s.Ok) (W : World) : (Op.equalIn (d + 4) 119 (.agg (rt r)) (.agg (rt s))).run Tryd.prog W = Result.ok (rtEq r s) W := by
  have hz := Tryd.underlying51
  rw [run_equalIn_agg W (d + 3) 119 _ _ rt_desc (by kernel_rfl)]
  have hf : (Tryd.prog.fieldsOf 119).toList.map (fun x => (x.name, x.type, x.offset)) = [("Path", 51, 0), ("Prefix", 41, 1)] := by kernel_rfl
  obtain ⟨f1, f2, e, ⟨n1, t1, o1⟩, n2, t2, o2⟩ := fields2 hf
  have q1 : ∀ W, (Op.equalIn (d + 3) 51 (.int .u32 r.p) (.int .u32 s.p)).run Tryd.prog W = Result.ok (r.p == s.p) W := fun W => by rw [run_equalIn_int W (d + 2) 51 .u32 .u32 _ _ hz]
  rw [e]
  simp only [Op.eqFields, n1, t1, o1, n2, t2, o2]
  simp only [show ("Path" ≠ "_") = True by decide, show ("Prefix" ≠ "_") = True by decide, if_true, Sem.run_bind, part_path ho.1.1, part_path hs.1.1, Result.andThen_ok, q1]
  unfold rtEq
  by_cases h1 : r.p = s.p
  · rw [h1]
    simp only [beq_self_eq_true, Bool.not_true, Bool.false_eq_true, if_false, Sem.run_bind, part_pfx ho.1.1, part_pfx hs.1.1, Result.andThen_ok, eqIn_pfx2 d ho.1 hs.1]
    generalize (decide (r.f = s.f) && (decide (r.l = s.l) && decide (r.a = s.a))) = b
    cases b <;> simp
  · simp [h1]
set_option maxRecDepth 100000 in
theorem eql_rt {r s : Rt} (ho : r.Ok) (hs : s.Ok) (W : World) : (binOp .eql 119 (.agg (rt r)) (.agg (rt s))).run Tryd.prog W = Result.ok (.bool (rtEq r s)) W := by
  rw [run_eql_struct W, eqIn_rt2 9996 ho hs]
  rfl
set_option maxRecDepth 100000 in
theorem neq_rt2 {r s : Rt} (ho : r.Ok) (hs : s.Ok) (W : World) : (binOp .neq 119 (.agg (rt r)) (.agg (rt s))).run Tryd.prog W = Result.ok (.bool (!rtEq r s)) W := by
  rw [run_neq_struct W, eqIn_rt2 9996 ho hs]
  rfl
end Go.Proofs.YtecbbjdcnlocdaaDoor

/- prefixes compared by == -/
namespace Go.Proofs.YtecbbjdcnlocdaaDoor
open Go.RowKit Extern.Stop

def pfEq (f l : Int) (a : List Int) (f' l' : Int) (a' : List Int) : Bool := decide (f = f') && (decide (l = l') && decide (a = a'))
theorem pfEq_same (f l : Int) (a : List Int) : pfEq f l a f l a = true := by simp [pfEq]
set_option maxRecDepth 100000 in
theorem eql_pfx {f l f' l' : Int} {a a' : List Int} (ha : IsAddr a) (ha' : IsAddr a') (W : World) : (binOp .eql 41 (.agg (pfx f l a)) (.agg (pfx f' l' a'))).run Tryd.prog W = Result.ok (.bool (pfEq f l a f' l' a')) W := by
  rw [run_eql_struct W, eqIn_pfx2 9997 ha ha']
  rfl
set_option maxRecDepth 100000 in
theorem neq_pfx {f l f' l' : Int} {a a' : List Int} (ha : IsAddr a) (ha' : IsAddr a') (W : World) : (binOp .neq 41 (.agg (pfx f l a)) (.agg (pfx f' l' a'))).run Tryd.prog W = Result.ok (.bool (!pfEq f l a f' l' a')) W := by
  rw [run_neq_struct W, eqIn_pfx2 9997 ha ha']
  rfl
set_option maxRecDepth 100000 in
theorem eql_pfx_same {f l : Int} {a : List Int} (ha : IsAddr a) (W : World) : (binOp .eql 41 (.agg (pfx f l a)) (.agg (pfx f l a))).run Tryd.prog W = Result.ok (.bool true) W := by
  rw [eql_pfx ha ha, pfEq_same]
set_option maxRecDepth 100000 in
theorem neq_pfx_same {f l : Int} {a : List Int} (ha : IsAddr a) (W : World) : (binOp .neq 41 (.agg (pfx f l a)) (.agg (pfx f l a))).run Tryd.prog W = Result.ok (.bool false) W := by
  rw [neq_pfx ha ha, pfEq_same]
  rfl
end Go.Proofs.YtecbbjdcnlocdaaDoor

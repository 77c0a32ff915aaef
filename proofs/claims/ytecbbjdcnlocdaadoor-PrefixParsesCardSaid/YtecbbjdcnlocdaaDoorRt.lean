/- Routes in memory -/
import Derived.Test.YtecbbjdcnlocdaaDoorPfxR
namespace Go.Proofs.YtecbbjdcnlocdaaDoor
open Go.RowKit

/-- A guarded load of a struct, its guard met. -/
theorem wpList_load_on {P : Program} {ops : Array Oper} {rest : List Oper} {op : Oper} {a : Act} {w : World} {Q : Exit → Act → World → Prop} (hw : Region.wanted op (yielded ops a.tmps) = true) (ty : TypeId) (x : Operand) (ho : op.op = .load ty x)
    (b o : Nat) (hx : a.eval x = .pointer (some ⟨b, o, none⟩)) (cs : List Value) (d : TypeDesc) (hc : w.rangeAt b o cs)
    (hu : P.underlying ty = some d) (hd : d.isRow = true) (hi : (P.info? ty).map (·.size) = some cs.length)
    (h : wpList P ops Q rest (a.put op.dst (.agg cs.toArray)) w) : wpList P ops Q (op :: rest) a w :=
  wpList_step fun K hK => by
    simp only [hw, if_true]
    exact wp_load_mid ty x ho b o hx cs d hc hu hd hi (hK _ _ h)

/-- A route. -/
structure Rt where
  p : Int
  f : Int
  l : Int
  a : List Int
def Rt.Ok (r : Rt) : Prop := IsAddr r.a ∧ 0 ≤ r.p ∧ r.p ≤ 4294967295
def rt (r : Rt) : Array Value := #[.int .u32 r.p] ++ pfx r.f r.l r.a
theorem rt_size {r : Rt} (h : r.a.length = 16) : (rt r).size = 19 := by simp [rt, pfx_size h]
theorem rt_0 (r : Rt) : (rt r)[0]? = some (.int .u32 r.p) := by unfold rt; rw [Array.getElem?_append_left (by simp)]; rfl
theorem rt_at (r : Rt) (j : Nat) : (rt r)[1 + j]? = (pfx r.f r.l r.a)[j]? := by
  unfold rt
  rw [Array.getElem?_append_right (by simp)]
  simp
theorem rt_1 (r : Rt) : (rt r)[1]? = some (.int .i64 r.f) := (rt_at r 0).trans (pfx_0 _ _ _)
theorem rt_2 (r : Rt) : (rt r)[2]? = some (.int .i64 r.l) := (rt_at r 1).trans (pfx_1 _ _ _)
theorem rt_one (r : Rt) : (rt r).all (·.oneCell') = true := by
  unfold rt
  rw [Array.all_append, pfx_one, Bool.and_true, Array.all_eq_true_iff_forall_mem]
  intro x hx
  simp only [List.mem_toArray, List.mem_cons, List.not_mem_nil, or_false] at hx
  subst hx
  simp [Value.oneCell']
set_option maxRecDepth 100000 in
theorem rt_info {r : Rt} (h : r.a.length = 16) : (Tryd.prog.info? 119).map (·.size) = some (rt r).size := by rw [rt_size h]; kernel_rfl
set_option maxRecDepth 100000 in
theorem rt_infol {r : Rt} (h : r.a.length = 16) : (Tryd.prog.info? 119).map (·.size) = some (rt r).toList.length := by rw [Array.length_toList, rt_size h]; kernel_rfl
set_option maxRecDepth 100000 in
theorem rt_desc : Tryd.prog.underlying 119 = some (.struct (Tryd.prog.fieldsOf 119)) := by kernel_rfl
set_option maxRecDepth 100000 in
theorem pfx_infol {f l : Int} {a : List Int} (h : a.length = 16) : (Tryd.prog.info? 41).map (·.size) = some (pfx f l a).toList.length := by rw [Array.length_toList, pfx_size h]; kernel_rfl
def rt0 : Rt := ⟨0, 0, 0, zero16⟩
theorem rt_zero : rt rt0 = #[.int .u32 0, .int .i64 0, .int .i64 0, .int .u8 0, .int .u8 0, .int .u8 0, .int .u8 0, .int .u8 0, .int .u8 0, .int .u8 0, .int .u8 0, .int .u8 0, .int .u8 0, .int .u8 0, .int .u8 0, .int .u8 0, .int .u8 0, .int .u8 0, .int .u8 0] := by
  unfold rt rt0
  rw [pfx_zero]
  rfl

/-- A route's prefix lies in its block from cell 1 on. -/
theorem Own.pfxAt {w : World} {g : Nat} {t : TypeId} {r : Rt} (h : Own w g t (rt r)) : w.rangeAt g 1 (pfx r.f r.l r.a).toList := fun j v hv => by
  have hc := h.cell (i := 1 + j) (v := v) (by rw [rt_at]; simpa using hv)
  exact hc

/-- A list of routes. -/
def Routes (w : World) (B : Nat) (A : Option Addr) (n : Nat) (rs : List Rt) : Prop :=
  n = rs.length ∧ (∀ r ∈ rs, r.Ok) ∧ (rs = [] ∨ ∃ b o, A = some ⟨b, o, none⟩ ∧ b < B ∧ ∀ i r, rs[i]? = some r → w.rangeAt b (o + i * 19) (rt r).toList)
theorem Routes.keep {w w' : World} {B : Nat} {A : Option Addr} {n : Nat} {rs : List Rt} (h : Routes w B A n rs) (hk : ∀ b o, b < B → w'.cell? ⟨b, o, none⟩ = w.cell? ⟨b, o, none⟩) : Routes w' B A n rs := by
  obtain ⟨hn, ho, hr⟩ := h
  refine ⟨hn, ho, ?_⟩
  rcases hr with h0 | ⟨b, o, rfl, hb, hc⟩
  · exact .inl h0
  · exact .inr ⟨b, o, rfl, hb, fun i r hi j v hv => (hk b _ hb).trans (hc i r hi j v hv)⟩
theorem Routes.below {w w' : World} {B : Nat} {A : Option Addr} {n : Nat} {rs : List Rt} (h : Routes w B A n rs) (hb : Below B w w') : Routes w' B A n rs :=
  h.keep fun b o hB => World.cell?_of_block (a := ⟨b, o, none⟩) (hb.block b hB)
theorem Routes.more {w : World} {B B' : Nat} {A : Option Addr} {n : Nat} {rs : List Rt} (h : Routes w B A n rs) (hB : B ≤ B') : Routes w B' A n rs := by
  obtain ⟨hn, ho, hr⟩ := h
  refine ⟨hn, ho, ?_⟩
  rcases hr with h0 | ⟨b, o, rfl, hb, hc⟩
  · exact .inl h0
  · exact .inr ⟨b, o, rfl, by omega, hc⟩
def nthR (rs : List Rt) (i : Nat) : Rt := rs.getD i rt0
theorem nthR_some {rs : List Rt} {i : Nat} (h : i < rs.length) : rs[i]? = some (nthR rs i) := by
  unfold nthR
  rw [List.getD_eq_getElem?_getD, List.getElem?_eq_getElem h]; rfl
theorem nthR_mem {rs : List Rt} {i : Nat} (h : i < rs.length) : nthR rs i ∈ rs := List.mem_of_getElem? (nthR_some h)
theorem take_nthR {rs : List Rt} {i : Nat} (h : i < rs.length) : rs.take (i + 1) = rs.take i ++ [nthR rs i] := by
  rw [List.take_add_one, nthR_some h]; rfl
theorem Routes.at_ {w : World} {B : Nat} {A : Option Addr} {n : Nat} {rs : List Rt} (h : Routes w B A n rs) {i : Nat} (hi : i < n) :
    ∃ b o, A = some ⟨b, o, none⟩ ∧ b < B ∧ (nthR rs i).Ok ∧ w.rangeAt b (o + i * 19) (rt (nthR rs i)).toList := by
  obtain ⟨hn, ho, h0 | ⟨b, o, hA, hb, hc⟩⟩ := h
  · subst h0; simp at hn; omega
  · have hi' : i < rs.length := by omega
    exact ⟨b, o, hA, hb, ho _ (nthR_mem hi'), hc i _ (nthR_some hi')⟩

/-- Whether a route is valid. -/
def rtOk (f : Int) (add : Bool) (r : Rt) : Bool := decide (r.f = f) && pfxOk r.f r.l r.a && (add || decide (r.p = 0))
theorem all_no {rs : List Rt} {P : Rt → Bool} {i : Nat} (h : i < rs.length) (hp : P (nthR rs i) = false) : rs.all P = false := by
  rw [List.all_eq_false]
  exact ⟨_, nthR_mem h, by simp [hp]⟩
theorem all_step {rs : List Rt} {P : Rt → Bool} {i : Nat} (h : i < rs.length) (h0 : (rs.take i).all P = true) (hp : P (nthR rs i) = true) : (rs.take (i + 1)).all P = true := by
  rw [take_nthR h, List.all_append, h0]; simp [hp]

set_option maxHeartbeats 1600000 in
set_option maxRecDepth 100000 in
theorem nvalid_t (f : Int) (A : Option Addr) (n c : Nat) (rs : List Rt) (w : World) (h : Routes w w.heap.size A n rs) (hn : n ≤ 1000000000) :
    Calls Tryd.prog 101 #[.int .i64 f, .bool true, .slice A n c] w fun e w' => e = .returned (.bool (rs.all (rtOk f true))) ∧ Below w.heap.size w w' := by
  have hz19 : #[.int .u32 0, .int .i64 0, .int .i64 0, .int .u8 0, .int .u8 0, .int .u8 0, .int .u8 0, .int .u8 0, .int .u8 0, .int .u8 0, .int .u8 0, .int .u8 0, .int .u8 0, .int .u8 0, .int .u8 0, .int .u8 0, .int .u8 0, .int .u8 0, .int .u8 0] = rt rt0 := rt_zero.symm
  have HN := Lib.hid h.1
  go_enter Tryd.func101, Tryd.ntmps101
  go_wp2_with fail
  go_loopw [11] (fun i wr => (∃ j : Nat, j ≤ n ∧ i = .int .i64 j ∧ (rs.take j).all (rtOk f true) = true) ∧ Below w.heap.size w wr) (fun i _ => n - (intOf i).toNat)
  case atStart => exact ⟨⟨0, Nat.zero_le _, rfl, by simp⟩, bl_refl w⟩
  case round =>
    obtain ⟨⟨j, hj, rfl, hall⟩, hbw⟩ := hrel
    by_cases hlt : j < n
    · obtain ⟨b, o, rfl, hbB, hok, hrg⟩ := (h.below hbw).at_ hlt
      have hrl := hok.1.1
      have hi19 := Lib.hid (rt_infol hrl)
      have hi18 := Lib.hid (pfx_infol (f := (nthR rs j).f) (l := (nthR rs j).l) hrl)
      have hi20 := Lib.hid (rt_info hrl)
      have hj' := Lib.hid (show j < rs.length by have := HN.out; omega)
      have ho' := (Own.new wr 119 (rt rt0))
      have ho := ho'.setRow (cs' := rt (nthR rs j))
      have hb1 := bl_setRow (cs := rt (nthR rs j)) (bl_alloc hbw (.cells (rt rt0) 119)) hbw.size
      have hc0 := ho.cell (rt_0 _)
      have hc1 := ho.cell (rt_1 _)
      have hpx := ho.pfxAt
      by_cases h1 : (nthR rs j).f = f
      · go_wp2_with (first | (refine wpList_load_mid rfl 119 _ rfl b (o + j * 19) rfl (rt (nthR rs j)).toList (.struct (Tryd.prog.fieldsOf 119)) hrg rt_desc rfl hi19.out ?_) | (refine wpList_store_row rfl 119 _ _ rfl wr.heap.size (rt (nthR rs j)) rfl rfl 119 (rt rt0) ho' hi20.out (by rw [rt_size hrl]; rfl) (rt_one _) ?_) | (refine wpList_load_on rfl 41 _ rfl wr.heap.size 1 rfl (pfx (nthR rs j).f (nthR rs j).l (nthR rs j).a).toList (.struct (Tryd.prog.fieldsOf 41)) hpx pfx_desc rfl hi18.out ?_))
        refine (pvalid_any _ (nthR rs j).l (nthR rs j).a _ hok.1).mono ?_
        rintro e w2 ⟨rfl, hb2⟩
        have ho2 := ho.step hb2
        have hb3 := bl_trans hb1 hb2
        have hc02 := ho2.cell (rt_0 _)
        go_wp2_with fail
        all_goals first
          | (go_ret; exact ⟨by rw [all_no hj'.out (by simp_all [rtOk])]; rfl, hb3⟩)
          | (go_roundw
             case rel => exact ⟨⟨j + 1, by omega, by go_num, all_step hj'.out hall (by simp_all [rtOk])⟩, hb3⟩
             case measure => simp [intOf]; omega)
      · go_wp2_with (first | (refine wpList_load_mid rfl 119 _ rfl b (o + j * 19) rfl (rt (nthR rs j)).toList (.struct (Tryd.prog.fieldsOf 119)) hrg rt_desc rfl hi19.out ?_) | (refine wpList_store_row rfl 119 _ _ rfl wr.heap.size (rt (nthR rs j)) rfl rfl 119 (rt rt0) ho' hi20.out (by rw [rt_size hrl]; rfl) (rt_one _) ?_))
        go_ret
        exact ⟨by rw [all_no hj'.out (by simp [rtOk, h1])]; rfl, hb1⟩
    · have hjn := Lib.hid (show j = rs.length by have := HN.out; omega)
      go_wp2
      go_ret
      refine ⟨?_, hbw⟩
      rw [hjn.out, List.take_length] at hall
      rw [hall]; rfl
set_option maxHeartbeats 1600000 in
set_option maxRecDepth 100000 in
theorem nvalid_f (f : Int) (A : Option Addr) (n c : Nat) (rs : List Rt) (w : World) (h : Routes w w.heap.size A n rs) (hn : n ≤ 1000000000) :
    Calls Tryd.prog 101 #[.int .i64 f, .bool false, .slice A n c] w fun e w' => e = .returned (.bool (rs.all (rtOk f false))) ∧ Below w.heap.size w w' := by
  have hz19 : #[.int .u32 0, .int .i64 0, .int .i64 0, .int .u8 0, .int .u8 0, .int .u8 0, .int .u8 0, .int .u8 0, .int .u8 0, .int .u8 0, .int .u8 0, .int .u8 0, .int .u8 0, .int .u8 0, .int .u8 0, .int .u8 0, .int .u8 0, .int .u8 0, .int .u8 0] = rt rt0 := rt_zero.symm
  have HN := Lib.hid h.1
  go_enter Tryd.func101, Tryd.ntmps101
  go_wp2_with fail
  go_loopw [11] (fun i wr => (∃ j : Nat, j ≤ n ∧ i = .int .i64 j ∧ (rs.take j).all (rtOk f false) = true) ∧ Below w.heap.size w wr) (fun i _ => n - (intOf i).toNat)
  case atStart => exact ⟨⟨0, Nat.zero_le _, rfl, by simp⟩, bl_refl w⟩
  case round =>
    obtain ⟨⟨j, hj, rfl, hall⟩, hbw⟩ := hrel
    by_cases hlt : j < n
    · obtain ⟨b, o, rfl, hbB, hok, hrg⟩ := (h.below hbw).at_ hlt
      have hrl := hok.1.1
      have hi19 := Lib.hid (rt_infol hrl)
      have hi18 := Lib.hid (pfx_infol (f := (nthR rs j).f) (l := (nthR rs j).l) hrl)
      have hi20 := Lib.hid (rt_info hrl)
      have hj' := Lib.hid (show j < rs.length by have := HN.out; omega)
      have ho' := (Own.new wr 119 (rt rt0))
      have ho := ho'.setRow (cs' := rt (nthR rs j))
      have hb1 := bl_setRow (cs := rt (nthR rs j)) (bl_alloc hbw (.cells (rt rt0) 119)) hbw.size
      have hc0 := ho.cell (rt_0 _)
      have hc1 := ho.cell (rt_1 _)
      have hpx := ho.pfxAt
      by_cases h1 : (nthR rs j).f = f
      · go_wp2_with (first | (refine wpList_load_mid rfl 119 _ rfl b (o + j * 19) rfl (rt (nthR rs j)).toList (.struct (Tryd.prog.fieldsOf 119)) hrg rt_desc rfl hi19.out ?_) | (refine wpList_store_row rfl 119 _ _ rfl wr.heap.size (rt (nthR rs j)) rfl rfl 119 (rt rt0) ho' hi20.out (by rw [rt_size hrl]; rfl) (rt_one _) ?_) | (refine wpList_load_on rfl 41 _ rfl wr.heap.size 1 rfl (pfx (nthR rs j).f (nthR rs j).l (nthR rs j).a).toList (.struct (Tryd.prog.fieldsOf 41)) hpx pfx_desc rfl hi18.out ?_))
        refine (pvalid_any _ (nthR rs j).l (nthR rs j).a _ hok.1).mono ?_
        rintro e w2 ⟨rfl, hb2⟩
        have ho2 := ho.step hb2
        have hb3 := bl_trans hb1 hb2
        have hc02 := ho2.cell (rt_0 _)
        go_wp2_with fail
        all_goals first
          | (go_ret; exact ⟨by rw [all_no hj'.out (by simp_all [rtOk])]; rfl, hb3⟩)
          | (go_roundw
             case rel => exact ⟨⟨j + 1, by omega, by go_num, all_step hj'.out hall (by simp_all [rtOk])⟩, hb3⟩
             case measure => simp [intOf]; omega)
      · go_wp2_with (first | (refine wpList_load_mid rfl 119 _ rfl b (o + j * 19) rfl (rt (nthR rs j)).toList (.struct (Tryd.prog.fieldsOf 119)) hrg rt_desc rfl hi19.out ?_) | (refine wpList_store_row rfl 119 _ _ rfl wr.heap.size (rt (nthR rs j)) rfl rfl 119 (rt rt0) ho' hi20.out (by rw [rt_size hrl]; rfl) (rt_one _) ?_))
        go_ret
        exact ⟨by rw [all_no hj'.out (by simp [rtOk, h1])]; rfl, hb1⟩
    · have hjn := Lib.hid (show j = rs.length by have := HN.out; omega)
      go_wp2
      go_ret
      refine ⟨?_, hbw⟩
      rw [hjn.out, List.take_length] at hall
      rw [hall]; rfl
set_option maxRecDepth 100000 in
theorem nvalid_any (f : Int) (add : Bool) (A : Option Addr) (n c : Nat) (rs : List Rt) (w : World) (h : Routes w w.heap.size A n rs) (hn : n ≤ 1000000000) :
    Calls Tryd.prog 101 #[.int .i64 f, .bool add, .slice A n c] w fun e w' => e = .returned (.bool (rs.all (rtOk f add))) ∧ Below w.heap.size w w' := by
  cases add
  · exact nvalid_f f A n c rs w h hn
  · exact nvalid_t f A n c rs w h hn
end Go.Proofs.YtecbbjdcnlocdaaDoor

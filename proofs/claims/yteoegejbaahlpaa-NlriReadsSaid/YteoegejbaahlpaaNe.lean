/- nlri.Read: the walk -/
import Derived.Test.YteoegejbaahlpaaNd
namespace Go.Proofs.Yteoegejbaahlpaa
open Go.RowKit

theorem gr_row {a b c : World} {g : Nat} {row : Option Nat} (h : a.grownBy b (some g)) (k : b.grownBy c row) (hr : ∀ j, row = some j → a.heap.size ≤ j) : a.grownBy c (some g) :=
  ⟨k.os.trans h.os, k.tape.trans h.tape, k.output.trans h.output, Nat.le_trans h.size k.size, fun i hi hne => (k.block i (Nat.lt_of_lt_of_le hi h.size) (fun e => by have := hr i e.symm; omega)).trans (h.block i hi hne)⟩
theorem RdrB.row {B : Nat} {w w' : World} {g : Nat} {xs : List Int} {p : Nat} {row : Option Nat} (h : RdrB B w g xs p) (k : w.grownBy w' row) (hr : ∀ j, row = some j → B ≤ j ∧ g < j) : RdrB B w' g xs p :=
  h.keep k.size (fun b hb => k.block b (by have := h.size; have := h.lt; omega) (fun e => by have := hr b e.symm; omega))

/-- What nlri.Read returns. -/
def ReadsTo (f : Int) (add : Bool) (xs : List Int) (w : World) (v : Value) (at_ : Int) : Prop :=
  (∃ rs A c, at_ = -1 ∧ Parsed f add xs xs.length rs ∧ v = .slice A rs.length c ∧ rs.length ≤ c ∧ Routes w w.heap.size A rs.length rs) ∨
  (∃ p rs, at_ = ((p : Nat) : Int) ∧ p < xs.length ∧ Parsed f add xs p rs ∧ oneOk f add (xs.drop p) = false ∧ v = .slice none 0 0)

set_option maxHeartbeats 1600000 in
set_option maxRecDepth 100000 in
theorem nread_any (f : Int) (add : Bool) (A : Option Addr) (n c : Nat) (xs : List Int) (w : World) (hx : Bytes w w.heap.size A n xs) (hn : n ≤ 100000000) :
    Calls Try.prog 15 #[.int .i64 f, .bool add, .slice A n c] w fun e w' => ∃ v at_, e = .returned (.tuple #[v, .int .i64 at_]) ∧ ReadsTo f add xs w' v at_ ∧ Below w.heap.size w w' := by
  have hz19 : #[.int .u32 0, .int .i64 0, .int .i64 0, .int .u8 0, .int .u8 0, .int .u8 0, .int .u8 0, .int .u8 0, .int .u8 0, .int .u8 0, .int .u8 0, .int .u8 0, .int .u8 0, .int .u8 0, .int .u8 0, .int .u8 0, .int .u8 0, .int .u8 0, .int .u8 0] = rt rt0 := rt_zero.symm
  have HN := Lib.hid hx.1
  have HR := Lib.hid hx.2.1
  have hb0 := bl_alloc (bl_alloc (bl_refl w) (.cells #[.int .i64 f] 3)) (.cells #[.bool add] 4)
  have of := (Own.new w 3 #[.int .i64 f]).alloc (.cells #[.bool add] 4)
  have oa := Own.new (w.alloc (.cells #[.int .i64 f] 3)) 4 #[.bool add]
  have hsz : (w.alloc (.cells #[.int .i64 f] 3)).heap.size = w.heap.size + 1 := by simp
  rw [hsz] at oa
  have hx1 := (hx.below hb0).more hb0.size
  clear hsz
  go_enter Try.func15, Try.ntmps15
  go_wp2_with fail
  refine (new_any _ _ _ xs _ hx1 (by omega)).mono ?_
  rintro e w1 ⟨g, rfl, hg, hrd, hb1⟩
  have of1 := of.step hb1
  have oa1 := oa.step hb1
  have hb2 := bl_trans hb0 hb1
  clear of oa hb0 hb1 hx1
  go_wp2_with fail
  have HW : ∃ wS : World, wS = w1.alloc (.cells #[.pointer (some ⟨g, 0, none⟩)] 57) := ⟨_, rfl⟩
  obtain ⟨wS, hwS⟩ := HW
  have hb3 := bl_alloc (bl_refl w1) (.cells #[.pointer (some ⟨g, 0, none⟩)] 57)
  have or1 := Own.new w1 57 #[.pointer (some ⟨g, 0, none⟩)]
  have of2 := of1.step hb3
  have oa2 := oa1.step hb3
  have hrB := hrd.toB.below hb3
  have hbS := bl_trans hb2 hb3
  rw [← hwS] at or1 of2 oa2 hrB hbS ⊢
  have hgl := hrd.lt
  have hgw : w.heap.size + 1 < g := by simp at hg; omega
  have hlS : w1.heap.size + 1 = wS.heap.size := by rw [hwS]; simp
  clear hb3 of1 oa1 hrd hb2 hwS hg hx
  go_loopw [10] (fun v wr => ∃ (p : Nat) (rs : List Rt), Parsed f add xs p rs ∧ wr.ownsRow wS.heap.size 33 19 v rs.length (flatR rs) ∧ RdrB w1.heap.size wr g (xs.drop p) p ∧ wS.grownBy wr (some g)) (fun v _ => xs.length - lenOf v)
  case atStart => exact ⟨0, [], .nil, World.ownsRow_nil _ _ _ _, hrB, World.grownBy.refl _ _⟩
  case round =>
    obtain ⟨p, rs, hps, hown, hrd, hgr⟩ := hrel
    have hple := hps.le
    have hp0 := hple.1
    have hrl := hple.2
    have hcr := (or1.grown hgr (fun e => by cases e; omega))
    have hcf := (of2.grown hgr (fun e => by cases e; omega))
    have hca := (oa2.grown hgr (fun e => by cases e; omega))
    have hcr0 := hcr.cell (i := 0) rfl
    have HL := Lib.hid (show (xs.drop p).length = xs.length - p by rw [List.length_drop])
    have HV := own_val hown
    obtain ⟨A1, c1, rfl, hc1, _⟩ := HV
    clear hple
    by_cases hlt : p < xs.length
    · have HLT := Lib.hid hlt
      have h0 : (0 : Int) < ((xs.drop p).length : Int) := by rw [HL.out]; omega
      have HOK := Lib.hid (oneR_ok (f := f) (add := add) hrd.range)
      go_wp2_with fail
      refine (left_any g _ p _ hrd.rdr).mono ?_
      rintro e w' ⟨rfl, rfl⟩
      go_wp2_with fail
      refine (at_any g _ p _ hrd.rdr).mono ?_
      rintro e w' ⟨rfl, rfl⟩
      go_wp2_with fail
      refine (one_any w1.heap.size f add (xs.drop p) g p (w.heap.size + 1) w1.heap.size w.heap.size _ hrd (by rw [HL.out]; have := HN.out; omega) (by have := HN.out; omega) hca hcr hcf (by omega) (by omega)).mono ?_
      have hi19 := Lib.hid (rt_info HOK.out.1.1)
      have hs19 := Lib.hid (show (rt rt0).size = (rt (oneR f add (xs.drop p))).size by rw [rt_size HOK.out.1.1]; rfl)
      by_cases hk : oneOk f add (xs.drop p) = true
      · rw [hk]
        rintro e w2 ⟨rfl, hrd2, hg2⟩
        have hrd3 := hrd2 rfl
        rw [List.drop_drop] at hrd3
        have hps2 := Lib.hid (Parsed.cons hps hlt hk)
        have hgr2 := only_trans hgr hg2
        have hwr := hgr.size
        have hbase := own_base hown
        have hown2 := hown.kept hg2 (.inr (fun e => by have := hbase g e; omega))
        have o1 := Own.new w2 33 (rt rt0)
        have o2 := o1.setRow (cs' := rt (oneR f add (xs.drop p)))
        have hb3 : Below w2.heap.size w2 _ := bl_setRow (cs := rt (oneR f add (xs.drop p))) (bl_alloc (bl_refl w2) (.cells (rt rt0) 33)) (Nat.le_refl _)
        have hb4 := bl_alloc hb3 (.cells (rt (oneR f add (xs.drop p))) 33)
        have hown3 := own_below hown2 hb4
        have hrd4 := hrd3.below hb4
        have hgr4 := only_below hgr2 hb4
        have hs2 := hgr2.size
        have o4 := Own.new ((w2.alloc (.cells (rt rt0) 33)).setRow w2.heap.size (rt (oneR f add (xs.drop p)))) 33 (rt (oneR f add (xs.drop p)))
        have hsh := Shows.of_owned (xs := (rt (oneR f add (xs.drop p))).toList) o4 (Nat.lt_succ_self _)
        have hl19 := Lib.hid (show (rt (oneR f add (xs.drop p))).toList.length = 1 * 19 by rw [Array.length_toList, rt_size HOK.out.1.1])
        have HP := Lib.hid (Parsed.le hps2.out)
        clear hrd2 hk hown hg2 hrd3 hown2 hgr2 hb4
        go_wp2_with (first | (refine wpList_load_row rfl 33 _ rfl w2.heap.size rfl 33 (rt (oneR f add (xs.drop p))) (0, 0) (.struct (Try.prog.fieldsOf 33)) o2 rt_desc rfl hi19.out ?_) | (refine wpList_store_row rfl 33 _ _ rfl w2.heap.size (rt (oneR f add (xs.drop p))) rfl rfl 33 (rt rt0) o1 hi19.out hs19.out (rt_one _) ?_) | (refine wpList_build_route rfl _ rfl (oneR f add (xs.drop p)) HOK.out.1.1 (by simp only [List.map_toArray, List.map_cons, List.map_nil]; rfl) ?_) | (at_builtin; refine wpList_append_grow _ rfl _ _ rfl sl_routes wS.heap.size _ _ _ rfl hown3 _ _ 1 1 (rt (oneR f add (xs.drop p))).toList rfl hl19.out hsh rt_one_mem (by unfold maxLen; have := HN.out; omega) (by have := HN.out; omega) (by simp; omega) ?_; intro v5 w5 hown5 hgrow5))
        have hfr : flatR rs ++ (rt (oneR f add (xs.drop p))).toList = flatR (rs ++ [oneR f add (xs.drop p)]) := by simp [flatR]
        have hlr : rs.length + 1 = (rs ++ [oneR f add (xs.drop p)]).length := by simp
        rw [hfr, hlr] at hown5
        refine ⟨⟨_, _, hps2.out, hown5, hrd4.row hgrow5 (fun j hj => by have := hbase j hj; omega), gr_row hgr4 hgrow5 hbase⟩, ?_⟩
        obtain ⟨A5, c5, rfl, _⟩ := own_val hown5
        show xs.length - (rs ++ [oneR f add (xs.drop p)]).length < xs.length - rs.length
        rw [← hlr]
        omega
      · have hk' : oneOk f add (xs.drop p) = false := by simpa using hk
        rw [hk']
        rintro e w2 ⟨rfl, _, hg2⟩
        have hgr2 := only_trans hgr hg2
        have o1 := Own.new w2 33 (rt rt0)
        go_wp2_with (refine wpList_store_row rfl 33 _ _ rfl w2.heap.size (rt (oneR f add (xs.drop p))) rfl rfl 33 (rt rt0) o1 hi19.out hs19.out (rt_one _) ?_)
        go_ret2
        have hgr3 := only_setRow (k := w2.heap.size) (cs := rt (oneR f add (xs.drop p))) (only_below hgr2 (bl_alloc (bl_refl w2) (.cells (rt rt0) 33))) hgr2.size
        have hbw := hbS.trans (below_of_only (Below.refl _ _) hgr3 hbS.size (by omega))
        exact ⟨_, _, rfl, .inr ⟨p, rs, rfl, HLT.out, hps, hk', rfl⟩, hbw⟩
    · have hpe := Lib.hid (show p = xs.length by omega)
      have h0 : ¬ (0 : Int) < ((xs.drop p).length : Int) := by rw [HL.out]; omega
      go_wp2_with fail
      refine (left_any g _ p _ hrd.rdr).mono ?_
      rintro e w' ⟨rfl, rfl⟩
      go_wp2_with fail
      go_ret2
      rw [hpe.out] at hps
      have hbw : Below w.heap.size w wr := hbS.trans (below_of_only (Below.refl _ _) hgr hbS.size (by omega))
      obtain ⟨A2, c2, hv, hc2, hro⟩ := own_routes hown (hps.ok HR.out) rfl
      exact ⟨_, _, rfl, .inl ⟨rs, A2, c2, rfl, hps, hv, hc2, hro⟩, hbw⟩
end Go.Proofs.Yteoegejbaahlpaa

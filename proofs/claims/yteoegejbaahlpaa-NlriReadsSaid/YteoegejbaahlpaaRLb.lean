/- peerageref03.Read without identifiers -/
import Derived.Test.YteoegejbaahlpaaRLa
namespace Go.Proofs.Yteoegejbaahlpaa
open Go.RowKit

theorem add_toNat_sub {n p m : Nat} : n - p - m = n - (p + m) := Nat.sub_sub _ _ _
theorem keepB {B : Nat} {a b : World} {A : Option Addr} {n : Nat} {xs : List Int} (h : Bytes a B A n xs) (hb : Below a.heap.size a b) (hB : B ≤ a.heap.size) : Bytes b B A n xs := h.below (hb.mono hB)

theorem cell_only (w : World) (g o : Nat) (u : Value) : w.grownBy (w.setCell ⟨g, o, none⟩ u) (some g) :=
  ⟨rfl, rfl, rfl, by simp, fun i _ hne => Below.heap_setCell w ⟨g, o, none⟩ u i (fun e => hne (by rw [e]))⟩
theorem cells_only (g : Nat) : ∀ (vs : List Value) (o : Nat) (w : World), w.grownBy (w.setCells g o vs) (some g)
  | [], _, w => World.grownBy.refl w _
  | v :: r, o, w => only_trans (cell_only w g o v) (cells_only g r (o + 1) _)

set_option maxHeartbeats 1600000 in
set_option maxRecDepth 100000 in
theorem rl_false (f : Int) (A : Option Addr) (n c : Nat) (xs : List Int) (w : World) (hx : Bytes w w.heap.size A n xs) (hc : n ≤ c) (hn : n ≤ 1000000) :
    Calls Try.prog 16 #[.int .i64 f, .bool false, .slice A n c] w fun e w' => ∃ v at_, e = .returned (.tuple #[v, .int .i64 at_]) ∧ ReadsTo f false xs w' v at_ ∧ Below w.heap.size w w' := by
  have hz19 : #[.int .u32 0, .int .i64 0, .int .i64 0, .int .u8 0, .int .u8 0, .int .u8 0, .int .u8 0, .int .u8 0, .int .u8 0, .int .u8 0, .int .u8 0, .int .u8 0, .int .u8 0, .int .u8 0, .int .u8 0, .int .u8 0, .int .u8 0, .int .u8 0, .int .u8 0] = rt rt0 := rt_zero.symm
  have HN := Lib.hid hx.1
  have HR := Lib.hid hx.2.1
  have hb0 := bl_alloc (bl_refl w) (.cells #[.slice A n c, .int .i64 0] 64)
  have o0 := Own.new w 64 #[.slice A n c, .int .i64 0]
  have hx1 : Bytes (w.alloc (.cells #[.slice A n c, .int .i64 0] 64)) w.heap.size A n xs := hx.below hb0
  clear hx
  go_enter Try.func16, Try.ntmps16
  go_wp2_with fail
  go_loopw [9] (fun v wr => ∃ (p : Nat) (rs : List Rt), Parsed f false xs p rs ∧ wr.ownsRow (w.heap.size + 1) 33 19 v rs.length (flatR rs) ∧ RefR w.heap.size wr w.heap.size n p xs ∧ Below w.heap.size w wr) (fun v _ => xs.length - lenOf v)
  case atStart => exact ⟨0, [], .nil, World.ownsRow_nil _ _ _ _, ⟨A, c, o0, hc, hx1⟩, hb0⟩
  case round =>
    obtain ⟨p, rs, hps, hown, ⟨A1, c1, hrd, hc1, hby⟩, hbw⟩ := hrel
    have hple := hps.le
    have hp0 := hple.1
    have hrl := hple.2
    obtain ⟨A9, c9, rfl, hc9, _⟩ := own_val hown
    clear hple hx1 o0 hb0
    have hbs := hbw.size
    have hgl := hrd.lt
    have hbase := own_base hown
    have hlt9' : ∀ j, (Value.slice A9 rs.length c9).ownBlock = some j → j < wr.heap.size := fun j hj => (hown.lt j hj).2
    have q0 := hrd.cell (i := 0) (v := .slice A1 (n - p) c1) rfl
    have q1 := hrd.cell (i := 1) (v := .int .i64 p) rfl
    by_cases hlt : p < n
    · have HLT := Lib.hid hlt
      have HPX := Lib.hid (show p < xs.length by have := HN.out; omega)
      have hnp : (0 : Int) < ((n - p : Nat) : Int) := by omega
      have HRX := Lib.hid (fun x (hx : x ∈ xs.drop p) => HR.out x (List.mem_of_mem_drop hx))
      have HA := Lib.hid (pA_addr (f := f) HRX.out)
      have o1 := Own.new wr 33 (rt rt0)
      have o2 := o1.setRow (cs' := rt rt0)
      have hi19 := Lib.hid (rt_info (r := rt0) rfl)
      have hb11 : Below wr.heap.size wr ((wr.alloc (.cells (rt rt0) 33)).setRow wr.heap.size (rt rt0)) := bl_setRow (bl_alloc (bl_refl wr) (.cells (rt rt0) 33)) (Nat.le_refl _)
      have hrd1 := hrd.step hb11
      have hown1 := own_below hown hb11
      have hby1 := keepB hby hb11 hbs
      have hbw1 := hbw.trans (hb11.mono hbs)
      have q10 := hrd1.cell (i := 0) (v := .slice A1 (n - p) c1) rfl
      have q11 := hrd1.cell (i := 1) (v := .int .i64 p) rfl
      clear hrd hown hby hb11
      go_wp2_with (refine wpList_store_row rfl 33 _ _ rfl wr.heap.size (rt rt0) rfl rfl 33 (rt rt0) o1 hi19.out rfl (rt_one _) ?_)
      have hlt9 : ∀ j, (Value.slice A9 rs.length c9).ownBlock = some j → j < wr.heap.size := hlt9'
      clear o1 q0 q1 hlt9'
      generalize (wr.alloc (.cells (rt rt0) 33)).setRow wr.heap.size (rt rt0) = W1 at o2 hrd1 hown1 hby1 hbw1 q10 q11 ⊢
      generalize wr.heap.size = b11 at o2 hgl hbs hlt9 ⊢
      refine (rread_any f A1 (n - p) c1 (xs.drop p) p _ (hby1.more hbw1.size) hc1 (by omega) (by omega)).mono ?_
      rintro e w2 ⟨⟨A2, n2, c2, p2, rfl, hq⟩, hb2⟩
      have o3 := o2.step hb2
      have hrd2 := hrd1.step hb2
      have hown2 := own_below hown1 hb2
      have hby2 := keepB hby1 hb2 hbw1.size
      have hbw2 := bl_trans hbw1 hb2
      clear o2 hrd1 hown1 hby1 hbw1 q10 q11 hb2
      have q0 := hrd2.cell (i := 0) (v := .slice A1 (n - p) c1) rfl
      have q1 := hrd2.cell (i := 1) (v := .int .i64 p) rfl
      have e0 := hrd2.frozen 0
      have e1 := hrd2.frozen 1
      have hrd3 := (own_two hrd2 (.slice A2 n2 c2) (.int .i64 p2)).1
      have hown3 := hown2.kept (own_two hrd2 (.slice A2 n2 c2) (.int .i64 p2)).2 (.inr (fun e => by have := hbase _ e; omega))
      have o4 := own_far (o := 1) (own_far (o := 0) o3 (b := w.heap.size) (by omega) (.slice A2 n2 c2)) (b := w.heap.size) (by omega) (.int .i64 p2)
      have hbX := ((Below.refl w.heap.size w2).setCell (p := ⟨w.heap.size, 0, none⟩) (Nat.le_refl _) (.slice A2 n2 c2)).setCell (p := ⟨w.heap.size, 1, none⟩) (Nat.le_refl _) (.int .i64 p2)
      have ht := o4.there (o := 1) (n := (pfx (pF f (xs.drop p)) (pL f (xs.drop p)) (pA f (xs.drop p))).size) (by rw [pfx_size HA.out.1, rt_size rfl]; exact Nat.le_refl _)
      have hi18 := Lib.hid (pfx_info (f := pF f (xs.drop p)) (l := pL f (xs.drop p)) HA.out.1)
      have hrd4 := hrd3.farCells (b := b11) (o := 1) (vs := (pfx (pF f (xs.drop p)) (pL f (xs.drop p)) (pA f (xs.drop p))).toList) (by omega)
      have hown4 := hown3.kept (cells_only b11 (pfx (pF f (xs.drop p)) (pL f (xs.drop p)) (pA f (xs.drop p))).toList 1 _) (.inr (fun e => by have := hlt9 _ e; omega))
      have o5 : Own _ b11 33 (rt ⟨0, pF f (xs.drop p), pL f (xs.drop p), pA f (xs.drop p)⟩) := o4.setMid (p := 0) HA.out.1
      have hbY := below_setCells (b := b11) (by omega) (pfx (pF f (xs.drop p)) (pL f (xs.drop p)) (pA f (xs.drop p))).toList 1 _ hbX
      have hby4 := hby2.below hbY
      have hbw4 := hbw2.trans hbY
      clear hown3 hown2 hby2 hbw2 hbX hbY
      by_cases hk : pOk f (xs.drop p) = true
      · rw [hk] at hq ⊢
        obtain ⟨hn2, hc2, hp2, HB⟩ := hq rfl
        have HN2 := Lib.hid hn2
        have HP2 := Lib.hid hp2
        have HC2 := Lib.hid hc2
        have hps2 := Lib.hid (Parsed.cons hps HPX.out hk)
        have HP := Lib.hid (Parsed.le hps2.out)
        have h5l := o5.lt
        have hb6 := bl_alloc (bl_refl ((((w2.setCell ⟨w.heap.size, 0, none⟩ (.slice A2 n2 c2)).setCell ⟨w.heap.size, 1, none⟩ (.int .i64 p2)).setCells b11 1 (pfx (pF f (xs.drop p)) (pL f (xs.drop p)) (pA f (xs.drop p))).toList))) (.cells (rt ⟨0, pF f (xs.drop p), pL f (xs.drop p), pA f (xs.drop p)⟩) 33)
        have hown5 := own_below hown4 hb6
        have hrd5 := hrd4.step hb6
        have hby5 := keepB hby4 hb6 hbw4.size
        have hbw5 := bl_trans hbw4 hb6
        have hrl19 := Lib.hid (rt_info (r := ⟨0, pF f (xs.drop p), pL f (xs.drop p), pA f (xs.drop p)⟩) HA.out.1)
        have o6 := Own.new ((((w2.setCell ⟨w.heap.size, 0, none⟩ (.slice A2 n2 c2)).setCell ⟨w.heap.size, 1, none⟩ (.int .i64 p2)).setCells b11 1 (pfx (pF f (xs.drop p)) (pL f (xs.drop p)) (pA f (xs.drop p))).toList)) 33 (rt ⟨0, pF f (xs.drop p), pL f (xs.drop p), pA f (xs.drop p)⟩)
        have hsh := Shows.of_owned (xs := (rt ⟨0, pF f (xs.drop p), pL f (xs.drop p), pA f (xs.drop p)⟩).toList) o6 (Nat.lt_succ_self _)
        have hl19 := Lib.hid (show (rt ⟨0, pF f (xs.drop p), pL f (xs.drop p), pA f (xs.drop p)⟩).toList.length = 1 * 19 by rw [Array.length_toList, rt_size HA.out.1])
        clear hq hn2 hp2 hc2 hown4 hrd4 hby4 hb6
        go_wp2_with (first | (refine wpList_store_mid rfl 31 _ _ rfl b11 1 (pfx (pF f (xs.drop p)) (pL f (xs.drop p)) (pA f (xs.drop p))) rfl rfl ht hi18.out (pfx_one _ _ _) ?_) | (refine wpList_load_row rfl 33 _ rfl b11 rfl 33 (rt ⟨0, pF f (xs.drop p), pL f (xs.drop p), pA f (xs.drop p)⟩) (0, 0) (.struct (Try.prog.fieldsOf 33)) o5 rt_desc rfl hrl19.out ?_) | (refine wpList_build_route rfl _ rfl ⟨0, pF f (xs.drop p), pL f (xs.drop p), pA f (xs.drop p)⟩ HA.out.1 (by simp only [List.map_toArray, List.map_cons, List.map_nil]; rfl) ?_) | (at_builtin; refine wpList_append_grow _ rfl _ _ rfl sl_routes (w.heap.size + 1) _ _ _ rfl hown5 _ _ 1 1 (rt ⟨0, pF f (xs.drop p), pL f (xs.drop p), pA f (xs.drop p)⟩).toList rfl hl19.out hsh rt_one_mem (by unfold maxLen; have := HN.out; omega) (by have := HN.out; omega) (by simp; omega) ?_; intro v5 w5 hown6 hgrow5))
        have hfr : flatR rs ++ (rt ⟨0, pF f (xs.drop p), pL f (xs.drop p), pA f (xs.drop p)⟩).toList = flatR (rs ++ [oneR f false (xs.drop p)]) := by simp [flatR, oneR]
        have hlr : rs.length + 1 = (rs ++ [oneR f false (xs.drop p)]).length := by simp
        rw [hfr, hlr] at hown6
        have hrd6 := hrd5.grown hgrow5 (fun e => by have := hbase _ e.symm; omega)
        have hg6 := (Below.refl w.heap.size _).grown hgrow5 hbw5.size (fun j hj => by have := hbase j hj; omega)
        have hby6 := hby5.below hg6
        rw [HN2.out, HP2.out, Nat.sub_sub] at hrd6
        refine ⟨⟨_, _, hps2.out, hown6, ⟨A2, c2, hrd6, ?_, ?_⟩, hbw5.trans hg6⟩, ?_⟩
        · have h1 := HN2.out
          have h2 := HC2.out
          show n - (p + pN (xs.drop p)) ≤ c2
          omega
        · have h3 := HB w5 w.heap.size (xs.drop p) hby6
          rw [List.drop_drop, Nat.sub_sub] at h3
          exact h3
        obtain ⟨A5, c5, rfl, _⟩ := own_val hown6
        show xs.length - (rs ++ [oneR f false (xs.drop p)]).length < xs.length - rs.length
        rw [← hlr]
        have := HPX.out
        omega
      · have hk' : pOk f (xs.drop p) = false := by simpa using hk
        rw [hk'] at hq ⊢
        clear hq
        go_wp2_with (refine wpList_store_mid rfl 31 _ _ rfl b11 1 (pfx (pF f (xs.drop p)) (pL f (xs.drop p)) (pA f (xs.drop p))) rfl rfl ht hi18.out (pfx_one _ _ _) ?_)
        go_ret2
        exact ⟨_, _, rfl, .inr ⟨p, rs, rfl, HPX.out, hps, hk', rfl⟩, hbw4⟩
    · have hpe := Lib.hid (show p = xs.length by have := HN.out; omega)
      have hnp : ¬ (0 : Int) < ((n - p : Nat) : Int) := by omega
      go_wp2_with fail
      go_ret2
      rw [hpe.out] at hps
      obtain ⟨A2, c2, hv, hc2, hro⟩ := own_routes hown (hps.ok HR.out) rfl
      exact ⟨_, _, rfl, .inl ⟨rs, A2, c2, rfl, hps, hv, hc2, hro⟩, hbw⟩
end Go.Proofs.Yteoegejbaahlpaa

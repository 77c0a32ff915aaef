/- peerageref09.Unique -/
import Derived.Test.YtngeldgohijheaaDoorCmD
namespace Go.Proofs.YtngeldgohijheaaDoor
open Go.RowKit Go.Sort

theorem cmOk_atL {k : Int} {p : Bool} {A : Option Addr} {n c : Nat} : cmOk (atL k p A n c) = decide (cmG k ≠ 0 ∧ n ≠ 0 ∧ n % cmG k = 0) := by
  unfold cmOk
  rw [cmB_atL, Bool.and_true]
  rfl
/-- What both leave. -/
def UqP (w : World) (k : Int) (p : Bool) (V : List Int) (e : Ending) (w' : World) : Prop :=
  ∃ A c n, n = V.length ∧ e = .returned (.agg (atc (atL k p A n c))) ∧ w'.ownsRow w.heap.size 24 1 (.slice A n c) n (V.map (Value.int .u32)) ∧ Below w.heap.size w w'
set_option maxRecDepth 100000 in
/-- Has, asked of a list that is made of groups. -/
theorem rcmhas_out (k : Int) (p : Bool) (A A6 : Option Addr) (n c n6 c6 g : Nat) (U : List (List Int)) (gs : List Int) (w : World) (hk : cmG k = g) (hg1 : g = 1 ∨ g = 2 ∨ g = 3) (hU : ∀ x ∈ U, x.length = g) (hR : U32L U.flatten) (hs : U32s w w.heap.size A n U.flatten) (h6 : U32s w w.heap.size A6 n6 gs)
    (hnc : n ≤ c) (hcm : c ≤ maxLen) (hn : n ≤ 1000000000) (hn6 : n6 ≤ 1000000000) :
    Calls Tryd.prog 24 #[.agg (atc (atL k p A n c)), .slice A6 n6 c6] w fun e w' => e = .returned (.bool (decide (gs ∈ U))) ∧ Below w.heap.size w w' := by
  have hn0 : n = U.length * g := by rw [hs.1, flat_len hU]
  by_cases h0 : U = []
  · subst h0
    refine (rcmhas_no (atL k p A n c) A6 n6 c6 w (Nat.le_trans hnc hcm) ?_).mono ?_
    · rw [cmOk_atL, decide_eq_false]
      rintro ⟨_, h, _⟩
      apply h
      rw [hn0]
      simp
    · rintro e w' ⟨rfl, hb⟩
      exact ⟨ret_boolA (by simp), hb⟩
  · have hI : CmIn (atL k p A n c) g U.length U.flatten := ⟨hk, hg1, hR, hn0, hnc, hcm, hs.1⟩
    have hl : 0 < U.length := List.length_pos_iff.2 h0
    have hgp : 0 < g := by omega
    have hp := Nat.mul_pos hl hgp
    refine (rcmhas_yes (atL k p A n c) g U.length U.flatten gs hI ?_ w A6 n6 c6 hs h6 hn6 hn).mono ?_
    · rw [cmOk_atL, decide_eq_true_iff, hk]
      exact ⟨by omega, by omega, by rw [hn0, Nat.mul_mod_left]⟩
    · rintro e w' ⟨rfl, hb⟩
      exact ⟨ret_boolA (by unfold hasC; rw [chunks_flat hU]), hb⟩
theorem uqC_succ (g : Nat) (ls : List Int) (q : Nat) : uqC (chunks g ls (q + 1)) = if chunk g ls q ∈ uqC (chunks g ls q) then uqC (chunks g ls q) else uqC (chunks g ls q) ++ [chunk g ls q] := by
  rw [chunks_succ, uqC_snoc]
  rfl
theorem uqC_lens {g m : Nat} {ls : List Int} (h : ls.length = m * g) {k : Nat} (hk : k ≤ m) : ∀ x ∈ uqC (chunks g ls k), x.length = g := fun x hx => chunks_lens h hk x ((uqC_mem _ _).1 hx)
theorem uqC_u32 {g : Nat} {ls : List Int} (h : U32L ls) (k : Nat) : U32L (uqC (chunks g ls k)).flatten := by
  intro x hx
  obtain ⟨L, hL, hxL⟩ := List.mem_flatten.1 hx
  obtain ⟨q, _, rfl⟩ := List.mem_map.1 ((uqC_mem _ _).1 hL)
  exact h x (List.mem_of_mem_drop (List.mem_of_mem_take hxL))
theorem uqC_fl {g m : Nat} {ls : List Int} (h : ls.length = m * g) {k : Nat} (hk : k ≤ m) : (uqC (chunks g ls k)).flatten.length ≤ m * g := by
  rw [flat_len (uqC_lens h hk)]
  have h1 := uqC_len (chunks g ls k)
  rw [chunks_len] at h1
  exact Nat.mul_le_mul_right g (Nat.le_trans h1 hk)
/-- Between two rounds. -/
structure UrI (w : World) (k : Int) (p : Bool) (cs : Array Value) (s1 : Nat) (V : List Int) (v : Value) (W : World) : Prop where
  row : W.ownsRow w.heap.size 24 1 v V.length (V.map (Value.int .u32))
  out : Own W s1 29 (uqC0 k p v)
  o1 : Own W w.heap.size 29 cs
  ores : Own W (w.heap.size + 1) 29 uqZ
  bel : Below w.heap.size w W
  lo : w.heap.size + 2 ≤ s1
section
variable {w W X w7 : World} {k : Int} {p : Bool} {cs : Array Value} {s1 : Nat} {V V7 : List Int} {v : Value}
theorem urI_below (h : UrI w k p cs s1 V v W) (hb : Below W.heap.size W X) : UrI w k p cs s1 V v X :=
  ⟨own_belowG h.row hb, h.out.step hb, h.o1.step hb, h.ores.step hb, bl_trans h.bel hb, h.lo⟩
theorem ur_end (h : UrI w k p cs s1 V v W) (hb : Below W.heap.size W w7) {A : Option Addr} {n c : Nat} {xs : List Value} (ho : w7.ownsRow W.heap.size 24 1 (.slice A n c) n xs) (hx : xs = V7.map (Value.int .u32)) (hn : n = V7.length) (b : Nat) (hbb : b = s1) :
    UrI w k p cs s1 V7 (.slice A n c) (w7.setCell ⟨b, 5, none⟩ (.slice A n c)) := by
  subst hbb
  have h7 := urI_below h hb
  have hl := h.lo
  refine ⟨?_, h7.out.set_ 5 _, h7.o1.far (by dsimp only; omega) _, h7.ores.far (by dsimp only; omega) _, h7.bel.setCell (p := ⟨b, 5, none⟩) (by dsimp only; omega) _, hl⟩
  rw [← hx]
  subst hn
  exact own_leG (row_rest ho (Rest.setCell w7 ⟨b, 5, none⟩ _) (fun j hj e => (row_typed ho hj).1.ne h7.out.typed (Ne.symm uq_types.2.1) e)) h.bel.size
end
set_option maxRecDepth 100000 in
theorem rcmuniq_no (a : At) (w : World) (hm : a.n2 ≤ maxLen) (hv : cmOk a = false) :
    Calls Tryd.prog 28 #[.agg (atc a)] w fun e w' => e = .returned (.agg uqZ) ∧ Below w.heap.size w w' := by
  have hV := Lib.hid (fun W => rcmvalid_any a W hm)
  rw [hv] at hV
  clear hm hv
  obtain ⟨k, p0, N, M, A1, n1, c1, A2, n2, c2, A3, n3, c3, f, A4, n4, c4⟩ := a
  unfold atc at *
  dsimp only at *
  have hb0 := bl_alloc (bl_alloc (bl_refl w) (.cells #[.int .i64 k, .bool p0, .int .u32 N, .int .u32 M, .slice A1 n1 c1, .slice A2 n2 c2, .slice A3 n3 c3, .int .i64 f, .slice A4 n4 c4] 29)) (.cells #[.int .i64 0, .bool false, .int .u32 0, .int .u32 0, .slice none 0 0, .slice none 0 0, .slice none 0 0, .int .i64 0, .slice none 0 0] 29)
  have r0 := Own.new (w.alloc (.cells #[.int .i64 k, .bool p0, .int .u32 N, .int .u32 M, .slice A1 n1 c1, .slice A2 n2 c2, .slice A3 n3 c3, .int .i64 f, .slice A4 n4 c4] 29)) 29 #[.int .i64 0, .bool false, .int .u32 0, .int .u32 0, .slice none 0 0, .slice none 0 0, .slice none 0 0, .int .i64 0, .slice none 0 0]
  rw [World.size_alloc] at r0
  go_enter Tryd.func28, Tryd.ntmps28
  go_wp2_with fail
  refine (hV.out _).mono ?_
  rintro e w1 ⟨rfl, hb1⟩
  have r1 := r0.step hb1
  have hb2 := bl_trans hb0 hb1
  go_wp2_with (refine wpList_store_row rfl 29 _ _ rfl (w.heap.size + 1) #[.int .i64 0, .bool false, .int .u32 0, .int .u32 0, .slice none 0 0, .slice none 0 0, .slice none 0 0, .int .i64 0, .slice none 0 0] rfl rfl 29 #[.int .i64 0, .bool false, .int .u32 0, .int .u32 0, .slice none 0 0, .slice none 0 0, .slice none 0 0, .int .i64 0, .slice none 0 0] r1 (at_info9 _ _ _ _ _ _ _ _ _) rfl (by simp [Value.oneCell']) ?_)
  exact bodyPost_ret (results_at (fn := Tryd.f28) rfl _ _ (w.heap.size + 1) 29 _ _ rfl r1.setRow at_desc rfl (at_info9 _ _ _ _ _ _ _ _ _)) rfl ⟨rfl, below_setRow hb2 (Nat.le_succ _) _⟩
set_option maxRecDepth 100000 in
set_option maxHeartbeats 6400000 in
theorem rcmuniq_yes (a : At) (g m : Nat) (ls : List Int) (h : CmIn a g m ls) (hv : cmOk a = true) (w : World) (hU : U32s w w.heap.size a.A2 a.n2 ls) (hm : m ≤ 1000) :
    Calls Tryd.prog 28 #[.agg (atc a)] w fun e w' => UqP w a.k a.p (uqC (chunks g ls m)).flatten e w' := by
  have hV := Lib.hid (fun W => rcmvalid_any a W (Nat.le_trans h.hnc h.hcm))
  rw [hv] at hV
  have hG := Lib.hid (fun W => rcmgroup_any a.k W)
  rw [h.hg] at hG
  have HU := Lib.hid hU
  have HL := Lib.hid hU.1
  have HM := Lib.hid h.hm
  have hg1 := h.hg1
  have hg0 : 0 < g := by omega
  have hg3 : g ≤ 3 := by omega
  have hn3 : a.n2 ≤ 3000 := by have h1 := Nat.mul_le_mul hm hg3; have h2 := h.hm; omega
  have hnc := h.hnc
  have hcm := h.hcm
  unfold maxLen at hcm
  have hls : ls.length = m * g := by rw [← h.hl]; exact h.hm
  have hHs := Lib.hid (fun (A A6 : Option Addr) (n c n6 c6 q : Nat) (gs : List Int) (W : World) (hq : q ≤ m) (hs : U32s W W.heap.size A n (uqC (chunks g ls q)).flatten) (h6 : U32s W W.heap.size A6 n6 gs) (h1 : n ≤ c) (h2 : c ≤ maxLen) (h3 : n ≤ 1000000000) (h4 : n6 ≤ 1000000000) =>
    rcmhas_out a.k a.p A A6 n c n6 c6 g (uqC (chunks g ls q)) gs W h.hg h.hg1 (uqC_lens hls hq) (uqC_u32 h.hR q) hs h6 h1 h2 h3 h4)
  have hSc := Lib.hid (fun q => uqC_succ g ls q)
  have hFl := Lib.hid (fun q (hq : q ≤ m) => uqC_fl hls hq)
  have hCh := Lib.hid (fun q (p : Nat) (hp : p = q * g) => (show chunk g ls q = (ls.drop p).take g by unfold chunk; rw [hp]))
  generalize chunk g ls = ch at *
  have h00 : uqC (chunks g ls 0) = [] := rfl
  obtain ⟨Uq, hUq⟩ : ∃ Uq : Nat → List (List Int), (fun q => uqC (chunks g ls q)) = Uq := ⟨_, rfl⟩
  have hUe : ∀ q, uqC (chunks g ls q) = Uq q := fun q => congrFun hUq q
  simp only [hUe] at hHs hSc hFl h00 ⊢
  clear hUq hUe
  obtain ⟨k, p0, N, M, A1, n1, c1, A2, n2, c2, A3, n3, c3, f, A4, n4, c4⟩ := a
  unfold atc atL at *
  dsimp only at *
  have hb0 := bl_alloc (bl_alloc (bl_refl w) (.cells #[.int .i64 k, .bool p0, .int .u32 N, .int .u32 M, .slice A1 n1 c1, .slice A2 n2 c2, .slice A3 n3 c3, .int .i64 f, .slice A4 n4 c4] 29)) (.cells #[.int .i64 0, .bool false, .int .u32 0, .int .u32 0, .slice none 0 0, .slice none 0 0, .slice none 0 0, .int .i64 0, .slice none 0 0] 29)
  have o0 := (Own.new w 29 #[.int .i64 k, .bool p0, .int .u32 N, .int .u32 M, .slice A1 n1 c1, .slice A2 n2 c2, .slice A3 n3 c3, .int .i64 f, .slice A4 n4 c4]).alloc (.cells #[.int .i64 0, .bool false, .int .u32 0, .int .u32 0, .slice none 0 0, .slice none 0 0, .slice none 0 0, .int .i64 0, .slice none 0 0] 29)
  have r0 := Own.new (w.alloc (.cells #[.int .i64 k, .bool p0, .int .u32 N, .int .u32 M, .slice A1 n1 c1, .slice A2 n2 c2, .slice A3 n3 c3, .int .i64 f, .slice A4 n4 c4] 29)) 29 #[.int .i64 0, .bool false, .int .u32 0, .int .u32 0, .slice none 0 0, .slice none 0 0, .slice none 0 0, .int .i64 0, .slice none 0 0]
  rw [World.size_alloc] at r0
  clear hU h hv hg1
  go_enter Tryd.func28, Tryd.ntmps28
  go_wp2_with fail
  refine (hV.out _).mono ?_
  rintro e w1 ⟨rfl, hb1⟩
  have o1 := o0.step hb1
  have r1 := r0.step hb1
  have hb2 := bl_trans hb0 hb1
  have hs1 : w.heap.size + 2 ≤ w1.heap.size := by have := hb1.size; simp at this; omega
  have e0 := o1.cell (i := 0) rfl
  have e1 := o1.cell (i := 1) rfl
  have e5 := o1.cell (i := 5) rfl
  go_wp2_with (go_at_call 17; refine (hG.out _).mono ?_; rintro e w' ⟨rfl, rfl⟩)
  have hI0 : UrI w k p0 #[.int .i64 k, .bool p0, .int .u32 N, .int .u32 M, .slice A1 n1 c1, .slice A2 n2 c2, .slice A3 n3 c3, .int .i64 f, .slice A4 n4 c4] w1.heap.size [] (.slice none 0 0) (w1.alloc (.cells #[.int .i64 k, .bool p0, .int .u32 0, .int .u32 0, .slice none 0 0, .slice none 0 0, .slice none 0 0, .int .i64 0, .slice none 0 0] 29)) := ⟨World.ownsRow_nil _ _ _ _, Own.new w1 _ _, o1.alloc _, r1.alloc _, bl_alloc hb2 _, hs1⟩
  go_loopw [5] (fun i wr => ∃ q p : Nat, Hid (p = q * g) ∧ q ≤ m ∧ p ≤ n2 ∧ i = .int .i64 p ∧ ∃ v, UrI w k p0 #[.int .i64 k, .bool p0, .int .u32 N, .int .u32 M, .slice A1 n1 c1, .slice A2 n2 c2, .slice A3 n3 c3, .int .i64 f, .slice A4 n4 c4] w1.heap.size (Uq q).flatten v wr) (fun i _ => n2 - (intOf i).toNat)
  case atStart => exact ⟨0, 0, Lib.hid (by simp), Nat.zero_le _, Nat.zero_le _, rfl, _, by rw [h00]; exact hI0⟩
  case round =>
    obtain ⟨q, p, HP, hq, hp, rfl, v, hI⟩ := hrel
    clear o1 o0 r1 r0 hb0 hb1 hb2 e0 e1 e5 h00 hI0
    obtain ⟨A5, c5, rfl⟩ := own_form hI.row
    have oA := hI.o1
    have oO := hI.out
    unfold uqC0 at oO
    have e5 := oA.cell (i := 5) (v := .slice A2 n2 c2) rfl
    have k1 : IntKind.i64.wrap ((p : Int) + (g : Int)) = (p : Int) + (g : Int) := IntWalk.i64_in _ (by omega)
    obtain ⟨n5, hn5⟩ : ∃ n5, (Uq q).flatten.length = n5 := ⟨_, rfl⟩
    have hn5b : n5 ≤ 3000 := by have h1 := hFl.out q hq; have h2 := HM.out; rw [hn5] at h1; omega
    have HN5 := Lib.hid hn5
    have hcaps := row_caps hI.row
    have hrow := hI.row
    rw [hn5] at hI oO hcaps hrow
    have HROW := Lib.hid hrow
    have HI := Lib.hid hI
    by_cases hlt : q < m
    · have hpg : p + g ≤ n2 := by
        have h1 := HP.out
        have h2 := HM.out
        have h3 := Nat.mul_le_mul_right g (show q + 1 ≤ m from hlt)
        rw [Nat.succ_mul] at h3
        omega
      have hplt : (p : Int) < (n2 : Int) := by omega
      have hplt2 : p < n2 := by omega
      obtain ⟨b, o, rfl, hbB, _⟩ := (HU.out.below hI.bel).at_ (k := p) hplt2
      have hsrc := u32s_part (p := p) (g := g) (HU.out.below hI.bel)
      have hSt := hSc.out q
      rw [hCh.out q p HP.out] at hSt
      have hLl : g = ((ls.drop p).take g).length := by rw [List.length_take, List.length_drop, ← HL.out]; omega
      generalize (ls.drop p).take g = L at *
      have HSt := Lib.hid hSt
      have HL5 := Lib.hid hLl
      have hUL : U32s wr wr.heap.size (some ⟨b, o + p, none⟩) g L := ⟨hLl, .inr ⟨b, o + p, rfl, by have := hI.bel.size; omega, fun i v hv => by have := hsrc i v hv; rwa [Addr.add_lit] at this⟩⟩
      have hUO : U32s wr wr.heap.size A5 n5 (Uq q).flatten := ⟨hn5.symm, Shows.of_own hrow⟩
      have hFm := Lib.hid (rg_of (w := wr) (fun W hW => hHs.out A5 (some ⟨b, o + p, none⟩) n5 c5 g (c2 - p) q L W hq ((hUO.below hW).more hW.size) ((hUL.below hW).more hW.size) hcaps.1 hcaps.2 (by omega) (by omega)))
      have HUL := Lib.hid hUL
      have i1 : (0 : Int) ≤ (p : Int) := by omega
      have i2 : (p : Int) ≤ (p : Int) + (g : Int) := by omega
      have i3 : (p : Int) + (g : Int) ≤ (c2 : Int) := by omega
      have i4 : p + g ≤ c2 := by omega
      have i5 : ¬ c2 = p := by omega
      have i6 : ((p : Int) + (g : Int)).toNat - p = g := by omega
      have q5 := cell_regrown e5
      have HC := Lib.hid hcaps
      clear hsrc hUL hUO hLl hSt hn5 hcaps hrow
      go_wp2_with fail
      refine wp_region_quiet_below (by kernel_rfl) (by kernel_rfl) ?_
      repeat (first
        | go_big_quiet_skip
        | (refine wpQuiet_load_row (by rfl) 29 _ rfl w1.heap.size rfl 29 #[.int .i64 k, .bool p0, .int .u32 0, .int .u32 0, .slice none 0 0, .slice A5 n5 c5, .slice none 0 0, .int .i64 0, .slice none 0 0] (.struct (Tryd.prog.fieldsOf 29)) oO.rg (by kernel_rfl) rfl (at_info9 _ _ _ _ _ _ _ _ _) ?_; go_simp)
        | go_big_quiet_step (with_reducible first | exact hFm.out _ _))
      refine wpQuiet_nil ?_
      first | rintro _ ⟨⟨dq, osq⟩, rfl⟩ | rintro ⟨dq, osq⟩
      have hbr := below_regrown wr dq osq
      have hI4 := urI_below HI.out hbr
      clear hFm q5
      generalize grow (redrawn wr dq) osq = W4 at *
      cases hd : decide (L ∈ Uq q)
      · have hS4 := HSt.out
        rw [if_neg (of_decide_eq_false hd)] at hS4
        have HS4 := Lib.hid hS4
        clear hd hS4 e5 oA oO hI HI
        have HU7 := Lib.hid (show (Uq q).flatten.map (Value.int .u32) ++ L.map (Value.int .u32) = (Uq (q + 1)).flatten.map (Value.int .u32) by rw [HS4.out, List.flatten_append, List.map_append]; simp)
        have HN7 := Lib.hid (show n5 + g = (Uq (q + 1)).flatten.length by rw [HS4.out, List.flatten_append, List.length_append, HN5.out]; simp [← HL5.out])
        have hI5 : UrI w k p0 _ w1.heap.size (Uq q).flatten (.slice A5 n5 c5) W4.drew := urI_below hI4 (bl_drewN (bl_refl W4) 1)
        have hShL := (HUL.out.2.below hbr).more hbr.size
        have hShL : Shows W4.drew W4.drew.heap.size (some ⟨b, o + p, none⟩) (L.map (Value.int .u32)) := (hShL.below (bl_drewN (bl_refl W4) 1)).more (bl_drewN (bl_refl W4) 1).size
        clear hI4
        go_wp2_with fail
        refine wp_region_held_drew (S := fun X => X.cell? ⟨w.heap.size, 5, none⟩ = some (.slice (some ⟨b, o, none⟩) n2 c2)) (by kernel_rfl) (hI5.o1.cell (i := 5) rfl) (fun hHeld => ?_)
        generalize W4.drew = W5 at *
        have HI5 := Lib.hid hI5
        have oA4 := hI5.o1
        have hO4 := hI5.out
        unfold uqC0 at hO4
        have hrow5 := hI5.row
        rw [HN5.out] at hrow5
        have hRow0 : (W5.alloc (.cells #[] 24)).ownsRow W5.heap.size 24 1 (.slice (some ⟨W5.heap.size, 0, none⟩) 0 0) 0 [] := Own.row (cs := []) (Own.new W5 24 #[]) rfl (Nat.le_refl _) (by unfold maxLen; omega)
        have hShA := (Shows.of_own hrow5).below (bl_alloc (bl_refl W5) (.cells #[] 24))
        clear hI5 hrow5
        refine wpAnyH_take (i := 1) (v := ?_) rfl (by kernel_rfl) (by kernel_rfl) (by kernel_rfl) (fun _ _ _ h => h) (Or.inl ⟨by rfl, ?_⟩) (by assumption) ?_
        rotate_left
        · (intro W hSw; have s0 : W.cell? ⟨w.heap.size, 5, none⟩ = some (.slice (some ⟨b, o, none⟩) n2 c2) := hSw; go_simp; try with_reducible rfl)
        simp only [Act.put, List.getElem_toArray, List.getElem_cons_zero, List.getElem_cons_succ, List.setIfInBounds_toArray, List.set_cons_zero, List.set_cons_succ]
        refine wpAnyH_take (i := 4) (v := ?_) rfl (by kernel_rfl) (by kernel_rfl) (by kernel_rfl) (fun _ _ _ h => h) (Or.inl ⟨by rfl, ?_⟩) (by assumption) ?_
        rotate_left
        · (intro W hSw; have s0 : W.cell? ⟨w.heap.size, 5, none⟩ = some (.slice (some ⟨b, o, none⟩) n2 c2) := hSw; go_simp; try with_reducible rfl)
        simp only [Act.put, List.getElem_toArray, List.getElem_cons_zero, List.getElem_cons_succ, List.setIfInBounds_toArray, List.set_cons_zero, List.set_cons_succ]
        refine wpAnyH_take (i := 5) (v := ?_) rfl (by kernel_rfl) (by kernel_rfl) (by kernel_rfl) (fun _ _ _ h => h) (Or.inl ⟨by rfl, ?_⟩) (by assumption) ?_
        rotate_left
        · (intro W hSw; have s0 : W.cell? ⟨w.heap.size, 5, none⟩ = some (.slice (some ⟨b, o, none⟩) n2 c2) := hSw; go_simp; try with_reducible rfl)
        simp only [Act.put, List.getElem_toArray, List.getElem_cons_zero, List.getElem_cons_succ, List.setIfInBounds_toArray, List.set_cons_zero, List.set_cons_succ]
        refine wpAnyH_take (i := 6) (v := ?_) rfl (by kernel_rfl) (by kernel_rfl) (by kernel_rfl) (fun _ _ _ h => h) (Or.inl ⟨by rfl, ?_⟩) (by assumption) ?_
        rotate_left
        · (intro W hSw; have s0 : W.cell? ⟨w.heap.size, 5, none⟩ = some (.slice (some ⟨b, o, none⟩) n2 c2) := hSw; go_simp; try with_reducible rfl)
        simp only [Act.put, List.getElem_toArray, List.getElem_cons_zero, List.getElem_cons_succ, List.setIfInBounds_toArray, List.set_cons_zero, List.set_cons_succ]
        refine wpAnyH_take (i := 7) (v := ?_) rfl (by kernel_rfl) (by kernel_rfl) (by kernel_rfl) (fun _ _ _ h => h) (Or.inl ⟨by rfl, ?_⟩) (by assumption) ?_
        rotate_left
        · (intro W hSw; have s0 : W.cell? ⟨w.heap.size, 5, none⟩ = some (.slice (some ⟨b, o, none⟩) n2 c2) := hSw; go_simp; try with_reducible rfl)
        simp only [Act.put, List.getElem_toArray, List.getElem_cons_zero, List.getElem_cons_succ, List.setIfInBounds_toArray, List.set_cons_zero, List.set_cons_succ]
        refine wpAnyH_take (i := 8) (v := ?_) rfl (by kernel_rfl) (by kernel_rfl) (by kernel_rfl) (fun _ _ _ h => h) (Or.inl ⟨by rfl, ?_⟩) (by assumption) ?_
        rotate_left
        · (intro W hSw; have s0 : W.cell? ⟨w.heap.size, 5, none⟩ = some (.slice (some ⟨b, o, none⟩) n2 c2) := hSw; go_simp; try with_reducible rfl)
        simp only [Act.put, List.getElem_toArray, List.getElem_cons_zero, List.getElem_cons_succ, List.setIfInBounds_toArray, List.set_cons_zero, List.set_cons_succ]
        refine wpAnyH_take (i := 9) (v := ?_) rfl (by kernel_rfl) (by kernel_rfl) (by kernel_rfl) (fun _ _ _ h => h) (Or.inl ⟨by rfl, ?_⟩) (by assumption) ?_
        rotate_left
        · (intro W hSw; have s0 : W.cell? ⟨w.heap.size, 5, none⟩ = some (.slice (some ⟨b, o, none⟩) n2 c2) := hSw; go_simp; try with_reducible rfl)
        simp only [Act.put, List.getElem_toArray, List.getElem_cons_zero, List.getElem_cons_succ, List.setIfInBounds_toArray, List.set_cons_zero, List.set_cons_succ]
        refine wpAnyH_take (i := 10) (v := ?_) rfl (by kernel_rfl) (by kernel_rfl) (by kernel_rfl) (fun _ _ _ h => h) (Or.inl ⟨by rfl, ?_⟩) (by assumption) ?_
        rotate_left
        · (intro W hSw; have s0 : W.cell? ⟨w.heap.size, 5, none⟩ = some (.slice (some ⟨b, o, none⟩) n2 c2) := hSw; go_simp; try with_reducible rfl)
        simp only [Act.put, List.getElem_toArray, List.getElem_cons_zero, List.getElem_cons_succ, List.setIfInBounds_toArray, List.set_cons_zero, List.set_cons_succ]
        refine wpAnyH_ready (rs := [0, 2]) (by kernel_rfl) (by simp) ?_
        refine AllReadyH.cons rfl (fun K hK => ?_) (AllReadyH.cons rfl (fun K hK => ?_) AllReadyH.nil)
        · skip
          go_simp
          refine hK.out _ _ ((oA4.alloc (.cells #[] 24)).cell (i := 5) (v := .slice (some ⟨b, o, none⟩) n2 c2) rfl) (fun hHeld2 => ?_)
          clear hK K hHeld
          have hHeld := hHeld2
          clear hHeld2
          try simp only [Act.put, List.getElem_toArray, List.getElem_cons_zero, List.getElem_cons_succ, List.setIfInBounds_toArray, List.set_cons_zero, List.set_cons_succ]
          refine wpAnyH_ready (rs := [2]) (by kernel_rfl) (by simp) ?_
          refine AllReadyH.cons rfl (fun K hK => ?_) AllReadyH.nil
          have c0 := (hO4.alloc (.cells #[] 24)).cell (i := 5) (v := .slice A5 n5 c5) rfl
          go_simp
          refine hK.out _ _ hHeld (fun hHeld2 => ?_)
          clear hK K hHeld
          have hHeld := hHeld2
          clear hHeld2
          try simp only [Act.put, List.getElem_toArray, List.getElem_cons_zero, List.getElem_cons_succ, List.setIfInBounds_toArray, List.set_cons_zero, List.set_cons_succ]
          refine wpAnyH_ready (rs := [3]) (by kernel_rfl) (by simp) ?_
          refine AllReadyH.cons rfl (fun K hK => ?_) AllReadyH.nil
          refine step_append_at _ rfl _ _ rfl sl_u32 W5.heap.size _ _ _ rfl hRow0 W5.heap.size A5 n5 c5 _ rfl (by rw [List.length_map]; exact HN5.out.trans (Nat.mul_one _).symm) hShA (ints_oneCell .u32 _) (by unfold maxLen; omega) (by omega) (by simp) ?_
          intro v6 w6 ho6 hg6 hv6
          rw [Nat.zero_add, List.nil_append] at ho6
          obtain ⟨A6, c6, rfl⟩ := own_form ho6
          have hRW6 : Rest W5 w6 (fun _ => False) := (Rest.of_below (bl_alloc (bl_refl W5) (.cells #[] 24)) (fun _ => False)).trans (Rest.of_grown (P := fun i => i = W5.heap.size) hg6 (fun j e => (Option.some.inj e).symm)) (fun i hi e => by omega)
          have hB6 := hRW6.to_below (Nat.le_refl _) (fun _ _ h => h)
          refine hK.out _ _ ((oA4.step hB6).cell (i := 5) (v := .slice (some ⟨b, o, none⟩) n2 c2) rfl) (fun hHeld2 => ?_)
          clear hK K hHeld
          have hHeld := hHeld2
          clear hHeld2
          try simp only [Act.put, List.getElem_toArray, List.getElem_cons_zero, List.getElem_cons_succ, List.setIfInBounds_toArray, List.set_cons_zero, List.set_cons_succ]
          refine wpAnyH_ready (rs := [11]) (by kernel_rfl) (by simp) ?_
          refine AllReadyH.cons rfl (fun K hK => ?_) AllReadyH.nil
          refine step_append_at _ rfl _ _ rfl sl_u32 W5.heap.size _ _ _ rfl ho6 w6.heap.size (some ⟨b, o + p, none⟩) g (c2 - p) _ rfl (by rw [List.length_map]; exact HL5.out.symm.trans (Nat.mul_one _).symm) ((hShL.below hB6).more hB6.size) (ints_oneCell .u32 _) (by unfold maxLen; omega) (by omega) hB6.size ?_
          intro v7 w7 ho7 hg7 _
          obtain ⟨A7, c7, rfl⟩ := own_form ho7
          have hRW7 : Rest W5 w7 (fun _ => False) := hRW6.trans (Rest.of_grown (P := fun i => W5.heap.size ≤ i) hg7 (fun j e => by
            replace e : (Value.slice A6 n5 c6).ownBlock = some j := e
            rcases hv6 with h | h
            · rw [h] at e
              exact Nat.le_of_eq (Option.some.inj e)
            · rw [h] at e
              have := Option.some.inj e
              simp at this
              omega)) (fun i hi e => by omega)
          have hB7 := hRW7.to_below (Nat.le_refl _) (fun _ _ h => h)
          have hfin := ur_end HI5.out hB7 ho7 HU7.out HN7.out (w1.heap.size) rfl
          refine hK.out _ _ ((oA4.step hB7).cell (i := 5) (v := .slice (some ⟨b, o, none⟩) n2 c2) rfl) (fun hHeld2 => ?_)
          clear hK K hHeld
          have hHeld := hHeld2
          clear hHeld2
          try simp only [Act.put, List.getElem_toArray, List.getElem_cons_zero, List.getElem_cons_succ, List.setIfInBounds_toArray, List.set_cons_zero, List.set_cons_succ]
          refine wpAnyH_ready (rs := [12]) (by kernel_rfl) (by simp) ?_
          refine AllReadyH.cons rfl (fun K hK => ?_) AllReadyH.nil
          go_simp
          refine hK.out _ _ ((oA4.step hB7).cell (i := 5) (v := .slice (some ⟨b, o, none⟩) n2 c2) rfl) (fun hHeld2 => ?_)
          clear hK K hHeld
          have hHeld := hHeld2
          clear hHeld2
          try simp only [Act.put, List.getElem_toArray, List.getElem_cons_zero, List.getElem_cons_succ, List.setIfInBounds_toArray, List.set_cons_zero, List.set_cons_succ]
          refine wpAnyH_ready (rs := [13]) (by kernel_rfl) (by simp) ?_
          refine AllReadyH.cons rfl (fun K hK => ?_) AllReadyH.nil
          have hc7 := (hO4.step hB7).cell (i := 5) (v := .slice A5 n5 c5) rfl
          have hf7 := (hO4.step hB7).frozen 5
          go_simp
          refine hK.out _ _ (((oA4.step hB7).far (p := ⟨w1.heap.size, 5, none⟩) (by dsimp only; omega) _).cell (i := 5) (v := .slice (some ⟨b, o, none⟩) n2 c2) rfl) (fun hHeld2 => ?_)
          clear hK K hHeld
          have hHeld := hHeld2
          clear hHeld2
          try simp only [Act.put, List.getElem_toArray, List.getElem_cons_zero, List.getElem_cons_succ]
          refine wpAnyH_done (by kernel_rfl) ?_ _
          go_wp2
          go_roundw
          case rel => exact ⟨q + 1, p + g, Lib.hid (by rw [Nat.succ_mul, HP.out]), hlt, hpg, by go_num, _, hfin⟩
          case measure => simp [intOf]; omega
        · skip
          have c0 := hO4.cell (i := 5) (v := .slice A5 n5 c5) rfl
          go_simp
          refine hK.out _ _ hHeld (fun hHeld2 => ?_)
          clear hK K hHeld
          have hHeld := hHeld2
          clear hHeld2
          try simp only [Act.put, List.getElem_toArray, List.getElem_cons_zero, List.getElem_cons_succ, List.setIfInBounds_toArray, List.set_cons_zero, List.set_cons_succ]
          refine wpAnyH_ready (rs := [0]) (by kernel_rfl) (by simp) ?_
          refine AllReadyH.cons rfl (fun K hK => ?_) AllReadyH.nil
          go_simp
          refine hK.out _ _ ((oA4.alloc (.cells #[] 24)).cell (i := 5) (v := .slice (some ⟨b, o, none⟩) n2 c2) rfl) (fun hHeld2 => ?_)
          clear hK K hHeld
          have hHeld := hHeld2
          clear hHeld2
          try simp only [Act.put, List.getElem_toArray, List.getElem_cons_zero, List.getElem_cons_succ, List.setIfInBounds_toArray, List.set_cons_zero, List.set_cons_succ]
          refine wpAnyH_ready (rs := [3]) (by kernel_rfl) (by simp) ?_
          refine AllReadyH.cons rfl (fun K hK => ?_) AllReadyH.nil
          refine step_append_at _ rfl _ _ rfl sl_u32 W5.heap.size _ _ _ rfl hRow0 W5.heap.size A5 n5 c5 _ rfl (by rw [List.length_map]; exact HN5.out.trans (Nat.mul_one _).symm) hShA (ints_oneCell .u32 _) (by unfold maxLen; omega) (by omega) (by simp) ?_
          intro v6 w6 ho6 hg6 hv6
          rw [Nat.zero_add, List.nil_append] at ho6
          obtain ⟨A6, c6, rfl⟩ := own_form ho6
          have hRW6 : Rest W5 w6 (fun _ => False) := (Rest.of_below (bl_alloc (bl_refl W5) (.cells #[] 24)) (fun _ => False)).trans (Rest.of_grown (P := fun i => i = W5.heap.size) hg6 (fun j e => (Option.some.inj e).symm)) (fun i hi e => by omega)
          have hB6 := hRW6.to_below (Nat.le_refl _) (fun _ _ h => h)
          refine hK.out _ _ ((oA4.step hB6).cell (i := 5) (v := .slice (some ⟨b, o, none⟩) n2 c2) rfl) (fun hHeld2 => ?_)
          clear hK K hHeld
          have hHeld := hHeld2
          clear hHeld2
          try simp only [Act.put, List.getElem_toArray, List.getElem_cons_zero, List.getElem_cons_succ, List.setIfInBounds_toArray, List.set_cons_zero, List.set_cons_succ]
          refine wpAnyH_ready (rs := [11]) (by kernel_rfl) (by simp) ?_
          refine AllReadyH.cons rfl (fun K hK => ?_) AllReadyH.nil
          refine step_append_at _ rfl _ _ rfl sl_u32 W5.heap.size _ _ _ rfl ho6 w6.heap.size (some ⟨b, o + p, none⟩) g (c2 - p) _ rfl (by rw [List.length_map]; exact HL5.out.symm.trans (Nat.mul_one _).symm) ((hShL.below hB6).more hB6.size) (ints_oneCell .u32 _) (by unfold maxLen; omega) (by omega) hB6.size ?_
          intro v7 w7 ho7 hg7 _
          obtain ⟨A7, c7, rfl⟩ := own_form ho7
          have hRW7 : Rest W5 w7 (fun _ => False) := hRW6.trans (Rest.of_grown (P := fun i => W5.heap.size ≤ i) hg7 (fun j e => by
            replace e : (Value.slice A6 n5 c6).ownBlock = some j := e
            rcases hv6 with h | h
            · rw [h] at e
              exact Nat.le_of_eq (Option.some.inj e)
            · rw [h] at e
              have := Option.some.inj e
              simp at this
              omega)) (fun i hi e => by omega)
          have hB7 := hRW7.to_below (Nat.le_refl _) (fun _ _ h => h)
          have hfin := ur_end HI5.out hB7 ho7 HU7.out HN7.out (w1.heap.size) rfl
          refine hK.out _ _ ((oA4.step hB7).cell (i := 5) (v := .slice (some ⟨b, o, none⟩) n2 c2) rfl) (fun hHeld2 => ?_)
          clear hK K hHeld
          have hHeld := hHeld2
          clear hHeld2
          try simp only [Act.put, List.getElem_toArray, List.getElem_cons_zero, List.getElem_cons_succ, List.setIfInBounds_toArray, List.set_cons_zero, List.set_cons_succ]
          refine wpAnyH_ready (rs := [12]) (by kernel_rfl) (by simp) ?_
          refine AllReadyH.cons rfl (fun K hK => ?_) AllReadyH.nil
          go_simp
          refine hK.out _ _ ((oA4.step hB7).cell (i := 5) (v := .slice (some ⟨b, o, none⟩) n2 c2) rfl) (fun hHeld2 => ?_)
          clear hK K hHeld
          have hHeld := hHeld2
          clear hHeld2
          try simp only [Act.put, List.getElem_toArray, List.getElem_cons_zero, List.getElem_cons_succ, List.setIfInBounds_toArray, List.set_cons_zero, List.set_cons_succ]
          refine wpAnyH_ready (rs := [13]) (by kernel_rfl) (by simp) ?_
          refine AllReadyH.cons rfl (fun K hK => ?_) AllReadyH.nil
          have hc7 := (hO4.step hB7).cell (i := 5) (v := .slice A5 n5 c5) rfl
          have hf7 := (hO4.step hB7).frozen 5
          go_simp
          refine hK.out _ _ (((oA4.step hB7).far (p := ⟨w1.heap.size, 5, none⟩) (by dsimp only; omega) _).cell (i := 5) (v := .slice (some ⟨b, o, none⟩) n2 c2) rfl) (fun hHeld2 => ?_)
          clear hK K hHeld
          have hHeld := hHeld2
          clear hHeld2
          try simp only [Act.put, List.getElem_toArray, List.getElem_cons_zero, List.getElem_cons_succ]
          refine wpAnyH_done (by kernel_rfl) ?_ _
          go_wp2
          go_roundw
          case rel => exact ⟨q + 1, p + g, Lib.hid (by rw [Nat.succ_mul, HP.out]), hlt, hpg, by go_num, _, hfin⟩
          case measure => simp [intOf]; omega
      · have hS4 := HSt.out
        rw [if_pos (of_decide_eq_true hd)] at hS4
        have HS4 := Lib.hid hS4
        clear hd hS4 e5 oA oO hI HI
        go_wp2
        go_roundw
        case rel => exact ⟨q + 1, p + g, Lib.hid (by rw [Nat.succ_mul, HP.out]), hlt, hpg, by go_num, _, by rw [HS4.out]; exact hI4⟩
        case measure => simp [intOf]; omega
    · obtain rfl : q = m := by omega
      have hpn : ¬ ((p : Int) < (n2 : Int)) := by have := HP.out; have := HM.out; omega
      have hpn2 : ¬ (p < n2) := by omega
      obtain ⟨e0, e1, e2, e3, e4, e5', e6, e7, e8⟩ := at_cells oO
      have oR := hI.ores
      unfold uqZ at oR
      clear hI hrow
      go_wp2_with (refine wpList_store_row rfl 29 _ _ rfl (w.heap.size + 1) #[.int .i64 k, .bool p0, .int .u32 0, .int .u32 0, .slice none 0 0, .slice A5 n5 c5, .slice none 0 0, .int .i64 0, .slice none 0 0] rfl rfl 29 #[.int .i64 0, .bool false, .int .u32 0, .int .u32 0, .slice none 0 0, .slice none 0 0, .slice none 0 0, .int .i64 0, .slice none 0 0] oR (at_info9 _ _ _ _ _ _ _ _ _) rfl (by simp [Value.oneCell']) ?_)
      have R1 : Rest wr (wr.setRow (w.heap.size + 1) #[.int .i64 k, .bool p0, .int .u32 0, .int .u32 0, .slice none 0 0, .slice A5 n5 c5, .slice none 0 0, .int .i64 0, .slice none 0 0]) (fun i => i = w.heap.size + 1) := ⟨rfl, rfl, rfl, by simp, fun i _ hn => setRow_other wr (w.heap.size + 1) i _ hn⟩
      have hrow := HROW.out
      exact bodyPost_ret (results_at (fn := Tryd.f28) rfl _ _ (w.heap.size + 1) 29 _ _ rfl oR.setRow at_desc rfl (at_info9 _ _ _ _ _ _ _ _ _)) rfl ⟨A5, c5, n5, HN5.out.symm, rfl, row_rest hrow R1 (fun j hj e => (row_typed hrow hj).1.ne oR.typed (Ne.symm uq_types.2.1) e), below_setRow HI.out.bel (Nat.le_succ _) _⟩
end Go.Proofs.YtngeldgohijheaaDoor

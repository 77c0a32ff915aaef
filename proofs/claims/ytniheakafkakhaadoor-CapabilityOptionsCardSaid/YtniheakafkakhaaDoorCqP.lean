/- capability.Of: the walk -/
import Derived.Test.YtniheakafkakhaaDoorCqO
namespace Go.Proofs.YtniheakafkakhaaDoor
open Go.RowKit

theorem PutR.refl {w W : World} {opts : Array Value} {L : List (Int × List Int)} {gv : Value} {G : List Int} (hI : OfI w opts W L gv G) : PutR w opts W L gv G W := ⟨hI, fun _ _ _ h _ _ => h, Nat.le_refl _⟩
set_option maxRecDepth 100000 in
theorem cput_any (b : Bool) (code : Int) (A : Option Addr) (n c : Nat) (xs : List Int) (w W : World) (opts : Array Value) (L : List (Int × List Int)) (gv : Value) (G : List Int) (hI : OfI w opts W L gv G) (hx : Bytes W W.heap.size A n xs) (hn : n ≤ 1000) (hL : L.length ≤ 1000) :
    Calls Tryd.prog 52 #[.bool b, .int .i64 code, .slice A n c, .pointer (some ⟨w.heap.size + 1, 0, none⟩)] W fun e W' => (∃ u, e = .returned u) ∧ PutR w opts W (ofPut b code xs L) gv G W' := by
  cases b
  · refine (cput_no code A n c _ W).mono ?_
    rintro e w' ⟨h1, rfl⟩
    exact ⟨h1, PutR.refl hI⟩
  · exact cput_yes code A n c xs w W opts L gv G hI hx hn hL
theorem ofPut_len (b : Bool) (code : Int) (xs : List Int) (L : List (Int × List Int)) : (ofPut b code xs L).length ≤ L.length + 1 := by
  unfold ofPut
  split <;> simp
theorem OfI.grow {w W X w' : World} {opts : Array Value} {L : List (Int × List Int)} {gv gv' : Value} {G zs : List Int} {m : Nat} (h : OfI w opts W L gv G) (hX : Below W.heap.size W X)
    (hown : w'.ownsRow (w.heap.size + 2) 5 1 gv' (G.length + m) (G.map (Value.int .u8) ++ zs.map (Value.int .u8))) (hm : m = zs.length) (hgr : X.grownBy w' gv.ownBlock) (hat : gv'.ownBlock = gv.ownBlock ∨ gv'.ownBlock = some X.heap.size) : OfI w opts w' L gv' (G ++ zs) := by
  obtain ⟨h1, h2, ⟨v, h3, h4⟩, h5⟩ := h
  have h4' := h4
  obtain ⟨L', _, _, _, hg, _⟩ := h4'
  have hgX := own_belowG hg hX
  have hT : ∀ j, gv.ownBlock = some j → Typed X j 5 ∧ w.heap.size + 2 ≤ j := fun j hj => row_typed hgX hj
  have R := Rest.of_grown hgr (P := fun j => gv.ownBlock = some j) (fun j e => e)
  refine ⟨(bl_trans h1 hX).trans (R.to_below (bl_trans h1 hX).size (fun i hi e => by have := (hT i e).2; omega)), R.own (h2.step hX) (fun e => by have := (hT _ e).2; omega), ⟨v, R.own (h3.step hX) (fun e => by have := (hT _ e).2; omega), ofS_grow of_types.1 h4 hX hown hm hgr hat⟩, Nat.le_trans h5 (Nat.le_trans hX.size R.size)⟩
def ofL (a2 a3 : Bool) : Nat → List (Int × List Int)
  | 0 => []
  | 1 => ofPut a2 1 [0, 1, 0, 1] []
  | _ => ofPut a3 1 [0, 2, 0, 1] (ofPut a2 1 [0, 1, 0, 1] [])
def ofG (a4 a5 : Bool) : Nat → List Int
  | 0 => []
  | 1 => if a4 then [0, 1, 1, 3] else []
  | _ => (if a4 then [0, 1, 1, 3] else []) ++ (if a5 then [0, 2, 1, 3] else [])
theorem ofL_len (a2 a3 : Bool) (j : Nat) : (ofL a2 a3 j).length ≤ 2 := by
  rcases j with _ | _ | j
  · simp [ofL]
  · have := ofPut_len a2 1 [0, 1, 0, 1] []
    simp only [ofL, List.length_nil] at *
    omega
  · have h1 := ofPut_len a2 1 [0, 1, 0, 1] []
    have h2 := ofPut_len a3 1 [0, 2, 0, 1] (ofPut a2 1 [0, 1, 0, 1] [])
    simp only [ofL, List.length_nil] at *
    omega
theorem ofG_ok (a4 a5 : Bool) (j : Nat) : (ofG a4 a5 j).length ≤ 8 ∧ ∀ x ∈ ofG a4 a5 j, 0 ≤ x ∧ x ≤ 255 := by
  rcases j with _ | _ | j <;> cases a4 <;> cases a5 <;> simp [ofG]
set_option maxRecDepth 100000 in
theorem of_round (a2 a3 a4 a5 : Bool) {j : Nat} (hj : j < 2) : ∃ (f : Int) (b g : Bool), (f = 1 ∨ f = 2) ∧ ofL a2 a3 (j + 1) = ofPut b 1 [0, f, 0, 1] (ofL a2 a3 j) ∧ ofG a4 a5 (j + 1) = ofG a4 a5 j ++ (if g then [0, f, 1, 3] else []) ∧
    (∀ W, (Instr.index 85 (.agg #[.int .i64 1, .int .i64 2]) (.int .i64 (j : Int))).run Tryd.prog W = .ok (.int .i64 f) W) ∧ (decide (f = 1) && a2 || decide (f = 2) && a3) = b ∧ (decide (f = 1) && a4 || decide (f = 2) && a5) = g := by
  rcases j with _ | _ | j
  · exact ⟨1, a2, a4, .inl rfl, rfl, by simp [ofG], fun W => by kernel_rfl, by simp, by simp⟩
  · exact ⟨2, a3, a5, .inr rfl, rfl, by simp [ofG], fun W => by kernel_rfl, by simp, by simp⟩
  · omega
/-- The capabilities for options. -/
def ofK (a0 a1 a2 a3 a4 a5 : Bool) (n : Int) : List (Int × List Int) :=
  ofPut (decide (0 < (ofG a4 a5 2).length)) 69 (ofG a4 a5 2) (ofPut a0 65 (digitsOf 4 n) (ofPut a1 6 [] (ofPut true 2 [] (ofL a2 a3 2))))
set_option maxRecDepth 100000 in
theorem op_descO : Tryd.prog.underlying 23 = some (.struct (Tryd.prog.fieldsOf 23)) := by kernel_rfl
set_option maxRecDepth 100000 in
theorem op_infoO (a b c d e f : Value) : (Tryd.prog.info? 23).map (·.size) = some (#[a, b, c, d, e, f] : Array Value).size := by kernel_rfl
set_option maxRecDepth 100000 in
set_option maxHeartbeats 6400000 in
theorem cof_any (a0 a1 a2 a3 a4 a5 : Bool) (an : Int) (h0 : 0 ≤ an) (h1 : an < 4294967296) (w : World) (hf : Fams w) :
    Calls Tryd.prog 11 #[.agg #[.bool a0, .bool a1, .bool a2, .bool a3, .bool a4, .bool a5], .int .u32 an] w fun e w' => ∃ A c L', e = .returned (.slice A (List.length L') c) ∧ Caps w' w'.heap.size A L'.length L' ∧ L'.map cpK = ofK a0 a1 a2 a3 a4 a5 an ∧ (∀ s ∈ L', s.n ≤ 1000) ∧ Below w.heap.size w w' := by
  have HF := Lib.hid hf
  have hPut := Lib.hid (fun W => put_4 an W h0 h1)
  have hR := Lib.hid (fun (j : Nat) (hj : j < 2) => of_round a2 a3 a4 a5 hj)
  have hMP := Lib.hid (fun (f : Int) W => ompA_any a0 a1 a2 a3 a4 a5 f W)
  have hAD := Lib.hid (fun (f : Int) W => oaddA_any a0 a1 a2 a3 a4 a5 f W)
  have hI0 : OfI w #[.bool a0, .bool a1, .bool a2, .bool a3, .bool a4, .bool a5] ((w.alloc (.cells #[.bool a0, .bool a1, .bool a2, .bool a3, .bool a4, .bool a5] 23)).alloc (.cells #[.slice none 0 0] 25)) [] (.slice none 0 0) [] :=
    ⟨bl_alloc (bl_alloc (bl_refl w) _) _, (Own.new w _ _).alloc _, ⟨.slice none 0 0, by have := Own.new (w.alloc (.cells #[.bool a0, .bool a1, .bool a2, .bool a3, .bool a4, .bool a5] 23)) 25 #[.slice none 0 0]; rwa [World.size_alloc] at this, OfS.nil _ _ _⟩, by simp⟩
  clear h0 h1 hf
  go_enter Tryd.func11, Tryd.ntmps11
  go_wp2_with fail
  go_loopw [7, 16] (fun gv i wr => ∃ j : Nat, j ≤ 2 ∧ i = .int .i64 j ∧ OfI w #[.bool a0, .bool a1, .bool a2, .bool a3, .bool a4, .bool a5] wr (ofL a2 a3 j) gv (ofG a4 a5 j)) (fun _ i _ => 2 - (intOf i).toNat)
  case atStart => exact ⟨0, Nat.zero_le _, rfl, hI0⟩
  case round =>
    obtain ⟨j, hj, rfl, hI⟩ := hrel
    clear hI0
    have hbx := hI.box
    obtain ⟨v0, _, hS0⟩ := hbx
    obtain ⟨_, _, _, _, hg0, _⟩ := hS0
    obtain ⟨gvA, gvc, rfl⟩ := own_form hg0
    have HgL : Hid (∀ i : Nat, (Value.slice gvA (ofG a4 a5 j).length gvc).ownBlock = some i → i < wr.heap.size) := Lib.hid (fun i hi => (row_typed hg0 hi).1.lt)
    clear hg0
    by_cases hlt : j < 2
    · obtain ⟨f, b, g, hf12, hL, hG, hidx, hb1, hg1⟩ := hR.out j hlt
      have HL := Lib.hid hL
      have HG := Lib.hid hG
      have H12 := Lib.hid hf12
      have hMP1 := Lib.hid (hMP.out f)
      have hAD1 := Lib.hid (hAD.out f)
      rw [hb1] at hMP1
      rw [hg1] at hAD1
      have hLn := Lib.hid (ofL_len a2 a3 j)
      have hGn := Lib.hid (ofG_ok a4 a5 j)
      have hd4 : Hid (∀ x ∈ [0, f, 0, 1], (0 : Int) ≤ x ∧ x ≤ 255) := Lib.hid (by rcases hf12 with rfl | rfl <;> simp)
      generalize ofL a2 a3 j = L at *
      generalize ofG a4 a5 j = G at *
      clear hL hG hf12 hb1 hg1
      go_wp2_with fail
      refine (codes_yes f _ H12.out (HF.out.below hI.bel)).mono ?_
      rintro e w1 ⟨gC, rfl, hgC, oC, hbC⟩
      have hI1 := hI.below hbC
      clear hI hbC hidx
      go_wp2_with fail
      refine wp_region_held_drew (S := fun X => Own X gC 5 #[.int .u8 0, .int .u8 f, .int .u8 1] ∧ Own X w.heap.size 23 #[.bool a0, .bool a1, .bool a2, .bool a3, .bool a4, .bool a5]) (by kernel_rfl) ⟨oC.drew, hI1.o1.drew⟩ (fun hHeld => ?_)
      have hI2 := hI1.below (bl_drewN (bl_refl w1) 1)
      have oC2 : Own (w1.drewN 1) gC 5 #[.int .u8 0, .int .u8 f, .int .u8 1] := oC
      change OfI w #[.bool a0, .bool a1, .bool a2, .bool a3, .bool a4, .bool a5] w1.drew L _ G at hI2
      change Own w1.drew gC _ _ at oC2
      generalize w1.drew = w2 at *
      clear hI1 oC
      refine wpAnyH_take (i := 0) (v := ?_) rfl (by kernel_rfl) (by kernel_rfl) (by kernel_rfl) (fun _ _ _ h => h) (Or.inl ⟨by rfl, ?_⟩) (by assumption) ?_
      rotate_left
      · (intro W hSw; obtain ⟨s0, s1⟩ := hSw; have e0 := s0.cell (i := 0) (v := .int .u8 0) rfl; have e1 := s0.cell (i := 1) (v := .int .u8 f) rfl; have e2 := s0.cell (i := 2) (v := .int .u8 1) rfl; have q0 := s1.cell (i := 0) (v := .bool a0) rfl; have q1 := s1.cell (i := 1) (v := .bool a1) rfl; have q2 := s1.cell (i := 2) (v := .bool a2) rfl; have q3 := s1.cell (i := 3) (v := .bool a3) rfl; have q4 := s1.cell (i := 4) (v := .bool a4) rfl; have q5 := s1.cell (i := 5) (v := .bool a5) rfl; go_simp; try with_reducible rfl)
      simp only [Act.put, List.getElem_toArray, List.getElem_cons_zero, List.setIfInBounds_toArray, List.set_cons_zero, List.set_cons_succ]
      refine wpAnyH_take (i := 1) (v := ?_) rfl (by kernel_rfl) (by kernel_rfl) (by kernel_rfl) (fun _ _ _ h => h) (Or.inl ⟨by rfl, ?_⟩) (by assumption) ?_
      rotate_left
      · (intro W hSw; obtain ⟨s0, s1⟩ := hSw; have e0 := s0.cell (i := 0) (v := .int .u8 0) rfl; have e1 := s0.cell (i := 1) (v := .int .u8 f) rfl; have e2 := s0.cell (i := 2) (v := .int .u8 1) rfl; have q0 := s1.cell (i := 0) (v := .bool a0) rfl; have q1 := s1.cell (i := 1) (v := .bool a1) rfl; have q2 := s1.cell (i := 2) (v := .bool a2) rfl; have q3 := s1.cell (i := 3) (v := .bool a3) rfl; have q4 := s1.cell (i := 4) (v := .bool a4) rfl; have q5 := s1.cell (i := 5) (v := .bool a5) rfl; go_simp; try with_reducible rfl)
      simp only [Act.put, List.getElem_toArray, List.getElem_cons_zero, List.getElem_cons_succ, List.setIfInBounds_toArray, List.set_cons_zero, List.set_cons_succ]
      refine wpAnyH_take (i := 2) (v := ?_) rfl (by kernel_rfl) (by kernel_rfl) (by kernel_rfl) (fun _ _ _ h => h) (Or.inl ⟨by rfl, ?_⟩) (by assumption) ?_
      rotate_left
      · (intro W hSw; obtain ⟨s0, s1⟩ := hSw; have e0 := s0.cell (i := 0) (v := .int .u8 0) rfl; have e1 := s0.cell (i := 1) (v := .int .u8 f) rfl; have e2 := s0.cell (i := 2) (v := .int .u8 1) rfl; have q0 := s1.cell (i := 0) (v := .bool a0) rfl; have q1 := s1.cell (i := 1) (v := .bool a1) rfl; have q2 := s1.cell (i := 2) (v := .bool a2) rfl; have q3 := s1.cell (i := 3) (v := .bool a3) rfl; have q4 := s1.cell (i := 4) (v := .bool a4) rfl; have q5 := s1.cell (i := 5) (v := .bool a5) rfl; go_simp; try with_reducible rfl)
      simp only [Act.put, List.getElem_toArray, List.getElem_cons_zero, List.getElem_cons_succ, List.setIfInBounds_toArray, List.set_cons_zero, List.set_cons_succ]
      refine wpAnyH_take (i := 4) (v := ?_) rfl (by kernel_rfl) (by kernel_rfl) (by kernel_rfl) (fun _ _ _ h => h) (Or.inl ⟨by rfl, ?_⟩) (by assumption) ?_
      rotate_left
      · (intro W hSw; obtain ⟨s0, s1⟩ := hSw; have e0 := s0.cell (i := 0) (v := .int .u8 0) rfl; have e1 := s0.cell (i := 1) (v := .int .u8 f) rfl; have e2 := s0.cell (i := 2) (v := .int .u8 1) rfl; have q0 := s1.cell (i := 0) (v := .bool a0) rfl; have q1 := s1.cell (i := 1) (v := .bool a1) rfl; have q2 := s1.cell (i := 2) (v := .bool a2) rfl; have q3 := s1.cell (i := 3) (v := .bool a3) rfl; have q4 := s1.cell (i := 4) (v := .bool a4) rfl; have q5 := s1.cell (i := 5) (v := .bool a5) rfl; go_simp; try with_reducible rfl)
      simp only [Act.put, List.getElem_toArray, List.getElem_cons_zero, List.getElem_cons_succ, List.setIfInBounds_toArray, List.set_cons_zero, List.set_cons_succ]
      refine wpAnyH_take (i := 5) (v := ?_) rfl (by kernel_rfl) (by kernel_rfl) (by kernel_rfl) (fun _ _ _ h => h) (Or.inl ⟨by rfl, ?_⟩) (by assumption) ?_
      rotate_left
      · (intro W hSw; obtain ⟨s0, s1⟩ := hSw; have e0 := s0.cell (i := 0) (v := .int .u8 0) rfl; have e1 := s0.cell (i := 1) (v := .int .u8 f) rfl; have e2 := s0.cell (i := 2) (v := .int .u8 1) rfl; have q0 := s1.cell (i := 0) (v := .bool a0) rfl; have q1 := s1.cell (i := 1) (v := .bool a1) rfl; have q2 := s1.cell (i := 2) (v := .bool a2) rfl; have q3 := s1.cell (i := 3) (v := .bool a3) rfl; have q4 := s1.cell (i := 4) (v := .bool a4) rfl; have q5 := s1.cell (i := 5) (v := .bool a5) rfl; go_simp; try with_reducible rfl)
      simp only [Act.put, List.getElem_toArray, List.getElem_cons_zero, List.getElem_cons_succ, List.setIfInBounds_toArray, List.set_cons_zero, List.set_cons_succ]
      refine wpAnyH_take (i := 6) (v := ?_) rfl (by kernel_rfl) (by kernel_rfl) (by kernel_rfl) (fun _ _ _ h => h) (Or.inl ⟨by rfl, ?_⟩) (by assumption) ?_
      rotate_left
      · (intro W hSw; obtain ⟨s0, s1⟩ := hSw; have e0 := s0.cell (i := 0) (v := .int .u8 0) rfl; have e1 := s0.cell (i := 1) (v := .int .u8 f) rfl; have e2 := s0.cell (i := 2) (v := .int .u8 1) rfl; have q0 := s1.cell (i := 0) (v := .bool a0) rfl; have q1 := s1.cell (i := 1) (v := .bool a1) rfl; have q2 := s1.cell (i := 2) (v := .bool a2) rfl; have q3 := s1.cell (i := 3) (v := .bool a3) rfl; have q4 := s1.cell (i := 4) (v := .bool a4) rfl; have q5 := s1.cell (i := 5) (v := .bool a5) rfl; go_simp; try with_reducible rfl)
      simp only [Act.put, List.getElem_toArray, List.getElem_cons_zero, List.getElem_cons_succ, List.setIfInBounds_toArray, List.set_cons_zero, List.set_cons_succ]
      refine wpAnyH_take (i := 7) (v := ?_) rfl (by kernel_rfl) (by kernel_rfl) (by kernel_rfl) (fun _ _ _ h => h) (Or.inl ⟨by rfl, ?_⟩) (by assumption) ?_
      rotate_left
      · (intro W hSw; obtain ⟨s0, s1⟩ := hSw; have e0 := s0.cell (i := 0) (v := .int .u8 0) rfl; have e1 := s0.cell (i := 1) (v := .int .u8 f) rfl; have e2 := s0.cell (i := 2) (v := .int .u8 1) rfl; have q0 := s1.cell (i := 0) (v := .bool a0) rfl; have q1 := s1.cell (i := 1) (v := .bool a1) rfl; have q2 := s1.cell (i := 2) (v := .bool a2) rfl; have q3 := s1.cell (i := 3) (v := .bool a3) rfl; have q4 := s1.cell (i := 4) (v := .bool a4) rfl; have q5 := s1.cell (i := 5) (v := .bool a5) rfl; go_simp; try with_reducible rfl)
      simp only [Act.put, List.getElem_toArray, List.getElem_cons_zero, List.getElem_cons_succ, List.setIfInBounds_toArray, List.set_cons_zero, List.set_cons_succ]
      refine wpAnyH_take (i := 8) (v := ?_) rfl (by kernel_rfl) (by kernel_rfl) (by kernel_rfl) (fun _ _ _ h => h) (Or.inl ⟨by rfl, ?_⟩) (by assumption) ?_
      rotate_left
      · (intro W hSw; obtain ⟨s0, s1⟩ := hSw; have e0 := s0.cell (i := 0) (v := .int .u8 0) rfl; have e1 := s0.cell (i := 1) (v := .int .u8 f) rfl; have e2 := s0.cell (i := 2) (v := .int .u8 1) rfl; have q0 := s1.cell (i := 0) (v := .bool a0) rfl; have q1 := s1.cell (i := 1) (v := .bool a1) rfl; have q2 := s1.cell (i := 2) (v := .bool a2) rfl; have q3 := s1.cell (i := 3) (v := .bool a3) rfl; have q4 := s1.cell (i := 4) (v := .bool a4) rfl; have q5 := s1.cell (i := 5) (v := .bool a5) rfl; go_simp; try with_reducible rfl)
      simp only [Act.put, List.getElem_toArray, List.getElem_cons_zero, List.getElem_cons_succ, List.setIfInBounds_toArray, List.set_cons_zero, List.set_cons_succ]
      refine wpAnyH_take (i := 9) (v := ?_) rfl (by kernel_rfl) (by kernel_rfl) (by kernel_rfl) (fun _ _ _ h => h) (Or.inl ⟨by rfl, ?_⟩) (by assumption) ?_
      rotate_left
      · (intro W hSw; obtain ⟨s0, s1⟩ := hSw; have e0 := s0.cell (i := 0) (v := .int .u8 0) rfl; have e1 := s0.cell (i := 1) (v := .int .u8 f) rfl; have e2 := s0.cell (i := 2) (v := .int .u8 1) rfl; have q0 := s1.cell (i := 0) (v := .bool a0) rfl; have q1 := s1.cell (i := 1) (v := .bool a1) rfl; have q2 := s1.cell (i := 2) (v := .bool a2) rfl; have q3 := s1.cell (i := 3) (v := .bool a3) rfl; have q4 := s1.cell (i := 4) (v := .bool a4) rfl; have q5 := s1.cell (i := 5) (v := .bool a5) rfl; go_simp; try with_reducible rfl)
      simp only [Act.put, List.getElem_toArray, List.getElem_cons_zero, List.getElem_cons_succ, List.setIfInBounds_toArray, List.set_cons_zero, List.set_cons_succ]
      refine wpAnyH_take (i := 10) (v := ?_) rfl (by kernel_rfl) (by kernel_rfl) (by kernel_rfl) (fun _ _ _ h => h) (Or.inl ⟨by rfl, ?_⟩) (by assumption) ?_
      rotate_left
      · (intro W hSw; obtain ⟨s0, s1⟩ := hSw; have e0 := s0.cell (i := 0) (v := .int .u8 0) rfl; have e1 := s0.cell (i := 1) (v := .int .u8 f) rfl; have e2 := s0.cell (i := 2) (v := .int .u8 1) rfl; have q0 := s1.cell (i := 0) (v := .bool a0) rfl; have q1 := s1.cell (i := 1) (v := .bool a1) rfl; have q2 := s1.cell (i := 2) (v := .bool a2) rfl; have q3 := s1.cell (i := 3) (v := .bool a3) rfl; have q4 := s1.cell (i := 4) (v := .bool a4) rfl; have q5 := s1.cell (i := 5) (v := .bool a5) rfl; go_simp; try with_reducible rfl)
      simp only [Act.put, List.getElem_toArray, List.getElem_cons_zero, List.getElem_cons_succ, List.setIfInBounds_toArray, List.set_cons_zero, List.set_cons_succ]
      refine wpAnyH_take (i := 11) (v := ?_) rfl (by kernel_rfl) (by kernel_rfl) (by kernel_rfl) (fun _ _ _ h => h) (Or.inl ⟨by rfl, ?_⟩) (by assumption) ?_
      rotate_left
      · (intro W hSw; obtain ⟨s0, s1⟩ := hSw; have e0 := s0.cell (i := 0) (v := .int .u8 0) rfl; have e1 := s0.cell (i := 1) (v := .int .u8 f) rfl; have e2 := s0.cell (i := 2) (v := .int .u8 1) rfl; have q0 := s1.cell (i := 0) (v := .bool a0) rfl; have q1 := s1.cell (i := 1) (v := .bool a1) rfl; have q2 := s1.cell (i := 2) (v := .bool a2) rfl; have q3 := s1.cell (i := 3) (v := .bool a3) rfl; have q4 := s1.cell (i := 4) (v := .bool a4) rfl; have q5 := s1.cell (i := 5) (v := .bool a5) rfl; go_simp; try with_reducible rfl)
      simp only [Act.put, List.getElem_toArray, List.getElem_cons_zero, List.getElem_cons_succ, List.setIfInBounds_toArray, List.set_cons_zero, List.set_cons_succ]
      refine wpAnyH_take (i := 12) (v := ?_) rfl (by kernel_rfl) (by kernel_rfl) (by kernel_rfl) (fun _ _ _ h => h) (Or.inl ⟨by rfl, ?_⟩) (by assumption) ?_
      rotate_left
      · (intro W hSw; obtain ⟨s0, s1⟩ := hSw; have e0 := s0.cell (i := 0) (v := .int .u8 0) rfl; have e1 := s0.cell (i := 1) (v := .int .u8 f) rfl; have e2 := s0.cell (i := 2) (v := .int .u8 1) rfl; have q0 := s1.cell (i := 0) (v := .bool a0) rfl; have q1 := s1.cell (i := 1) (v := .bool a1) rfl; have q2 := s1.cell (i := 2) (v := .bool a2) rfl; have q3 := s1.cell (i := 3) (v := .bool a3) rfl; have q4 := s1.cell (i := 4) (v := .bool a4) rfl; have q5 := s1.cell (i := 5) (v := .bool a5) rfl; go_simp; try with_reducible rfl)
      simp only [Act.put, List.getElem_toArray, List.getElem_cons_zero, List.getElem_cons_succ, List.setIfInBounds_toArray, List.set_cons_zero, List.set_cons_succ]
      refine wpAnyH_ready (rs := [3, 13]) (by kernel_rfl) (by simp) ?_
      refine (AllReadyH.cons rfl (fun K hK => ?_) (AllReadyH.cons rfl (fun K hK => ?_) AllReadyH.nil))
      · skip
        go_simp
        go_at_call 55
        refine (hMP1.out _).mono ?_
        rintro e w4 ⟨rfl, hbM⟩
        have hI3 := hI2.below hbM
        have oC3 := oC2.step hbM
        clear hbM
        refine hK.out _ _ ⟨oC3, hI3.o1⟩ (fun hHeld2 => ?_)
        clear hK K hHeld
        have hHeld := hHeld2
        clear hHeld2
        try simp only [Act.put, List.getElem_toArray, List.getElem_cons_zero, List.getElem_cons_succ, List.setIfInBounds_toArray, List.set_cons_zero, List.set_cons_succ]
        refine wpAnyH_ready (rs := [13]) (by kernel_rfl) (by simp) ?_
        refine (AllReadyH.cons rfl (fun K hK => ?_) AllReadyH.nil)
        go_simp
        have hbA := bl_alloc (bl_refl w4) (.cells #[.int .u8 0, .int .u8 f, .int .u8 0, .int .u8 1] 5)
        have hI4 := hI3.below hbA
        have oC4 := oC3.step hbA
        have oD := Own.new w4 5 #[.int .u8 0, .int .u8 f, .int .u8 0, .int .u8 1]
        refine hK.out _ _ ⟨oC4, hI4.o1⟩ (fun hHeld2 => ?_)
        clear hK K hHeld
        have hHeld := hHeld2
        clear hHeld2
        try simp only [Act.put, List.getElem_toArray, List.getElem_cons_zero, List.getElem_cons_succ, List.setIfInBounds_toArray, List.set_cons_zero, List.set_cons_succ]
        generalize hgA : w4.alloc (.cells #[.int .u8 0, .int .u8 f, .int .u8 0, .int .u8 1] 5) = XA at *
        clear hgA hbA
        refine wpAnyH_ready (rs := [14]) (by kernel_rfl) (by simp) ?_
        refine (AllReadyH.cons rfl (fun K hK => ?_) AllReadyH.nil)
        go_simp
        go_at_call 52
        have hBD : Bytes XA XA.heap.size (some ⟨w4.heap.size, 0, none⟩) 4 [0, f, 0, 1] := Bytes.of_owned (xs := [0, f, 0, 1]) oD hd4.out oD.lt
        refine (cput_any b 1 (some ⟨w4.heap.size, 0, none⟩) 4 4 [0, f, 0, 1] w XA #[.bool a0, .bool a1, .bool a2, .bool a3, .bool a4, .bool a5] L _ G hI4 hBD (by omega) (by have := hLn.out; omega)).mono ?_
        rintro e w6 ⟨⟨u38, rfl⟩, hP6⟩
        rw [← HL.out] at hP6
        have oC6 := hP6.2.1 _ _ _ oC4 (by decide) (by decide)
        refine hK.out _ _ ⟨oC6, hP6.1.o1⟩ (fun hHeld2 => ?_)
        clear hK K hHeld
        have hHeld := hHeld2
        clear hHeld2
        try simp only [Act.put, List.getElem_toArray, List.getElem_cons_zero, List.getElem_cons_succ, List.setIfInBounds_toArray, List.set_cons_zero, List.set_cons_succ]
        refine wpAnyH_done (by kernel_rfl) ?_ _
        have hI6 := hP6.1
        clear hP6 oD hBD
        go_wp2_with (first | (refine wpList_load_row rfl 23 _ rfl w.heap.size rfl 23 #[.bool a0, .bool a1, .bool a2, .bool a3, .bool a4, .bool a5] (0, 0) (.struct (Tryd.prog.fieldsOf 23)) hI6.o1 op_descO rfl (op_infoO _ _ _ _ _ _) ?_))
        refine (hAD1.out _).mono ?_
        rintro e w7 ⟨rfl, hb7⟩
        have hI7 := hI6.below hb7
        have oC7 := oC6.step hb7
        clear hI6 oC6 hb7
        cases g
        · rw [if_neg (by decide), List.append_nil] at HG
          go_wp2
          go_roundw
          case rel => exact ⟨j + 1, hlt, by go_num, by rw [HG.out]; exact hI7⟩
          case measure => simp [intOf]; omega
        · rw [if_pos rfl] at HG
          go_wp2_with fail
          refine wp_region_held_drew (S := fun X => Own X gC 5 #[.int .u8 0, .int .u8 f, .int .u8 1]) (by kernel_rfl) oC7.drew (fun hHeld => ?_)
          have hI8 := hI7.below (bl_drewN (bl_refl w7) 1)
          have oC8 : Own (w7.drewN 1) gC 5 #[.int .u8 0, .int .u8 f, .int .u8 1] := oC7
          change OfI w #[.bool a0, .bool a1, .bool a2, .bool a3, .bool a4, .bool a5] w7.drew _ _ G at hI8
          change Own w7.drew gC _ _ at oC8
          generalize w7.drew = w8 at *
          clear hI7 oC7
          refine wpAnyH_take (i := 0) (v := ?_) rfl (by kernel_rfl) (by kernel_rfl) (by kernel_rfl) (fun _ _ _ h => h) (Or.inl ⟨by rfl, ?_⟩) (by assumption) ?_
          rotate_left
          · (intro W hSw; have s0 : Own W gC 5 #[.int .u8 0, .int .u8 f, .int .u8 1] := hSw; have e0 := s0.cell (i := 0) (v := .int .u8 0) rfl; have e1 := s0.cell (i := 1) (v := .int .u8 f) rfl; have e2 := s0.cell (i := 2) (v := .int .u8 1) rfl; go_simp; try with_reducible rfl)
          simp only [Act.put, List.getElem_toArray, List.getElem_cons_zero, List.setIfInBounds_toArray, List.set_cons_zero, List.set_cons_succ]
          refine wpAnyH_take (i := 1) (v := ?_) rfl (by kernel_rfl) (by kernel_rfl) (by kernel_rfl) (fun _ _ _ h => h) (Or.inl ⟨by rfl, ?_⟩) (by assumption) ?_
          rotate_left
          · (intro W hSw; have s0 : Own W gC 5 #[.int .u8 0, .int .u8 f, .int .u8 1] := hSw; have e0 := s0.cell (i := 0) (v := .int .u8 0) rfl; have e1 := s0.cell (i := 1) (v := .int .u8 f) rfl; have e2 := s0.cell (i := 2) (v := .int .u8 1) rfl; go_simp; try with_reducible rfl)
          simp only [Act.put, List.getElem_toArray, List.getElem_cons_zero, List.getElem_cons_succ, List.setIfInBounds_toArray, List.set_cons_zero, List.set_cons_succ]
          refine wpAnyH_take (i := 2) (v := ?_) rfl (by kernel_rfl) (by kernel_rfl) (by kernel_rfl) (fun _ _ _ h => h) (Or.inl ⟨by rfl, ?_⟩) (by assumption) ?_
          rotate_left
          · (intro W hSw; have s0 : Own W gC 5 #[.int .u8 0, .int .u8 f, .int .u8 1] := hSw; have e0 := s0.cell (i := 0) (v := .int .u8 0) rfl; have e1 := s0.cell (i := 1) (v := .int .u8 f) rfl; have e2 := s0.cell (i := 2) (v := .int .u8 1) rfl; go_simp; try with_reducible rfl)
          simp only [Act.put, List.getElem_toArray, List.getElem_cons_zero, List.getElem_cons_succ, List.setIfInBounds_toArray, List.set_cons_zero, List.set_cons_succ]
          refine wpAnyH_take (i := 3) (v := ?_) rfl (by kernel_rfl) (by kernel_rfl) (by kernel_rfl) (fun _ _ _ h => h) (Or.inl ⟨by rfl, ?_⟩) (by assumption) ?_
          rotate_left
          · (intro W hSw; have s0 : Own W gC 5 #[.int .u8 0, .int .u8 f, .int .u8 1] := hSw; have e0 := s0.cell (i := 0) (v := .int .u8 0) rfl; have e1 := s0.cell (i := 1) (v := .int .u8 f) rfl; have e2 := s0.cell (i := 2) (v := .int .u8 1) rfl; go_simp; try with_reducible rfl)
          simp only [Act.put, List.getElem_toArray, List.getElem_cons_zero, List.getElem_cons_succ, List.setIfInBounds_toArray, List.set_cons_zero, List.set_cons_succ]
          refine wpAnyH_take (i := 4) (v := ?_) rfl (by kernel_rfl) (by kernel_rfl) (by kernel_rfl) (fun _ _ _ h => h) (Or.inl ⟨by rfl, ?_⟩) (by assumption) ?_
          rotate_left
          · (intro W hSw; have s0 : Own W gC 5 #[.int .u8 0, .int .u8 f, .int .u8 1] := hSw; have e0 := s0.cell (i := 0) (v := .int .u8 0) rfl; have e1 := s0.cell (i := 1) (v := .int .u8 f) rfl; have e2 := s0.cell (i := 2) (v := .int .u8 1) rfl; go_simp; try with_reducible rfl)
          simp only [Act.put, List.getElem_toArray, List.getElem_cons_zero, List.getElem_cons_succ, List.setIfInBounds_toArray, List.set_cons_zero, List.set_cons_succ]
          refine wpAnyH_take (i := 5) (v := ?_) rfl (by kernel_rfl) (by kernel_rfl) (by kernel_rfl) (fun _ _ _ h => h) (Or.inl ⟨by rfl, ?_⟩) (by assumption) ?_
          rotate_left
          · (intro W hSw; have s0 : Own W gC 5 #[.int .u8 0, .int .u8 f, .int .u8 1] := hSw; have e0 := s0.cell (i := 0) (v := .int .u8 0) rfl; have e1 := s0.cell (i := 1) (v := .int .u8 f) rfl; have e2 := s0.cell (i := 2) (v := .int .u8 1) rfl; go_simp; try with_reducible rfl)
          simp only [Act.put, List.getElem_toArray, List.getElem_cons_zero, List.getElem_cons_succ, List.setIfInBounds_toArray, List.set_cons_zero, List.set_cons_succ]
          refine wpAnyH_take (i := 6) (v := ?_) rfl (by kernel_rfl) (by kernel_rfl) (by kernel_rfl) (fun _ _ _ h => h) (Or.inl ⟨by rfl, ?_⟩) (by assumption) ?_
          rotate_left
          · (intro W hSw; have s0 : Own W gC 5 #[.int .u8 0, .int .u8 f, .int .u8 1] := hSw; have e0 := s0.cell (i := 0) (v := .int .u8 0) rfl; have e1 := s0.cell (i := 1) (v := .int .u8 f) rfl; have e2 := s0.cell (i := 2) (v := .int .u8 1) rfl; go_simp; try with_reducible rfl)
          simp only [Act.put, List.getElem_toArray, List.getElem_cons_zero, List.getElem_cons_succ, List.setIfInBounds_toArray, List.set_cons_zero, List.set_cons_succ]
          refine wpAnyH_take (i := 7) (v := ?_) rfl (by kernel_rfl) (by kernel_rfl) (by kernel_rfl) (fun _ _ _ h => h) (Or.inl ⟨by rfl, ?_⟩) (by assumption) ?_
          rotate_left
          · (intro W hSw; have s0 : Own W gC 5 #[.int .u8 0, .int .u8 f, .int .u8 1] := hSw; have e0 := s0.cell (i := 0) (v := .int .u8 0) rfl; have e1 := s0.cell (i := 1) (v := .int .u8 f) rfl; have e2 := s0.cell (i := 2) (v := .int .u8 1) rfl; go_simp; try with_reducible rfl)
          simp only [Act.put, List.getElem_toArray, List.getElem_cons_zero, List.getElem_cons_succ, List.setIfInBounds_toArray, List.set_cons_zero, List.set_cons_succ]
          refine wpAnyH_take (i := 8) (v := ?_) rfl (by kernel_rfl) (by kernel_rfl) (by kernel_rfl) (fun _ _ _ h => h) (Or.inl ⟨by rfl, ?_⟩) (by assumption) ?_
          rotate_left
          · (intro W hSw; have s0 : Own W gC 5 #[.int .u8 0, .int .u8 f, .int .u8 1] := hSw; have e0 := s0.cell (i := 0) (v := .int .u8 0) rfl; have e1 := s0.cell (i := 1) (v := .int .u8 f) rfl; have e2 := s0.cell (i := 2) (v := .int .u8 1) rfl; go_simp; try with_reducible rfl)
          simp only [Act.put, List.getElem_toArray, List.getElem_cons_zero, List.getElem_cons_succ, List.setIfInBounds_toArray, List.set_cons_zero, List.set_cons_succ]
          refine wpAnyH_take (i := 9) (v := ?_) rfl (by kernel_rfl) (by kernel_rfl) (by kernel_rfl) (fun _ _ _ h => h) (Or.inl ⟨by rfl, ?_⟩) (by assumption) ?_
          rotate_left
          · (intro W hSw; have s0 : Own W gC 5 #[.int .u8 0, .int .u8 f, .int .u8 1] := hSw; have e0 := s0.cell (i := 0) (v := .int .u8 0) rfl; have e1 := s0.cell (i := 1) (v := .int .u8 f) rfl; have e2 := s0.cell (i := 2) (v := .int .u8 1) rfl; go_simp; try with_reducible rfl)
          simp only [Act.put, List.getElem_toArray, List.getElem_cons_zero, List.getElem_cons_succ, List.setIfInBounds_toArray, List.set_cons_zero, List.set_cons_succ]
          refine wpAnyH_ready (rs := [10]) (by kernel_rfl) (by simp) ?_
          refine (AllReadyH.cons rfl (fun K hK => ?_) AllReadyH.nil)
          go_simp
          have hbB := bl_alloc (bl_refl w8) (.cells #[.int .u8 0, .int .u8 f, .int .u8 1, .int .u8 3] 5)
          have oE := Own.new w8 5 #[.int .u8 0, .int .u8 f, .int .u8 1, .int .u8 3]
          have hsB : w8.heap.size < (w8.alloc (.cells #[.int .u8 0, .int .u8 f, .int .u8 1, .int .u8 3] 5)).heap.size := by simp
          have oC9 := oC8.step hbB
          refine hK.out _ _ oC9 (fun hHeld2 => ?_)
          clear hK K hHeld
          have hHeld := hHeld2
          clear hHeld2
          try simp only [Act.put, List.getElem_toArray, List.getElem_cons_zero, List.getElem_cons_succ, List.setIfInBounds_toArray, List.set_cons_zero, List.set_cons_succ]
          generalize hgB : w8.alloc (.cells #[.int .u8 0, .int .u8 f, .int .u8 1, .int .u8 3] 5) = XB at *
          clear hgB
          have hgr9 : XB.ownsRow (w.heap.size + 2) 5 1 (.slice gvA G.length gvc) G.length (G.map (Value.int .u8)) := by
            obtain ⟨v, _, hS⟩ := hI8.box
            obtain ⟨_, _, _, _, hg, _⟩ := hS
            exact own_belowG hg hbB
          have hlo9 := Nat.le_trans hI8.lo hbB.size
          refine wpAnyH_ready (rs := [11]) (by kernel_rfl) (by simp) ?_
          refine (AllReadyH.cons rfl (fun K hK => ?_) AllReadyH.nil)
          refine step_append_at _ rfl _ _ rfl sl_bytes (w.heap.size + 2) _ _ _ rfl hgr9 _ (some ⟨w8.heap.size, 0, none⟩) 4 4 [.int .u8 0, .int .u8 f, .int .u8 1, .int .u8 3] rfl rfl (Shows.of_owned (xs := [.int .u8 0, .int .u8 f, .int .u8 1, .int .u8 3]) oE hsB) (one8 [0, f, 1, 3]) (by unfold maxLen; have := hGn.out.1; omega) (by have := hGn.out.1; omega) hlo9 ?_
          intro v5 w9 ho9 hg9 hat9
          have hI9 := hI8.grow (zs := [0, f, 1, 3]) hbB ho9 rfl hg9 hat9
          rw [← HG.out] at hI9
          have oC11 : Own w9 gC 5 #[.int .u8 0, .int .u8 f, .int .u8 1] := oC9.grown hg9 (fun e => by have := HgL.out _ e.symm; omega)
          refine hK.out _ _ oC11 (fun hHeld2 => ?_)
          clear hK K hHeld
          have hHeld := hHeld2
          clear hHeld2
          try simp only [Act.put, List.getElem_toArray, List.getElem_cons_zero, List.getElem_cons_succ, List.setIfInBounds_toArray, List.set_cons_zero, List.set_cons_succ]
          refine wpAnyH_ready (rs := [12]) (by kernel_rfl) (by simp) ?_
          refine (AllReadyH.cons rfl (fun K hK => ?_) AllReadyH.nil)
          go_simp
          refine hK.out _ _ oC11 (fun hHeld2 => ?_)
          clear hK K hHeld
          have hHeld := hHeld2
          clear hHeld2
          try simp only [Act.put, List.getElem_toArray, List.getElem_cons_zero, List.getElem_cons_succ, List.setIfInBounds_toArray, List.set_cons_zero, List.set_cons_succ]
          refine wpAnyH_done (by kernel_rfl) ?_ _
          go_wp2
          go_roundw
          case rel => exact ⟨j + 1, hlt, by go_num, hI9⟩
          case measure => simp [intOf]; omega
      · skip
        go_simp
        have hbA := bl_alloc (bl_refl w2) (.cells #[.int .u8 0, .int .u8 f, .int .u8 0, .int .u8 1] 5)
        have hI3a := hI2.below hbA
        have oC3a := oC2.step hbA
        have oD := Own.new w2 5 #[.int .u8 0, .int .u8 f, .int .u8 0, .int .u8 1]
        refine hK.out _ _ ⟨oC3a, hI3a.o1⟩ (fun hHeld2 => ?_)
        clear hK K hHeld
        have hHeld := hHeld2
        clear hHeld2
        try simp only [Act.put, List.getElem_toArray, List.getElem_cons_zero, List.getElem_cons_succ, List.setIfInBounds_toArray, List.set_cons_zero, List.set_cons_succ]
        generalize hgA : w2.alloc (.cells #[.int .u8 0, .int .u8 f, .int .u8 0, .int .u8 1] 5) = XA at *
        clear hgA hbA
        refine wpAnyH_ready (rs := [3]) (by kernel_rfl) (by simp) ?_
        refine (AllReadyH.cons rfl (fun K hK => ?_) AllReadyH.nil)
        go_simp
        go_at_call 55
        refine (hMP1.out _).mono ?_
        rintro e w4 ⟨rfl, hbM⟩
        have hI4 := hI3a.below hbM
        have oC4 := oC3a.step hbM
        replace oD := oD.step hbM
        clear hbM
        refine hK.out _ _ ⟨oC4, hI4.o1⟩ (fun hHeld2 => ?_)
        clear hK K hHeld
        have hHeld := hHeld2
        clear hHeld2
        try simp only [Act.put, List.getElem_toArray, List.getElem_cons_zero, List.getElem_cons_succ, List.setIfInBounds_toArray, List.set_cons_zero, List.set_cons_succ]
        refine wpAnyH_ready (rs := [14]) (by kernel_rfl) (by simp) ?_
        refine (AllReadyH.cons rfl (fun K hK => ?_) AllReadyH.nil)
        go_simp
        go_at_call 52
        have hBD : Bytes w4 w4.heap.size (some ⟨w2.heap.size, 0, none⟩) 4 [0, f, 0, 1] := Bytes.of_owned (xs := [0, f, 0, 1]) oD hd4.out oD.lt
        refine (cput_any b 1 (some ⟨w2.heap.size, 0, none⟩) 4 4 [0, f, 0, 1] w w4 #[.bool a0, .bool a1, .bool a2, .bool a3, .bool a4, .bool a5] L _ G hI4 hBD (by omega) (by have := hLn.out; omega)).mono ?_
        rintro e w6 ⟨⟨u38, rfl⟩, hP6⟩
        rw [← HL.out] at hP6
        have oC6 := hP6.2.1 _ _ _ oC4 (by decide) (by decide)
        refine hK.out _ _ ⟨oC6, hP6.1.o1⟩ (fun hHeld2 => ?_)
        clear hK K hHeld
        have hHeld := hHeld2
        clear hHeld2
        try simp only [Act.put, List.getElem_toArray, List.getElem_cons_zero, List.getElem_cons_succ, List.setIfInBounds_toArray, List.set_cons_zero, List.set_cons_succ]
        refine wpAnyH_done (by kernel_rfl) ?_ _
        have hI6 := hP6.1
        clear hP6 oD hBD
        go_wp2_with (first | (refine wpList_load_row rfl 23 _ rfl w.heap.size rfl 23 #[.bool a0, .bool a1, .bool a2, .bool a3, .bool a4, .bool a5] (0, 0) (.struct (Tryd.prog.fieldsOf 23)) hI6.o1 op_descO rfl (op_infoO _ _ _ _ _ _) ?_))
        refine (hAD1.out _).mono ?_
        rintro e w7 ⟨rfl, hb7⟩
        have hI7 := hI6.below hb7
        have oC7 := oC6.step hb7
        clear hI6 oC6 hb7
        cases g
        · rw [if_neg (by decide), List.append_nil] at HG
          go_wp2
          go_roundw
          case rel => exact ⟨j + 1, hlt, by go_num, by rw [HG.out]; exact hI7⟩
          case measure => simp [intOf]; omega
        · rw [if_pos rfl] at HG
          go_wp2_with fail
          refine wp_region_held_drew (S := fun X => Own X gC 5 #[.int .u8 0, .int .u8 f, .int .u8 1]) (by kernel_rfl) oC7.drew (fun hHeld => ?_)
          have hI8 := hI7.below (bl_drewN (bl_refl w7) 1)
          have oC8 : Own (w7.drewN 1) gC 5 #[.int .u8 0, .int .u8 f, .int .u8 1] := oC7
          change OfI w #[.bool a0, .bool a1, .bool a2, .bool a3, .bool a4, .bool a5] w7.drew _ _ G at hI8
          change Own w7.drew gC _ _ at oC8
          generalize w7.drew = w8 at *
          clear hI7 oC7
          refine wpAnyH_take (i := 0) (v := ?_) rfl (by kernel_rfl) (by kernel_rfl) (by kernel_rfl) (fun _ _ _ h => h) (Or.inl ⟨by rfl, ?_⟩) (by assumption) ?_
          rotate_left
          · (intro W hSw; have s0 : Own W gC 5 #[.int .u8 0, .int .u8 f, .int .u8 1] := hSw; have e0 := s0.cell (i := 0) (v := .int .u8 0) rfl; have e1 := s0.cell (i := 1) (v := .int .u8 f) rfl; have e2 := s0.cell (i := 2) (v := .int .u8 1) rfl; go_simp; try with_reducible rfl)
          simp only [Act.put, List.getElem_toArray, List.getElem_cons_zero, List.setIfInBounds_toArray, List.set_cons_zero, List.set_cons_succ]
          refine wpAnyH_take (i := 1) (v := ?_) rfl (by kernel_rfl) (by kernel_rfl) (by kernel_rfl) (fun _ _ _ h => h) (Or.inl ⟨by rfl, ?_⟩) (by assumption) ?_
          rotate_left
          · (intro W hSw; have s0 : Own W gC 5 #[.int .u8 0, .int .u8 f, .int .u8 1] := hSw; have e0 := s0.cell (i := 0) (v := .int .u8 0) rfl; have e1 := s0.cell (i := 1) (v := .int .u8 f) rfl; have e2 := s0.cell (i := 2) (v := .int .u8 1) rfl; go_simp; try with_reducible rfl)
          simp only [Act.put, List.getElem_toArray, List.getElem_cons_zero, List.getElem_cons_succ, List.setIfInBounds_toArray, List.set_cons_zero, List.set_cons_succ]
          refine wpAnyH_take (i := 2) (v := ?_) rfl (by kernel_rfl) (by kernel_rfl) (by kernel_rfl) (fun _ _ _ h => h) (Or.inl ⟨by rfl, ?_⟩) (by assumption) ?_
          rotate_left
          · (intro W hSw; have s0 : Own W gC 5 #[.int .u8 0, .int .u8 f, .int .u8 1] := hSw; have e0 := s0.cell (i := 0) (v := .int .u8 0) rfl; have e1 := s0.cell (i := 1) (v := .int .u8 f) rfl; have e2 := s0.cell (i := 2) (v := .int .u8 1) rfl; go_simp; try with_reducible rfl)
          simp only [Act.put, List.getElem_toArray, List.getElem_cons_zero, List.getElem_cons_succ, List.setIfInBounds_toArray, List.set_cons_zero, List.set_cons_succ]
          refine wpAnyH_take (i := 3) (v := ?_) rfl (by kernel_rfl) (by kernel_rfl) (by kernel_rfl) (fun _ _ _ h => h) (Or.inl ⟨by rfl, ?_⟩) (by assumption) ?_
          rotate_left
          · (intro W hSw; have s0 : Own W gC 5 #[.int .u8 0, .int .u8 f, .int .u8 1] := hSw; have e0 := s0.cell (i := 0) (v := .int .u8 0) rfl; have e1 := s0.cell (i := 1) (v := .int .u8 f) rfl; have e2 := s0.cell (i := 2) (v := .int .u8 1) rfl; go_simp; try with_reducible rfl)
          simp only [Act.put, List.getElem_toArray, List.getElem_cons_zero, List.getElem_cons_succ, List.setIfInBounds_toArray, List.set_cons_zero, List.set_cons_succ]
          refine wpAnyH_take (i := 4) (v := ?_) rfl (by kernel_rfl) (by kernel_rfl) (by kernel_rfl) (fun _ _ _ h => h) (Or.inl ⟨by rfl, ?_⟩) (by assumption) ?_
          rotate_left
          · (intro W hSw; have s0 : Own W gC 5 #[.int .u8 0, .int .u8 f, .int .u8 1] := hSw; have e0 := s0.cell (i := 0) (v := .int .u8 0) rfl; have e1 := s0.cell (i := 1) (v := .int .u8 f) rfl; have e2 := s0.cell (i := 2) (v := .int .u8 1) rfl; go_simp; try with_reducible rfl)
          simp only [Act.put, List.getElem_toArray, List.getElem_cons_zero, List.getElem_cons_succ, List.setIfInBounds_toArray, List.set_cons_zero, List.set_cons_succ]
          refine wpAnyH_take (i := 5) (v := ?_) rfl (by kernel_rfl) (by kernel_rfl) (by kernel_rfl) (fun _ _ _ h => h) (Or.inl ⟨by rfl, ?_⟩) (by assumption) ?_
          rotate_left
          · (intro W hSw; have s0 : Own W gC 5 #[.int .u8 0, .int .u8 f, .int .u8 1] := hSw; have e0 := s0.cell (i := 0) (v := .int .u8 0) rfl; have e1 := s0.cell (i := 1) (v := .int .u8 f) rfl; have e2 := s0.cell (i := 2) (v := .int .u8 1) rfl; go_simp; try with_reducible rfl)
          simp only [Act.put, List.getElem_toArray, List.getElem_cons_zero, List.getElem_cons_succ, List.setIfInBounds_toArray, List.set_cons_zero, List.set_cons_succ]
          refine wpAnyH_take (i := 6) (v := ?_) rfl (by kernel_rfl) (by kernel_rfl) (by kernel_rfl) (fun _ _ _ h => h) (Or.inl ⟨by rfl, ?_⟩) (by assumption) ?_
          rotate_left
          · (intro W hSw; have s0 : Own W gC 5 #[.int .u8 0, .int .u8 f, .int .u8 1] := hSw; have e0 := s0.cell (i := 0) (v := .int .u8 0) rfl; have e1 := s0.cell (i := 1) (v := .int .u8 f) rfl; have e2 := s0.cell (i := 2) (v := .int .u8 1) rfl; go_simp; try with_reducible rfl)
          simp only [Act.put, List.getElem_toArray, List.getElem_cons_zero, List.getElem_cons_succ, List.setIfInBounds_toArray, List.set_cons_zero, List.set_cons_succ]
          refine wpAnyH_take (i := 7) (v := ?_) rfl (by kernel_rfl) (by kernel_rfl) (by kernel_rfl) (fun _ _ _ h => h) (Or.inl ⟨by rfl, ?_⟩) (by assumption) ?_
          rotate_left
          · (intro W hSw; have s0 : Own W gC 5 #[.int .u8 0, .int .u8 f, .int .u8 1] := hSw; have e0 := s0.cell (i := 0) (v := .int .u8 0) rfl; have e1 := s0.cell (i := 1) (v := .int .u8 f) rfl; have e2 := s0.cell (i := 2) (v := .int .u8 1) rfl; go_simp; try with_reducible rfl)
          simp only [Act.put, List.getElem_toArray, List.getElem_cons_zero, List.getElem_cons_succ, List.setIfInBounds_toArray, List.set_cons_zero, List.set_cons_succ]
          refine wpAnyH_take (i := 8) (v := ?_) rfl (by kernel_rfl) (by kernel_rfl) (by kernel_rfl) (fun _ _ _ h => h) (Or.inl ⟨by rfl, ?_⟩) (by assumption) ?_
          rotate_left
          · (intro W hSw; have s0 : Own W gC 5 #[.int .u8 0, .int .u8 f, .int .u8 1] := hSw; have e0 := s0.cell (i := 0) (v := .int .u8 0) rfl; have e1 := s0.cell (i := 1) (v := .int .u8 f) rfl; have e2 := s0.cell (i := 2) (v := .int .u8 1) rfl; go_simp; try with_reducible rfl)
          simp only [Act.put, List.getElem_toArray, List.getElem_cons_zero, List.getElem_cons_succ, List.setIfInBounds_toArray, List.set_cons_zero, List.set_cons_succ]
          refine wpAnyH_take (i := 9) (v := ?_) rfl (by kernel_rfl) (by kernel_rfl) (by kernel_rfl) (fun _ _ _ h => h) (Or.inl ⟨by rfl, ?_⟩) (by assumption) ?_
          rotate_left
          · (intro W hSw; have s0 : Own W gC 5 #[.int .u8 0, .int .u8 f, .int .u8 1] := hSw; have e0 := s0.cell (i := 0) (v := .int .u8 0) rfl; have e1 := s0.cell (i := 1) (v := .int .u8 f) rfl; have e2 := s0.cell (i := 2) (v := .int .u8 1) rfl; go_simp; try with_reducible rfl)
          simp only [Act.put, List.getElem_toArray, List.getElem_cons_zero, List.getElem_cons_succ, List.setIfInBounds_toArray, List.set_cons_zero, List.set_cons_succ]
          refine wpAnyH_ready (rs := [10]) (by kernel_rfl) (by simp) ?_
          refine (AllReadyH.cons rfl (fun K hK => ?_) AllReadyH.nil)
          go_simp
          have hbB := bl_alloc (bl_refl w8) (.cells #[.int .u8 0, .int .u8 f, .int .u8 1, .int .u8 3] 5)
          have oE := Own.new w8 5 #[.int .u8 0, .int .u8 f, .int .u8 1, .int .u8 3]
          have hsB : w8.heap.size < (w8.alloc (.cells #[.int .u8 0, .int .u8 f, .int .u8 1, .int .u8 3] 5)).heap.size := by simp
          have oC9 := oC8.step hbB
          refine hK.out _ _ oC9 (fun hHeld2 => ?_)
          clear hK K hHeld
          have hHeld := hHeld2
          clear hHeld2
          try simp only [Act.put, List.getElem_toArray, List.getElem_cons_zero, List.getElem_cons_succ, List.setIfInBounds_toArray, List.set_cons_zero, List.set_cons_succ]
          generalize hgB : w8.alloc (.cells #[.int .u8 0, .int .u8 f, .int .u8 1, .int .u8 3] 5) = XB at *
          clear hgB
          have hgr9 : XB.ownsRow (w.heap.size + 2) 5 1 (.slice gvA G.length gvc) G.length (G.map (Value.int .u8)) := by
            obtain ⟨v, _, hS⟩ := hI8.box
            obtain ⟨_, _, _, _, hg, _⟩ := hS
            exact own_belowG hg hbB
          have hlo9 := Nat.le_trans hI8.lo hbB.size
          refine wpAnyH_ready (rs := [11]) (by kernel_rfl) (by simp) ?_
          refine (AllReadyH.cons rfl (fun K hK => ?_) AllReadyH.nil)
          refine step_append_at _ rfl _ _ rfl sl_bytes (w.heap.size + 2) _ _ _ rfl hgr9 _ (some ⟨w8.heap.size, 0, none⟩) 4 4 [.int .u8 0, .int .u8 f, .int .u8 1, .int .u8 3] rfl rfl (Shows.of_owned (xs := [.int .u8 0, .int .u8 f, .int .u8 1, .int .u8 3]) oE hsB) (one8 [0, f, 1, 3]) (by unfold maxLen; have := hGn.out.1; omega) (by have := hGn.out.1; omega) hlo9 ?_
          intro v5 w9 ho9 hg9 hat9
          have hI9 := hI8.grow (zs := [0, f, 1, 3]) hbB ho9 rfl hg9 hat9
          rw [← HG.out] at hI9
          have oC11 : Own w9 gC 5 #[.int .u8 0, .int .u8 f, .int .u8 1] := oC9.grown hg9 (fun e => by have := HgL.out _ e.symm; omega)
          refine hK.out _ _ oC11 (fun hHeld2 => ?_)
          clear hK K hHeld
          have hHeld := hHeld2
          clear hHeld2
          try simp only [Act.put, List.getElem_toArray, List.getElem_cons_zero, List.getElem_cons_succ, List.setIfInBounds_toArray, List.set_cons_zero, List.set_cons_succ]
          refine wpAnyH_ready (rs := [12]) (by kernel_rfl) (by simp) ?_
          refine (AllReadyH.cons rfl (fun K hK => ?_) AllReadyH.nil)
          go_simp
          refine hK.out _ _ oC11 (fun hHeld2 => ?_)
          clear hK K hHeld
          have hHeld := hHeld2
          clear hHeld2
          try simp only [Act.put, List.getElem_toArray, List.getElem_cons_zero, List.getElem_cons_succ, List.setIfInBounds_toArray, List.set_cons_zero, List.set_cons_succ]
          refine wpAnyH_done (by kernel_rfl) ?_ _
          go_wp2
          go_roundw
          case rel => exact ⟨j + 1, hlt, by go_num, hI9⟩
          case measure => simp [intOf]; omega
    · obtain rfl : j = 2 := by omega
      have hGn := Lib.hid (ofG_ok a4 a5 2)
      have hLn := Lib.hid (ofL_len a2 a3 2)
      have HK : Hid (ofK a0 a1 a2 a3 a4 a5 an = ofPut (decide (0 < (ofG a4 a5 2).length)) 69 (ofG a4 a5 2) (ofPut a0 65 (digitsOf 4 an) (ofPut a1 6 [] (ofPut true 2 [] (ofL a2 a3 2))))) := Lib.hid rfl
      generalize ofL a2 a3 2 = L at *
      generalize ofG a4 a5 2 = G at *
      go_wp2_with fail
      refine (hPut.out _).mono ?_
      rintro e w1 ⟨rfl, oN, hb1⟩
      have hI1 := hI.below hb1
      have hs1 := hb1.size
      clear hI hb1
      go_wp2_with fail
      go_at_call 52
      refine (cput_any true 2 none 0 0 [] w w1 #[.bool a0, .bool a1, .bool a2, .bool a3, .bool a4, .bool a5] L _ G hI1 (Bytes.nil _ _ _) (by omega) (by have := hLn.out; omega)).mono ?_
      rintro e w2 ⟨⟨u1, rfl⟩, hP2⟩
      have oN2 := hP2.2.1 _ _ _ oN (by decide) (by decide)
      have hI2 := hP2.1
      have hl2 := Lib.hid (ofPut_len true 2 [] L)
      generalize ofPut true 2 [] L = L2 at *
      clear hI1 oN hP2
      have c1 := hI2.o1.cell (i := 1) (v := .bool a1) rfl
      go_wp2_with fail
      go_at_call 52
      refine (cput_any a1 6 none 0 0 [] w w2 #[.bool a0, .bool a1, .bool a2, .bool a3, .bool a4, .bool a5] L2 _ G hI2 (Bytes.nil _ _ _) (by omega) (by have := hLn.out; have := hl2.out; omega)).mono ?_
      rintro e w3 ⟨⟨u2, rfl⟩, hP3⟩
      have oN3 := hP3.2.1 _ _ _ oN2 (by decide) (by decide)
      have hI3 := hP3.1
      have hl3 := Lib.hid (ofPut_len a1 6 [] L2)
      generalize ofPut a1 6 [] L2 = L3 at *
      clear hI2 oN2 hP3 c1
      have c0 := hI3.o1.cell (i := 0) (v := .bool a0) rfl
      have hBN := Bytes.of_owned oN3 (digitsOf_range 4 an) oN3.lt
      rw [digitsOf_len] at hBN
      go_wp2_with fail
      go_at_call 52
      refine (cput_any a0 65 _ 4 4 (digitsOf 4 an) w w3 #[.bool a0, .bool a1, .bool a2, .bool a3, .bool a4, .bool a5] L3 _ G hI3 hBN (by omega) (by have := hLn.out; have := hl2.out; have := hl3.out; omega)).mono ?_
      rintro e w4 ⟨⟨u3, rfl⟩, hP4⟩
      have hI4 := hP4.1
      have hl4 := Lib.hid (ofPut_len a0 65 (digitsOf 4 an) L3)
      generalize ofPut a0 65 (digitsOf 4 an) L3 = L4 at *
      clear hI3 oN3 hP4 c0 hBN
      have hgb : Bytes w4 w4.heap.size gvA G.length G := by
        obtain ⟨v, _, _, _, _, _, hg, _⟩ := hI4.box
        exact ⟨rfl, hGn.out.2, Shows.of_own hg⟩
      go_wp2_with fail
      go_at_call 52
      refine (cput_any _ 69 gvA G.length gvc G w w4 #[.bool a0, .bool a1, .bool a2, .bool a3, .bool a4, .bool a5] L4 _ G hI4 hgb (by have := hGn.out.1; omega) (by have := hLn.out; have := hl2.out; have := hl3.out; have := hl4.out; omega)).mono ?_
      rintro e w5 ⟨⟨u4, rfl⟩, hP5⟩
      obtain ⟨v5, ob5, L5, hr5, hm5, hs5, _, _⟩ := hP5.1.box
      obtain ⟨A5, c5, rfl⟩ := hr5.form
      have cc := ob5.cell (i := 0) (v := .slice A5 L5.length c5) rfl
      have HM := Lib.hid (hm5.trans HK.out.symm)
      have HC := Lib.hid hr5.caps
      have HB := Lib.hid hP5.1.bel
      have HS5 := Lib.hid hs5
      clear hP5 hI4 hr5 hm5 hs5 ob5 hgb
      go_wp2
      go_ret
      exact ⟨_, _, L5, rfl, HC.out, HM.out, HS5.out, HB.out⟩
end Go.Proofs.YtniheakafkakhaaDoor

/- XMqMa: XMpK, XMpL, XMpJ, XRv, XMpM, XMqT in one text -/
import Derived.Test.YtmlmgjdjbpipcaaDoorMpF
import Derived.Test.YtmlmgjdjbpipcaaDoorMpE
import Derived.Test.YtmlmgjdjbpipcaaDoorNqR
import Derived.Test.YtmlmgjdjbpipcaaDoorMpD
/- mp.Read where the value is good: its four functions -/
namespace Go.Proofs.YtmlmgjdjbpipcaaDoor
open Go.RowKit

/-- A block without bytes may change under a reader. -/
theorem rdr_rest {w w' : World} {j b p : Nat} {xs : List Int} {T : TypeId} {cs : Array Value} (h : Rdr w j xs p) (R : Rest w w' (fun i => i = b)) (o : Own w b T cs) (hT : T ≠ 74) (hc : ∀ v ∈ cs.toList, ∀ q, v ≠ .int .u8 q) : Rdr w' j xs p := by
  obtain ⟨A, n, c, ho, hnc, hB⟩ := h
  refine ⟨A, n, c, R.own ho (fun e => ?_), hnc, ?_⟩
  · have e2 : j = b := e
    subst e2
    exact o.typed.ne ho.typed hT rfl
  · rcases xs with _ | ⟨x, t⟩
    · exact ⟨hB.1, hB.2.1, .inl rfl⟩
    · refine (hB.rest R (Nat.le_refl _) (fun a ha e => ?_)).more R.size
      rcases hB.2.2 with h0 | ⟨b', o', hA, hb, hcc⟩
      · cases h0
      · rw [hA] at ha
        cases ha
        have e2 : b' = b := e
        subst e2
        have h1 := hcc 0 (.int .u8 x) rfl
        have h2 := cell_of_row w b' (o' + 0) cs T (0, 0) o
        rw [h1] at h2
        exact hc _ (List.mem_of_getElem? (by rw [Array.getElem?_toList]; exact h2.symm)) x rfl
theorem at_set6 {w : World} {g : Nat} {T : TypeId} {x0 x1 x2 x3 x4 x5 x6 x7 x8 : Value} (h : Own w g T #[x0, x1, x2, x3, x4, x5, x6, x7, x8]) (v : Value) : Own (w.setCell ⟨g, 6, none⟩ v) g T #[x0, x1, x2, x3, x4, x5, v, x7, x8] := by simpa using h.set_ 6 v
theorem at_set7 {w : World} {g : Nat} {T : TypeId} {x0 x1 x2 x3 x4 x5 x6 x7 x8 : Value} (h : Own w g T #[x0, x1, x2, x3, x4, x5, x6, x7, x8]) (v : Value) : Own (w.setCell ⟨g, 7, none⟩ v) g T #[x0, x1, x2, x3, x4, x5, x6, v, x8] := by simpa using h.set_ 7 v
theorem at_set8 {w : World} {g : Nat} {T : TypeId} {x0 x1 x2 x3 x4 x5 x6 x7 x8 : Value} (h : Own w g T #[x0, x1, x2, x3, x4, x5, x6, x7, x8]) (v : Value) : Own (w.setCell ⟨g, 8, none⟩ v) g T #[x0, x1, x2, x3, x4, x5, x6, x7, v] := by simpa using h.set_ 8 v
/-- An attribute as a reading fills it. -/
def atR (k : Int) (A3 : Option Addr) (n3 c3 : Nat) (f : Int) (A4 : Option Addr) (n4 c4 : Nat) : Array Value := #[.int .i64 k, .bool false, .int .u32 0, .int .u32 0, .slice none 0 0, .slice none 0 0, .slice A3 n3 c3, .int .i64 f, .slice A4 n4 c4]
theorem atR_no8 (k : Int) (A3 : Option Addr) (n3 c3 : Nat) (f : Int) (A4 : Option Addr) (n4 c4 : Nat) : ∀ v ∈ (atR k A3 n3 c3 f A4 n4 c4).toList, ∀ q, v ≠ .int .u8 q := by
  intro v hv q e
  subst e
  simp [atR] at hv
theorem rdr_typedK {w : World} {g p : Nat} {xs : List Int} (h : Rdr w g xs p) : Typed w g 74 := by
  obtain ⟨A, n, c, ho, _⟩ := h
  exact ho.typed

set_option maxRecDepth 100000 in
set_option maxHeartbeats 3200000 in
theorem mread2_yes (a0 a1 a2 a3 a4 a5 : Bool) (b10 b12 b9 b3 b13 b8 j : Nat) (f k : Int) (zs : List Int) (p : Nat) (w : World) (hF : Fams w) (hf : f = 1 ∨ f = 2) (hyes : famB a2 a3 f = true)
    (o10 : Own w b10 41 #[.pointer (some ⟨j, 0, none⟩)]) (o3 : Own w b3 23 #[.bool a0, .bool a1, .bool a2, .bool a3, .bool a4, .bool a5]) (o8 : Own w b8 30 (atR k none 0 0 0 none 0 0))
    (hr : Rdr w j (0 :: f :: 1 :: zs) p) (hl : zs.length ≤ 100000000) (hp : p ≤ 1000000) (hgj : 0 ≠ j) :
    Calls Tryd.prog 43 #[.pointer (some ⟨b10, 0, none⟩), .pointer (some ⟨b12, 0, none⟩), .pointer (some ⟨b9, 0, none⟩), .pointer (some ⟨b3, 0, none⟩), .pointer (some ⟨b13, 0, none⟩), .pointer (some ⟨b8, 0, none⟩)] w fun e w' => e = .returned (.bool true) ∧ Own w' b8 30 (atR k none 0 0 f none 0 0) ∧ Rdr w' j zs (p + 3) ∧ Rest w w' (fun i => i = j ∨ i = b8) := by
  have hLf := Lib.hid (left_any j _ p w hr)
  have hN1 := number_yes j (0 :: f :: 1 :: zs) p 2 w hr (by simp; omega) (by omega) (by omega) (by omega) (by simp; omega)
  have eb : big ((0 :: f :: 1 :: zs).take (2 : Int).toNat) = f := by show big [0, f] = f; simp [big]
  rw [eb] at hN1
  have hN1 := Lib.hid hN1
  have hN2 := Lib.hid (fun W (h : Rdr W j (1 :: zs) (p + 2)) => number_yes j (1 :: zs) (p + 2) 1 W h (by simp; omega) (by omega) (by omega) (by omega) (by simp; omega))
  have eb2 : big ((1 :: zs : List Int).take (1 : Int).toNat) = 1 := by show big [1] = 1; simp [big]
  rw [eb2] at hN2
  have hMp := Lib.hid (fun W => omp_any a0 a1 a2 a3 a4 a5 f W)
  rw [hyes] at hMp
  have c10 := o10.cell (i := 0) (v := .pointer (some ⟨j, 0, none⟩)) rfl
  have hlen : ¬ ((zs.length : Int) + 1 + 1 + 1 < 3) := by omega
  have HR := Lib.hid hr
  clear hr hyes
  go_enter Tryd.func43, Tryd.ntmps43
  go_wp2_with fail
  refine hLf.out.mono ?_
  rintro e w' ⟨rfl, rfl⟩
  go_wp2_with fail
  refine hN1.out.mono ?_
  rintro e w1 ⟨rfl, r1, hg1⟩
  have R1 := grown_restM hg1
  have ty := rdr_typedK HR.out
  have p10 := o10.byR R1 ty mp_types2.1
  have p3 := o3.byR R1 ty mp_types2.2.2.2.1
  have p8 := o8.byR R1 ty mp_types2.2.2.2.2.2
  clear o10 o3 o8 c10 hg1
  have c10 := p10.cell (i := 0) (v := .pointer (some ⟨j, 0, none⟩)) rfl
  go_wp2_with fail
  refine (hN2.out w1 r1).mono ?_
  rintro e w2 ⟨rfl, r2, hg2⟩
  have R2 := R1.trans (grown_restM hg2) (fun _ _ e => e)
  have ty1 := rdr_typedK r1
  have q3 := p3.byR (grown_restM hg2) ty1 mp_types2.2.2.2.1
  have q8 := p8.byR (grown_restM hg2) ty1 mp_types2.2.2.2.2.2
  have hF2 : Fams w2 := hF.rest R2 hgj
  clear p10 p3 p8 c10 hg2 r1 R1 ty1
  go_wp2_with fail
  refine (mfamily_any f 1 w2 hF2).mono ?_
  rintro e w3 ⟨rfl, rfl⟩
  have ef : famOf f 1 = f := by unfold famOf; rw [if_pos ⟨rfl, hf⟩]
  rw [ef]
  obtain ⟨y0, y1, y2, y3, y4, y5⟩ : _ ∧ _ ∧ _ ∧ _ ∧ _ ∧ _ := ⟨q3.cell (i := 0) rfl, q3.cell (i := 1) rfl, q3.cell (i := 2) rfl, q3.cell (i := 3) rfl, q3.cell (i := 4) rfl, q3.cell (i := 5) rfl⟩
  go_wp2_with fail
  refine (hMp.out _).mono ?_
  rintro e w4 ⟨rfl, hb4⟩
  have s8 := q8.step hb4
  have r4 := r2.below hb4
  clear y0 y1 y2 y3 y4 y5 q3 q8 r2
  have c7 := s8.cell (i := 7) (v := .int .i64 0) rfl
  have f7 := s8.frozen 7
  have l7 := s8.lt
  have hrd := rdr_rest r4 (Rest.setCell w4 ⟨b8, 7, none⟩ (.int .i64 f)) s8 mp_types2.2.2.2.2.2 (atR_no8 _ _ _ _ _ _ _ _)
  have R3 := (R2.below hb4).mono (fun i (e : i = j) => (Or.inl e : i = j ∨ i = b8))
  have HFin := Lib.hid (And.intro (at_set7 s8 (.int .i64 f)) (And.intro hrd (R3.trans (Rest.setCell w4 ⟨b8, 7, none⟩ (.int .i64 f)) (fun i _ e => Or.inr e))))
  clear s8 R3 R2 hb4 hrd r4
  go_wp2
  go_ret
  exact ⟨rfl, HFin.out.1, HFin.out.2.1, HFin.out.2.2⟩
end Go.Proofs.YtmlmgjdjbpipcaaDoor

/- mp.Read where the value is good: the next hop, the routes -/
namespace Go.Proofs.YtmlmgjdjbpipcaaDoor
open Go.RowKit

theorem mpl_type : (5 : TypeId) ≠ 30 := by decide
theorem mpl_type2 : (41 : TypeId) ≠ 30 := by decide
theorem mpl_type3 : (5 : TypeId) ≠ 74 := by decide
set_option maxRecDepth 100000 in
set_option maxHeartbeats 3200000 in
theorem mread3_yes (b10 b8 b13 j : Nat) (f k : Int) (n3 : Nat) (bs G : List Int) (p : Nat) (w : World) (hh : hopB f n3 = true) (hn3 : n3 ≤ 32) (hbl : bs.length = n3)
    (o10 : Own w b10 41 #[.pointer (some ⟨j, 0, none⟩)]) (o8 : Own w b8 30 (atR k none 0 0 f none 0 0))
    (hr : Rdr w j ((n3 : Int) :: (bs ++ (0 :: G))) p) (hl : G.length ≤ 100000000) (hp : p ≤ 1000000) :
    Calls Tryd.prog 46 #[.pointer (some ⟨b10, 0, none⟩), .pointer (some ⟨b8, 0, none⟩), .pointer (some ⟨b13, 0, none⟩)] w fun e w' => ∃ q, e = .returned (.bool true) ∧ Own w' b8 30 (atR k (some ⟨q, 0, none⟩) n3 n3 f none 0 0) ∧ Bytes w' w'.heap.size (some ⟨q, 0, none⟩) n3 bs ∧ w.heap.size ≤ q ∧ Typed w' q 5 ∧ Rdr w' j G (p + 1 + n3 + 1) ∧ Rest w w' (fun i => i = j ∨ i = b8) := by
  have hrg := hr.range
  have hbr : ∀ x ∈ bs, 0 ≤ x ∧ x ≤ 255 := fun x hx => hrg x (by simp [hx])
  have hAt := Lib.hid (at_any j _ p w hr)
  have hN1 := number_yes j ((n3 : Int) :: (bs ++ (0 :: G))) p 1 w hr (by simp; omega) (by omega) (by omega) (by omega) (by simp; omega)
  have eb : big (((n3 : Int) :: (bs ++ (0 :: G))).take (1 : Int).toNat) = (n3 : Int) := by show big [(n3 : Int)] = (n3 : Int); simp [big]
  rw [eb] at hN1
  have hN1 := Lib.hid hN1
  have hHp := Lib.hid (fun W => mhop_any f n3 W)
  rw [hh] at hHp
  have hT := Lib.hid (fun W (h : Rdr W j (bs ++ (0 :: G)) (p + 1)) => take_yes j (bs ++ (0 :: G)) (p + 1) (n3 : Int) W h (by simp; omega) (by omega) (by omega) (by simp; omega))
  have et : (bs ++ (0 :: G)).take (n3 : Int).toNat = bs := by rw [Int.toNat_natCast, ← hbl, List.take_left]
  have ed : (bs ++ (0 :: G)).drop (n3 : Int).toNat = 0 :: G := by rw [Int.toNat_natCast, ← hbl, List.drop_left]
  rw [et, ed] at hT
  rw [Int.toNat_natCast] at hT
  have hN2 := Lib.hid (fun W (h : Rdr W j (0 :: G) (p + 1 + n3)) => number_yes j (0 :: G) (p + 1 + n3) 1 W h (by simp; omega) (by omega) (by omega) (by omega) (by simp; omega))
  have eb2 : big ((0 :: G : List Int).take (1 : Int).toNat) = 0 := by show big [0] = 0; simp [big]
  rw [eb2] at hN2
  have hLf := Lib.hid (fun W (h : Rdr W j (bs ++ (0 :: G)) (p + 1)) => left_any j _ (p + 1) W h)
  have hAt2 := Lib.hid (fun W (h : Rdr W j (0 :: G) (p + 1 + n3)) => at_any j _ (p + 1 + n3) W h)
  have c10 := o10.cell (i := 0) (v := .pointer (some ⟨j, 0, none⟩)) rfl
  have HR := Lib.hid hr
  clear hr hh et ed eb eb2 hrg
  go_enter Tryd.func46, Tryd.ntmps46
  go_wp2_with fail
  refine hAt.out.mono ?_
  rintro e w' ⟨rfl, rfl⟩
  go_wp2_with fail
  refine hN1.out.mono ?_
  rintro e w1 ⟨rfl, r1, hg1⟩
  have R1 := grown_restM hg1
  have ty := rdr_typedK HR.out
  have p10 := o10.byR R1 ty mp_types2.1
  have p8 := o8.byR R1 ty mp_types2.2.2.2.2.2
  clear o10 o8 c10 hg1
  have c10 := p10.cell (i := 0) (v := .pointer (some ⟨j, 0, none⟩)) rfl
  have c7 := p8.cell (i := 7) (v := .int .i64 f) rfl
  go_wp2_with fail
  refine (hHp.out _).mono ?_
  rintro e w' ⟨rfl, rfl⟩
  go_wp2_with fail
  refine (hLf.out _ r1).mono ?_
  rintro e w' ⟨rfl, rfl⟩
  have hlt : ¬ (((bs ++ (0 :: G)).length : Int) < (n3 : Int)) := by rw [List.length_append, hbl]; simp; omega
  go_wp2_with fail
  refine (hT.out _ r1).mono ?_
  rintro e w2 ⟨q, rfl, hq, oq, r2, hg2⟩
  have R2 := R1.trans (grown_restM hg2) (fun _ _ e => e)
  have ty1 := rdr_typedK r1
  have q10 := p10.byR (grown_restM hg2) ty1 mp_types2.1
  have q8 := p8.byR (grown_restM hg2) ty1 mp_types2.2.2.2.2.2
  have hs1 := R1.size
  clear p10 p8 c10 c7 hg2 r1 R1 ty1
  have c6 := q8.cell (i := 6) (v := .slice none 0 0) rfl
  have f6 := q8.frozen 6
  have l6 := q8.lt
  have r3 := rdr_rest r2 (Rest.setCell w2 ⟨b8, 6, none⟩ (.slice (some ⟨q, 0, none⟩) n3 n3)) q8 mp_types2.2.2.2.2.2 (atR_no8 _ _ _ _ _ _ _ _)
  have R3 := (R2.mono (fun i (e : i = j) => (Or.inl e : i = j ∨ i = b8))).trans (Rest.setCell w2 ⟨b8, 6, none⟩ (.slice (some ⟨q, 0, none⟩) n3 n3)) (fun i _ e => Or.inr e)
  have hqb : q ≠ b8 := fun e => by
    subst e
    exact oq.typed.ne q8.typed mpl_type rfl
  have hqb' : b10 ≠ b8 := fun e => by
    subst e
    exact q10.typed.ne q8.typed mpl_type2 rfl
  have s8 := at_set6 q8 (.slice (some ⟨q, 0, none⟩) n3 n3)
  have sq := oq.far (p := ⟨b8, 6, none⟩) hqb (.slice (some ⟨q, 0, none⟩) n3 n3)
  have s10 := q10.far (p := ⟨b8, 6, none⟩) hqb' (.slice (some ⟨q, 0, none⟩) n3 n3)
  have e8 := s10.cell (i := 0) (v := .pointer (some ⟨j, 0, none⟩)) rfl
  have c10 := q10.cell (i := 0) (v := .pointer (some ⟨j, 0, none⟩)) rfl
  go_wp2_with fail
  refine (hAt2.out _ r3).mono ?_
  rintro e w' ⟨rfl, rfl⟩
  clear c6 f6 c10 q10 q8 oq R2 r2
  generalize w2.setCell ⟨b8, 6, none⟩ (.slice (some ⟨q, 0, none⟩) n3 n3) = w3 at *
  go_wp2_with fail
  refine (hN2.out _ r3).mono ?_
  rintro e w4 ⟨rfl, r4, hg4⟩
  have ty3 := rdr_typedK r3
  have R4 := R3.trans (grown_restM hg4) (fun _ _ e => Or.inl e)
  have t8 := s8.byR (grown_restM hg4) ty3 mp_types2.2.2.2.2.2
  have tq := sq.byR (grown_restM hg4) ty3 mpl_type3
  have HFin := Lib.hid (And.intro t8 (And.intro tq (And.intro r4 R4)))
  clear t8 tq r4 R4 R3 r3 s8 sq s10 e8 hg4 ty3
  go_wp2
  go_ret
  refine ⟨q, rfl, HFin.out.1, ?_, by omega, HFin.out.2.1.typed, HFin.out.2.2.1, HFin.out.2.2.2⟩
  have hby := Bytes.of_owned HFin.out.2.1 hbr HFin.out.2.1.lt
  rw [hbl] at hby
  exact hby
theorem atR_pair (k : Int) (A3 : Option Addr) (n3 c3 : Nat) (f : Int) (A4 : Option Addr) (n4 c4 : Nat) (o : Nat) (x y : Int) (h : (atR k A3 n3 c3 f A4 n4 c4)[o]? = some (.int .u32 x)) (e : (atR k A3 n3 c3 f A4 n4 c4)[o + 1]? = some (.int .i64 y)) : False := by
  match o, h, e with
  | 0, h, _ => simp [atR] at h
  | 1, h, _ => simp [atR] at h
  | 2, _, e => simp [atR] at e
  | 3, _, e => simp [atR] at e
  | 4, h, _ => simp [atR] at h
  | 5, h, _ => simp [atR] at h
  | 6, h, _ => simp [atR] at h
  | 7, h, _ => simp [atR] at h
  | 8, h, _ => simp [atR] at h
  | o + 9, h, _ => simp [atR] at h
/-- Routes do not lie in an attribute's own block. -/
theorem routes_store {w w' : World} {b n : Nat} {A : Option Addr} {rs : List Rt} {T : TypeId} {k : Int} {A3 : Option Addr} {n3 c3 : Nat} {f : Int} {A4 : Option Addr} {n4 c4 : Nat} (h : Routes w w.heap.size A n rs) (R : Rest w w' (fun i => i = b)) (o : Own w b T (atR k A3 n3 c3 f A4 n4 c4)) : Routes w' w'.heap.size A n rs := by
  rcases rs with _ | ⟨x, t⟩
  · exact ⟨h.1, h.2.1, .inl rfl⟩
  · rcases h.2.2 with h0 | ⟨b', o', hA, hb, hc⟩
    · cases h0
    · have h1 := hc 0 x rfl 0 (.int .u32 x.p) (by rw [Array.getElem?_toList]; exact rt_0 x)
      have h2 := hc 0 x rfl 1 (.int .i64 x.f) (by rw [Array.getElem?_toList]; exact rt_1 x)
      simp only [Nat.zero_mul, Nat.add_zero] at h1 h2
      have hh := R.block b' hb (fun e => by
        have e3 : b' = b := e
        subst e3
        have e1 := cell_of_row w b' o' _ T (0, 0) o
        have e2 := cell_of_row w b' (o' + 1) _ T (0, 0) o
        exact atR_pair _ _ _ _ _ _ _ _ o' x.p x.f (e1.symm.trans h1) (e2.symm.trans h2))
      exact ⟨h.1, h.2.1, .inr ⟨b', o', hA, Nat.lt_of_lt_of_le hb R.size, fun i r hr j v hv => (World.cell?_of_block (a := ⟨b', o' + i * 19 + j, none⟩) hh).trans (hc i r hr j v hv)⟩⟩
theorem mpK_of {W : World} {b g2 : Nat} {S T : TypeId} {a0 a1 a2 a3 a4 a5 : Bool} {k A3 n f A4 : Value} (o1 : Own W b S #[.bool a0, .bool a1, .bool a2, .bool a3, .bool a4, .bool a5]) (o2 : Own W g2 T #[k, .bool false, .int .u32 0, .int .u32 0, n, n, A3, f, A4]) : W.cell? ⟨b, 0, none⟩ = some (.bool a0) ∧ W.cell? ⟨b, 1, none⟩ = some (.bool a1) ∧ W.cell? ⟨b, 2, none⟩ = some (.bool a2) ∧ W.cell? ⟨b, 3, none⟩ = some (.bool a3) ∧ W.cell? ⟨b, 4, none⟩ = some (.bool a4) ∧ W.cell? ⟨b, 5, none⟩ = some (.bool a5) ∧ W.cell? ⟨g2, 7, none⟩ = some f :=
  ⟨o1.cell rfl, o1.cell rfl, o1.cell rfl, o1.cell rfl, o1.cell rfl, o1.cell rfl, o2.cell rfl⟩
set_option maxRecDepth 100000 in
set_option maxHeartbeats 3200000 in
theorem mread4_yes (a0 a1 a2 a3 a4 a5 : Bool) (b10 b8 b3 b13 j : Nat) (f k : Int) (A3 : Option Addr) (n3 c3 n4 : Nat) (rs : List Rt) (p : Nat) (w : World) (hk : rs.all (rtOk f (famB a4 a5 f)) = true) (hok : ∀ r ∈ rs, r.Ok) (hn4 : rs.length = n4)
    (o10 : Own w b10 41 #[.pointer (some ⟨j, 0, none⟩)]) (o3 : Own w b3 23 #[.bool a0, .bool a1, .bool a2, .bool a3, .bool a4, .bool a5]) (o8 : Own w b8 30 (atR k A3 n3 c3 f none 0 0))
    (hr : Rdr w j (formAll (famB a4 a5 f) rs) p) (hl : (formAll (famB a4 a5 f) rs).length ≤ 100000000) (hp : p ≤ 1000000) :
    Calls Tryd.prog 47 #[.pointer (some ⟨b10, 0, none⟩), .pointer (some ⟨b8, 0, none⟩), .pointer (some ⟨b3, 0, none⟩), .pointer (some ⟨b13, 0, none⟩)] w fun e w' => ∃ A4 c4, e = .returned (.bool true) ∧ Own w' b8 30 (atR k A3 n3 c3 f A4 n4 c4) ∧ Routes w' w'.heap.size A4 n4 rs ∧ Rest w w' (fun i => i = j ∨ i = b8) := by
  have hAt := Lib.hid (at_any j _ p w hr)
  have hgR := hr.range
  have hLf := Lib.hid (fun W (h : Rdr W j (formAll (famB a4 a5 f) rs) p) => left_any j _ p W h)
  have hT := Lib.hid (fun W (h : Rdr W j (formAll (famB a4 a5 f) rs) p) => take_yes j (formAll (famB a4 a5 f) rs) p ((formAll (famB a4 a5 f) rs).length : Int) W h (by omega) (by omega) (by omega) (by omega))
  have et : (formAll (famB a4 a5 f) rs).take ((formAll (famB a4 a5 f) rs).length : Int).toNat = formAll (famB a4 a5 f) rs := by rw [Int.toNat_natCast, List.take_length]
  rw [et, Int.toNat_natCast] at hT
  have hAdd := Lib.hid (fun W => oadd_any a0 a1 a2 a3 a4 a5 f W)
  have hNr := Lib.hid (fun W A c (h : Bytes W W.heap.size A (formAll (famB a4 a5 f) rs).length (formAll (famB a4 a5 f) rs)) => nread_any f (famB a4 a5 f) A _ c (formAll (famB a4 a5 f) rs) W h (by omega))
  have HGo := Lib.hid (fun p rs' => parsed_go (rs' := rs') (p := p) hok hk)
  have HAll := Lib.hid (fun rs' => parsed_all (rs' := rs') hok hk)
  have HR := Lib.hid hr
  generalize formAll (famB a4 a5 f) rs = G at *
  generalize famB a4 a5 f = D at *
  have c10 := o10.cell (i := 0) (v := .pointer (some ⟨j, 0, none⟩)) rfl
  clear hr hk et
  go_enter Tryd.func47, Tryd.ntmps47
  go_wp2_with fail
  refine hAt.out.mono ?_
  rintro e w' ⟨rfl, rfl⟩
  go_wp2_with fail
  have hrd : Rdr w.drew j G p := (HR.out.toB.drewN 1).rdr
  have HS0 : w.drew.cell? ⟨b10, 0, none⟩ = some (.pointer (some ⟨j, 0, none⟩)) := o10.drew.cell rfl
  clear c10
  go_region_held3 (fun W => W.cell? ⟨b10, 0, none⟩ = some (.pointer (some ⟨j, 0, none⟩))) (with_reducible first | exact HS0 | exact HS1) ((first
    | (go_at_call 40; (with_reducible refine (hLf.out _ hrd).mono ?_); rintro e w' ⟨rfl, rfl⟩)
    | (go_at_call 18; (with_reducible refine (hT.out _ hrd).mono ?_); rintro e w1 ⟨q, rfl, hq, oq, r1, hg1⟩; have HS1 : w1.cell? ⟨b10, 0, none⟩ = some (.pointer (some ⟨j, 0, none⟩)) := (o10.drew.byR (grown_restM hg1) (rdr_typedK hrd) mp_types2.1).cell rfl)))
  have R1 := grown_restM hg1
  have ty := rdr_typedK hrd
  have p3 := o3.drew.byR R1 ty mp_types2.2.2.2.1
  have p8 := o8.drew.byR R1 ty mp_types2.2.2.2.2.2
  have R2 : Rest w w1 (fun i => i = j) := (Rest.of_below (bl_refl w).drew (fun i => i = j)).trans R1 (fun _ _ e => e)
  clear HS0 HS1 o10 o3 o8 hg1 R1 ty hrd r1
  have hby := Bytes.of_owned oq hgR oq.lt
  have HS0 := mpK_of p3.drew p8.drew
  go_wp2_with fail
  go_region_held3 (fun W => W.cell? ⟨b3, 0, none⟩ = some (.bool a0) ∧ W.cell? ⟨b3, 1, none⟩ = some (.bool a1) ∧ W.cell? ⟨b3, 2, none⟩ = some (.bool a2) ∧ W.cell? ⟨b3, 3, none⟩ = some (.bool a3) ∧ W.cell? ⟨b3, 4, none⟩ = some (.bool a4) ∧ W.cell? ⟨b3, 5, none⟩ = some (.bool a5) ∧ W.cell? ⟨b8, 7, none⟩ = some (.int .i64 f)) (with_reducible first | exact HS0 | exact HS1 | exact HS2) ((first
    | (go_at_call 28; (with_reducible refine (hAdd.out _).mono ?_); rintro e w3 ⟨rfl, hb3⟩; have HS1 := mpK_of (p3.drew.step hb3) (p8.drew.step hb3); have hby3 := (hby.below ((bl_refl w1).drew.trans hb3)).more hb3.size)
    | (go_at_call 48; (with_reducible refine (hNr.out _ _ _ hby3).mono ?_); rintro e w4 ⟨v, at_, rfl, hrt, hb4⟩; have HS2 := mpK_of ((p3.drew.step hb3).step hb4) ((p8.drew.step hb3).step hb4))))
  have s8 := (p8.drew.step hb3).step hb4
  have R5 := ((R2.trans (Rest.of_below (bl_refl w1).drew (fun _ => False)) (fun _ _ f => f.elim)).below hb3).below hb4
  clear HS0 HS1 HS2 p3 p8 R2 hby hby3 hb3 hb4 oq
  rcases hrt with ⟨rs', A6, c6, rfl, hp6, rfl, hc6, hro⟩ | ⟨p6, rs', rfl, hp1, hp2, hp3, _⟩
  · have hrs : rs' = rs := HAll.out _ hp6
    subst hrs
    have e8 := s8.cell (i := 8) (v := .slice none 0 0) rfl
    have f8 := s8.frozen 8
    have l8 := s8.lt
    have t8 := at_set8 s8 (.slice A6 rs'.length c6)
    have R6 := (R5.mono (fun i (e : i = j) => (Or.inl e : i = j ∨ i = b8))).trans (Rest.setCell w4 ⟨b8, 8, none⟩ (.slice A6 rs'.length c6)) (fun i _ e => Or.inr e)
    have hrt := routes_store hro (Rest.setCell w4 ⟨b8, 8, none⟩ (.slice A6 rs'.length c6)) s8
    have HFin := Lib.hid (And.intro t8 (And.intro hrt R6))
    clear t8 hrt R6 R5 s8 hro
    go_wp2
    go_ret
    subst hn4
    exact ⟨A6, c6, rfl, HFin.out.1, HFin.out.2.1, HFin.out.2.2⟩
  · exact absurd (HGo.out _ _ hp2 hp1) (by rw [hp3]; decide)
end Go.Proofs.YtmlmgjdjbpipcaaDoor

/- mp.Bytes -/
namespace Go.Proofs.YtmlmgjdjbpipcaaDoor
open Go.RowKit Go.Sort

set_option maxRecDepth 100000 in
theorem nbytes_all (f : Int) (add : Bool) (A : Option Addr) (n c : Nat) (rs : List Rt) (w : World) (h : Routes w w.heap.size A n rs) (hn : n ≤ 1000000) (hk : rs.all (rtOk f add) = true) :
    Calls Tryd.prog 27 #[.int .i64 f, .bool add, .slice A n c] w fun e w' => ∃ g, e = .returned (.tuple #[.slice (some ⟨g, 0, none⟩) (formAll add rs).length (formAll add rs).length, .bool true]) ∧ w.heap.size ≤ g ∧ Own w' g 5 ((formAll add rs).map (Value.int .u8)).toArray ∧ Below w.heap.size w w' := by
  cases add
  · exact nbytes_false f A n c rs w h hn hk
  · exact nbytes_true f A n c rs w h hn hk
theorem parts_five {W : World} {j : Nat} {T : TypeId} {A1 A2 A3 A4 A5 : Option Addr} {n1 n2 n3 n4 n5 c1 c2 c3 c4 c5 : Nat} {x1 x2 x3 x4 x5 : List Int} (ho : Own W j T #[.slice A1 n1 c1, .slice A2 n2 c2, .slice A3 n3 c3, .slice A4 n4 c4, .slice A5 n5 c5]) (h1 : Bytes W W.heap.size A1 n1 x1) (h2 : Bytes W W.heap.size A2 n2 x2) (h3 : Bytes W W.heap.size A3 n3 x3) (h4 : Bytes W W.heap.size A4 n4 x4) (h5 : Bytes W W.heap.size A5 n5 x5) :
    Parts W W.heap.size (some ⟨j, 0, none⟩) 5 [⟨A1, n1, c1, x1⟩, ⟨A2, n2, c2, x2⟩, ⟨A3, n3, c3, x3⟩, ⟨A4, n4, c4, x4⟩, ⟨A5, n5, c5, x5⟩] := by
  refine ⟨rfl, fun p hp => ?_, Shows.of_owned ho ho.lt⟩
  simp at hp
  rcases hp with rfl | rfl | rfl | rfl | rfl
  · exact h1
  · exact h2
  · exact h3
  · exact h4
  · exact h5
theorem mv_parts {a2 a3 a4 a5 : Bool} {a : At} {rs : List Rt} (h : mvB a2 a3 a4 a5 a rs = true) : (a.k = 14 ∨ a.k = 15) ∧ famB a2 a3 a.f = true ∧ rs.all (rtOk a.f (famB a4 a5 a.f)) = true ∧ (a.k = 14 → a.n3 ≤ 32) ∧ (a.k = 15 → a.n3 = 0) := by
  unfold mvB hop2B at h
  simp only [Bool.and_eq_true] at h
  obtain ⟨h1, _, h3, h4, h5, _⟩ := h
  have h1 : a.k = 14 ∨ a.k = 15 := by unfold hasB at h1; exact of_decide_eq_true h1
  refine ⟨h1, h3, h4, fun e => ?_, fun e => ?_⟩
  · rw [if_pos e] at h5
    unfold hopB at h5
    split at h5
    · have := of_decide_eq_true h5
      omega
    · have := of_decide_eq_true h5
      omega
  · rw [if_neg (by omega)] at h5
    exact of_decide_eq_true h5
theorem fa_range {add : Bool} {f : Int} {rs : List Rt} (hk : rs.all (rtOk f add) = true) (hok : ∀ r ∈ rs, r.Ok) : ∀ x ∈ formAll add rs, 0 ≤ x ∧ x ≤ 255 := by
  intro x hx
  obtain ⟨r, hr, hxr⟩ := List.mem_flatMap.1 hx
  have hro := List.all_eq_true.1 hk r hr
  have hpk : pfxOk r.f r.l r.a = true := by simp only [rtOk, Bool.and_eq_true] at hro; exact hro.1.2
  have hrg := pfxOk_range hpk
  rcases List.mem_append.1 hxr with hx | hx
  · cases add
    · cases hx
    · exact digitsOf_range 4 r.p x hx
  · exact pfxForm_range (hok r hr).1 hrg.1 hrg.2 x hx
theorem famB_12 {a b : Bool} {f : Int} (h : famB a b f = true) : f = 1 ∨ f = 2 := by
  unfold famB at h
  simp at h
  omega
set_option maxRecDepth 100000 in
theorem mbytes_no (a0 a1 a2 a3 a4 a5 : Bool) (a : At) (rs : List Rt) (w : World) (hr : Routes w w.heap.size a.A4 a.n4 rs) (hn : a.n4 ≤ 1000000) (hv : mvB a2 a3 a4 a5 a rs = false) :
    Calls Tryd.prog 9 #[.agg #[.bool a0, .bool a1, .bool a2, .bool a3, .bool a4, .bool a5], .agg (atc a)] w fun e w' => e = .returned (.tuple #[.slice none 0 0, .bool false]) ∧ Below w.heap.size w w' := by
  have b1 := bl_alloc (bl_alloc (bl_refl w) (.cells #[.bool a0, .bool a1, .bool a2, .bool a3, .bool a4, .bool a5] 23)) (.cells (atc a) 30)
  have o1 := (Own.new w 23 #[.bool a0, .bool a1, .bool a2, .bool a3, .bool a4, .bool a5]).alloc (.cells (atc a) 30)
  have o2 := Own.new (w.alloc (.cells #[.bool a0, .bool a1, .bool a2, .bool a3, .bool a4, .bool a5] 23)) 30 (atc a)
  rw [show (w.alloc (.cells #[.bool a0, .bool a1, .bool a2, .bool a3, .bool a4, .bool a5] 23)).heap.size = w.heap.size + 1 by simp] at o2
  have HV := Lib.hid (mvalid_any a0 a1 a2 a3 a4 a5 a rs _ ((hr.below b1).more b1.size) (by omega))
  rw [hv] at HV
  obtain ⟨k, p, N, M, A1, n1, c1, A2, n2, c2, A3, n3, c3, f, A4, n4, c4⟩ := a
  unfold atc at *
  dsimp only at *
  clear hr hv
  go_enter Tryd.func9, Tryd.ntmps9
  go_wp2_with (first | (refine wpList_load_row rfl 23 _ rfl w.heap.size rfl 23 #[.bool a0, .bool a1, .bool a2, .bool a3, .bool a4, .bool a5] (0, 0) (.struct (Tryd.prog.fieldsOf 23)) o1 (by kernel_rfl) rfl (by kernel_rfl) ?_) | (refine wpList_load_row rfl 30 _ rfl (w.heap.size + 1) rfl 30 #[.int .i64 k, .bool p, .int .u32 N, .int .u32 M, .slice A1 n1 c1, .slice A2 n2 c2, .slice A3 n3 c3, .int .i64 f, .slice A4 n4 c4] (0, 0) (.struct (Tryd.prog.fieldsOf 30)) o2 (by kernel_rfl) rfl (by kernel_rfl) ?_))
  refine HV.out.mono ?_
  rintro e w1 ⟨rfl, hb1⟩
  have B2 := Lib.hid (bl_trans b1 hb1)
  clear o1 o2 b1 hb1 HV
  go_wp2
  go_ret2
  exact ⟨rfl, B2.out⟩
set_option maxRecDepth 100000 in
set_option maxHeartbeats 6400000 in
theorem mbytes_yes (a0 a1 a2 a3 a4 a5 : Bool) (a : At) (bs : List Int) (rs : List Rt) (w : World) (hF : Fams w) (hr : Routes w w.heap.size a.A4 a.n4 rs) (hB : Bytes w w.heap.size a.A3 a.n3 bs) (hn : a.n4 ≤ 1000000) (hv : mvB a2 a3 a4 a5 a rs = true) :
    Calls Tryd.prog 9 #[.agg #[.bool a0, .bool a1, .bool a2, .bool a3, .bool a4, .bool a5], .agg (atc a)] w fun e w' => ∃ g, e = .returned (.tuple #[.slice (some ⟨g, 0, none⟩) (mpForm (famB a4 a5 a.f) a bs rs).length (mpForm (famB a4 a5 a.f) a bs rs).length, .bool true]) ∧ w.heap.size ≤ g ∧ Own w' g 5 ((mpForm (famB a4 a5 a.f) a bs rs).map (Value.int .u8)).toArray ∧ Below w.heap.size w w' := by
  obtain ⟨hk, hfb, hrs, h14, h15⟩ := mv_parts hv
  have hf := famB_12 hfb
  have b1 := bl_alloc (bl_alloc (bl_refl w) (.cells #[.bool a0, .bool a1, .bool a2, .bool a3, .bool a4, .bool a5] 23)) (.cells (atc a) 30)
  have o1 := (Own.new w 23 #[.bool a0, .bool a1, .bool a2, .bool a3, .bool a4, .bool a5]).alloc (.cells (atc a) 30)
  have o2 := Own.new (w.alloc (.cells #[.bool a0, .bool a1, .bool a2, .bool a3, .bool a4, .bool a5] 23)) 30 (atc a)
  rw [show (w.alloc (.cells #[.bool a0, .bool a1, .bool a2, .bool a3, .bool a4, .bool a5] 23)).heap.size = w.heap.size + 1 by simp] at o2
  have HV := Lib.hid (mvalid_any a0 a1 a2 a3 a4 a5 a rs _ ((hr.below b1).more b1.size) (by omega))
  rw [hv] at HV
  have hAdd := Lib.hid (oadd_any a0 a1 a2 a3 a4 a5 a.f)
  have hNb := Lib.hid (fun (W : World) (hW : Below w.heap.size w W) => nbytes_all a.f (famB a4 a5 a.f) a.A4 a.n4 a.c4 rs W ((hr.below hW).more hW.size) hn hrs)
  have hCd := Lib.hid (fun W (hb : Below w.heap.size w W) => codes_yes a.f W hf (hF.below hb))
  have hfl := formAll_len hrs
  have hfl2 := Lib.hid (show (formAll (famB a4 a5 a.f) rs).length ≤ 21 * rs.length from hfl)
  have hrl := Lib.hid hr.1
  have HMF : Hid (mpForm (famB a4 a5 a.f) a bs rs = [0, a.f, 1] ++ ((if a.k = 14 then (a.n3 : Int) :: (bs ++ [0]) else []) ++ formAll (famB a4 a5 a.f) rs)) := Lib.hid rfl
  have HByt := Lib.hid hB
  have HBl := Lib.hid hB.1
  have Hf := Lib.hid hf
  have HG2 : Hid (∀ x ∈ formAll (famB a4 a5 a.f) rs, 0 ≤ x ∧ x ≤ 255) := Lib.hid (fa_range hrs hr.2.1)
  generalize mpForm (famB a4 a5 a.f) a bs rs = F at *
  generalize formAll (famB a4 a5 a.f) rs = G at *
  generalize famB a4 a5 a.f = D at *
  clear hr hv hrs hfl hB hf hF hfb
  obtain ⟨k, p, N, M, A1, n1, c1, A2, n2, c2, A3, n3, c3, f, A4, n4, c4⟩ := a
  unfold atc at *
  dsimp only at *
  go_enter Tryd.func9, Tryd.ntmps9
  go_wp2_with (first | (refine wpList_load_row rfl 23 _ rfl w.heap.size rfl 23 #[.bool a0, .bool a1, .bool a2, .bool a3, .bool a4, .bool a5] (0, 0) (.struct (Tryd.prog.fieldsOf 23)) o1 (by kernel_rfl) rfl (by kernel_rfl) ?_) | (refine wpList_load_row rfl 30 _ rfl (w.heap.size + 1) rfl 30 #[.int .i64 k, .bool p, .int .u32 N, .int .u32 M, .slice A1 n1 c1, .slice A2 n2 c2, .slice A3 n3 c3, .int .i64 f, .slice A4 n4 c4] (0, 0) (.struct (Tryd.prog.fieldsOf 30)) o2 (by kernel_rfl) rfl (by kernel_rfl) ?_))
  refine HV.out.mono ?_
  rintro e w1 ⟨rfl, hb1⟩
  have u1 := o1.step hb1
  have u2 := o2.step hb1
  have hb2 := bl_trans b1 hb1
  clear o1 o2 b1 hb1 HV
  obtain ⟨g2, hg2⟩ : ∃ z, z = w.heap.size + 1 := ⟨_, rfl⟩
  rw [← hg2] at u2 ⊢
  clear hg2
  have c7 := u2.cell (i := 7) (v := .int .i64 f) rfl
  go_wp2_with fail
  refine (hCd.out _ hb2).mono ?_
  rintro e w2 ⟨j, rfl, hj, hoj, hb3⟩
  have v1 := u1.step hb3
  have v2 := u2.step hb3
  have hb4 := bl_trans hb2 hb3
  clear u1 u2 hb2 hb3 c7
  have HS0 := mpS_of v1.drew v2.drew
  go_wp2_with fail
  go_region_held3 (fun W => W.cell? ⟨w.heap.size, 0, none⟩ = some (.bool a0) ∧ W.cell? ⟨w.heap.size, 1, none⟩ = some (.bool a1) ∧ W.cell? ⟨w.heap.size, 2, none⟩ = some (.bool a2) ∧ W.cell? ⟨w.heap.size, 3, none⟩ = some (.bool a3) ∧ W.cell? ⟨w.heap.size, 4, none⟩ = some (.bool a4) ∧ W.cell? ⟨w.heap.size, 5, none⟩ = some (.bool a5) ∧ W.cell? ⟨g2, 7, none⟩ = some (.int .i64 f) ∧ W.cell? ⟨g2, 8, none⟩ = some (.slice A4 n4 c4)) (with_reducible first | exact HS0 | exact HS1 | exact HS2) ((first
    | (go_at_call 28; (with_reducible refine (hAdd.out _).mono ?_); rintro e w3 ⟨rfl, hb5⟩; have HS1 := mpS_of (v1.drew.step hb5) (v2.drew.step hb5))
    | (go_at_call 27; (with_reducible refine (hNb.out _ (bl_trans hb4.drew hb5)).mono ?_); rintro e w4 ⟨q, rfl, hq, hoq, hb6⟩; have HS2 := mpS_of ((v1.drew.step hb5).step hb6) ((v2.drew.step hb5).step hb6))))
  have x2 := (v2.drew.step hb5).step hb6
  have hoj4 := (hoj.drew.step hb5).step hb6
  have hb7 : Below w.heap.size w w4 := bl_trans (bl_trans hb4.drew hb5) hb6
  have hGl : G.length ≤ 21 * 1000000 := by have := hfl2.out; have := hrl.out; omega
  clear HS0 HS1 HS2 v1 v2 hoj hb4 hb5 hb6
  have hGB : Bytes w4 w4.heap.size (some ⟨q, 0, none⟩) G.length G := Bytes.of_owned hoq HG2.out hoq.lt
  have hf12 := Hf.out
  have hCB : Bytes w4 w4.heap.size (some ⟨j, 0, none⟩) 3 [0, f, 1] := Bytes.of_owned (xs := [0, f, 1]) hoj4 (by intro x hx; simp at hx; omega) hoj4.lt
  have c0 := x2.cell (i := 0) (v := .int .i64 k) rfl
  rcases hk with rfl | rfl
  · have HM2 : Hid (F = [0, f, 1] ++ ((n3 : Int) :: (bs ++ [0]) ++ G)) := Lib.hid (by rw [HMF.out]; rfl)
    have hn32 := h14 rfl
    clear h14 h15 HMF
    have c6 := x2.cell (i := 6) (v := .slice A3 n3 c3) rfl
    have hw3 := Lib.hid (show IntKind.u8.wrap (n3 : Int) = (n3 : Int) by rw [IntKind.wrap_u8]; omega)
    have l2 := x2.lt
    clear x2
    obtain ⟨W1, hW1⟩ : ∃ z, z = w4.alloc (.cells #[.int .u8 (n3 : Int)] 5) := ⟨_, rfl⟩
    have oA : Own W1 w4.heap.size 5 #[.int .u8 (n3 : Int)] := hW1 ▸ Own.new w4 5 #[.int .u8 (n3 : Int)]
    have bA : Below w4.heap.size w4 W1 := hW1 ▸ bl_alloc (bl_refl w4) _
    have s1 : W1.heap.size = w4.heap.size + 1 := by rw [hW1]; simp
    obtain ⟨W2, hW2⟩ : ∃ z, z = W1.alloc (.cells #[.int .u8 0] 5) := ⟨_, rfl⟩
    have oB : Own W2 W1.heap.size 5 #[.int .u8 0] := hW2 ▸ Own.new W1 5 #[.int .u8 0]
    have bB : Below w4.heap.size w4 W2 := hW2 ▸ bl_alloc bA _
    have oA2 : Own W2 w4.heap.size 5 #[.int .u8 (n3 : Int)] := hW2 ▸ oA.alloc _
    have s2 : W2.heap.size = w4.heap.size + 2 := by rw [hW2]; simp; omega
    obtain ⟨W3, hW3⟩ : ∃ z, z = W2.alloc (.cells #[.slice (some ⟨j, 0, none⟩) 3 3, .slice (some ⟨w4.heap.size, 0, none⟩) 1 1, .slice A3 n3 c3, .slice (some ⟨W1.heap.size, 0, none⟩) 1 1, .slice (some ⟨q, 0, none⟩) G.length G.length] 27) := ⟨_, rfl⟩
    have oC : Own W3 W2.heap.size 27 #[.slice (some ⟨j, 0, none⟩) 3 3, .slice (some ⟨w4.heap.size, 0, none⟩) 1 1, .slice A3 n3 c3, .slice (some ⟨W1.heap.size, 0, none⟩) 1 1, .slice (some ⟨q, 0, none⟩) G.length G.length] := hW3 ▸ Own.new W2 27 _
    have bC : Below w4.heap.size w4 W3 := hW3 ▸ bl_alloc bB _
    have s3 : W3.heap.size = w4.heap.size + 3 := by rw [hW3]; simp; omega
    have hpt := parts_five oC ((hCB.below bC).more bC.size) (Bytes.of_owned (xs := [(n3 : Int)]) (hW3 ▸ oA2.alloc _) (by intro x hx; simp at hx; omega) (by omega)) ((HByt.out.below (bl_trans hb7 bC)).more (bl_trans hb7 bC).size) (Bytes.of_owned (xs := [0]) (hW3 ▸ oB.alloc _) (by intro x hx; simp at hx; omega) (by omega)) ((hGB.below bC).more bC.size)
    have hb9 := bl_trans hb7 bC
    go_wp2_with fail
    rw [← hW1, show w4.heap.size + 1 = W1.heap.size from s1.symm, ← hW2, show W1.heap.size + 1 = W2.heap.size by omega, ← hW3]
    have hfl : flat [⟨some ⟨j, 0, none⟩, 3, 3, [0, f, 1]⟩, ⟨some ⟨w4.heap.size, 0, none⟩, 1, 1, [(n3 : Int)]⟩, ⟨A3, n3, c3, bs⟩, ⟨some ⟨W1.heap.size, 0, none⟩, 1, 1, [0]⟩, ⟨some ⟨q, 0, none⟩, G.length, G.length, G⟩] = F := by rw [HM2.out]; simp [flat]
    have hFl : F.length ≤ 1000000000 := by rw [HM2.out]; have := HBl.out; simp; omega
    refine (cat_own (c := 5) hpt (by omega) (by rw [hfl]; exact hFl)).mono ?_
    rw [hfl]
    rintro e w5 ⟨rfl, ho2, hb10⟩
    have hb11 := bl_trans hb9 hb10
    have hsz := hb9.size
    clear hW1 hW2 hW3 oA bA s1 oB bB oA2 s2 oC bC s3
    go_wp2
    go_ret2
    exact ⟨_, rfl, hsz, ho2, hb11⟩
  · have HM2 : Hid (F = [0, f, 1] ++ G) := Lib.hid (by rw [HMF.out]; rfl)
    clear h14 h15 HMF x2
    have ho9 := Own.new w4 27 #[.slice (some ⟨j, 0, none⟩) 3 3, .slice (some ⟨q, 0, none⟩) G.length G.length]
    have hb8 := bl_alloc (bl_refl w4) (.cells #[.slice (some ⟨j, 0, none⟩) 3 3, .slice (some ⟨q, 0, none⟩) G.length G.length] 27)
    have hpt := parts_two ho9 ((hCB.below hb8).more hb8.size) ((hGB.below hb8).more hb8.size)
    have hb9 := bl_trans hb7 hb8
    go_wp2_with fail
    have hfl : flat [⟨some ⟨j, 0, none⟩, 3, 3, [0, f, 1]⟩, ⟨some ⟨q, 0, none⟩, G.length, G.length, G⟩] = F := by rw [HM2.out]; simp [flat]
    have hFl : F.length ≤ 1000000000 := by rw [HM2.out]; simp; omega
    refine (cat_own (c := 2) hpt (by omega) (by rw [hfl]; exact hFl)).mono ?_
    rw [hfl]
    rintro e w5 ⟨rfl, ho2, hb10⟩
    have hb11 := bl_trans hb9 hb10
    have hsz := hb9.size
    rw [show (w4.alloc (.cells #[.slice (some ⟨j, 0, none⟩) 3 3, .slice (some ⟨q, 0, none⟩) G.length G.length] 27)).heap.size = w4.heap.size + 1 by simp] at ho2 hsz
    go_wp2
    go_ret2
    exact ⟨_, rfl, hsz, ho2, hb11⟩
end Go.Proofs.YtmlmgjdjbpipcaaDoor

/- what a drawn region leaves that reads an attribute off new bytes into variables of its own -/
namespace Go.Proofs.YtmlmgjdjbpipcaaDoor
open Go.RowKit

abbrev zA9 : Array Value := #[.int .i64 0, .bool false, .int .u32 0, .int .u32 0, .slice none 0 0, .slice none 0 0, .slice none 0 0, .int .i64 0, .slice none 0 0]
abbrev zV5 : Array Value := #[.int .i64 0, .int .i64 0, .int .i64 0, .slice none 0 0, .int .i64 0]
theorem at_oneV (k : Int) (p : Bool) (N M : Int) (A1 : Option Addr) (n1 c1 : Nat) (A2 : Option Addr) (n2 c2 : Nat) (A3 : Option Addr) (n3 c3 : Nat) (f : Int) (A4 : Option Addr) (n4 c4 : Nat) : (#[Value.int .i64 k, .bool p, .int .u32 N, .int .u32 M, .slice A1 n1 c1, .slice A2 n2 c2, .slice A3 n3 c3, .int .i64 f, .slice A4 n4 c4] : Array Value).all (·.oneCell') = true := by simp [Value.oneCell']
theorem step_store_rowV {P : Program} {ops : Array Oper} {o : Oper} {a : Act} {w : World} {K : Act → World → Prop} {Q : Exit → Act → World → Prop} {E : Prop}
    (hg : o.guard = none) (ty : TypeId) (x y : Operand) (ho : o.op = .store ty x y) (g : Nat) (cells : Array Value) (hx : a.eval x = .pointer (some ⟨g, 0, none⟩)) (hy : a.eval y = .agg cells)
    (t : TypeId) (old : Array Value) (hgd : w.heap[g]? = some (.cells old t (0, 0))) (hi : (P.info? ty).map (·.size) = some cells.size) (hold : old.size = cells.size) (h1 : cells.all (·.oneCell') = true)
    (hK : K (a.put o.dst undef) (w.setRow g cells)) :
    if Region.wanted o (yielded ops a.tmps) = true then Oper.wp P o a w K Q else E := by
  have hw : Region.wanted o (yielded ops a.tmps) = true := by simp [Region.wanted, hg]
  rw [if_pos hw]
  unfold Oper.wp
  simp [execOp, ho, hx, hy, Instr.storeAt, Instr.sureAddr, run_storeVar_row w g t ty old cells hgd hi hold h1, Result.andThen]
  exact hK
/-- It stays so where all blocks stay but new attributes and verdicts. -/
def KeepX (X : World → Prop) : Prop := ∀ W W' : World, X W → W.heap.size ≤ W'.heap.size → (∀ i, i < W.heap.size → W.heap[i]? ≠ some (.cells zA9 30 (0, 0)) → W.heap[i]? ≠ some (.cells zV5 38 (0, 0)) → W'.heap[i]? = W.heap[i]?) → X W'
theorem KeepX.true_ : KeepX (fun _ => True) := fun _ _ h _ _ => h
theorem KeepX.and_ {X Y : World → Prop} (h : KeepX X) (k : KeepX Y) : KeepX (fun W => X W ∧ Y W) := fun W W' hx hs hk => ⟨h W W' hx.1 hs hk, k W W' hx.2 hs hk⟩
theorem KeepX.below {X : World → Prop} (h : KeepX X) {W W' : World} (hx : X W) (hb : Below W.heap.size W W') : X W' := h W W' hx hb.size (fun i hi _ _ => hb.block i hi)
theorem rv_types : (30 : TypeId) ≠ 38 ∧ (30 : TypeId) ≠ 74 ∧ (38 : TypeId) ≠ 74 := by decide
theorem KeepX.rowA {X : World → Prop} (h : KeepX X) {W : World} {g : Nat} (hx : X W) (o : Own W g 30 zA9) (Y : Array Value) : X (W.setRow g Y) := h W _ hx (by simp) (fun i _ h1 _ => setRow_other W g i _ (fun e => by
  subst e
  exact h1 o))
theorem KeepX.rowV {X : World → Prop} (h : KeepX X) {W : World} {g : Nat} (hx : X W) (o : Own W g 38 zV5) (Y : Array Value) : X (W.setRow g Y) := h W _ hx (by simp) (fun i _ _ h2 => setRow_other W g i _ (fun e => by
  subst e
  exact h2 o))
theorem KeepX.bytes (A : Option Addr) (n : Nat) (xs : List Int) : KeepX (fun W => Bytes W W.heap.size A n xs) := by
  intro W W' h hs hk
  rcases xs with _ | ⟨x, t⟩
  · exact ⟨h.1, h.2.1, .inl rfl⟩
  · rcases h.2.2 with h0 | ⟨b, o, hA, hb, hc⟩
    · cases h0
    · have h1 := hc 0 (.int .u8 x) rfl
      have hh := hk b hb (fun e => by
        have h2 := cell_of_row W b (o + 0) zA9 30 (0, 0) e
        rw [h1] at h2
        have h3 := List.mem_of_getElem? (l := zA9.toList) (by rw [Array.getElem?_toList]; exact h2.symm)
        simp at h3) (fun e => by
        have h2 := cell_of_row W b (o + 0) zV5 38 (0, 0) e
        rw [h1] at h2
        have h3 := List.mem_of_getElem? (l := zV5.toList) (by rw [Array.getElem?_toList]; exact h2.symm)
        simp at h3)
      exact ⟨h.1, h.2.1, .inr ⟨b, o, hA, Nat.lt_of_lt_of_le hb hs, fun i v hv => (World.cell?_of_block (a := ⟨b, o + i, none⟩) hh).trans (hc i v hv)⟩⟩
theorem zA9_pair (o : Nat) (p f : Int) (h : zA9[o]? = some (.int .u32 p)) (k : zA9[o + 1]? = some (.int .i64 f)) : False := by
  match o, h, k with
  | 0, h, _ => simp at h
  | 1, h, _ => simp at h
  | 2, _, k => simp at k
  | 3, _, k => simp at k
  | 4, h, _ => simp at h
  | 5, h, _ => simp at h
  | 6, h, _ => simp at h
  | 7, h, _ => simp at h
  | 8, h, _ => simp at h
  | o + 9, h, _ => simp at h
theorem KeepX.routes (A : Option Addr) (n : Nat) (rs : List Rt) : KeepX (fun W => Routes W W.heap.size A n rs) := by
  intro W W' h hs hk
  rcases rs with _ | ⟨x, t⟩
  · exact ⟨h.1, h.2.1, .inl rfl⟩
  · rcases h.2.2 with h0 | ⟨b, o, hA, hb, hc⟩
    · cases h0
    · have h1 := hc 0 x rfl 0 (.int .u32 x.p) (by rw [Array.getElem?_toList]; exact rt_0 x)
      have h2 := hc 0 x rfl 1 (.int .i64 x.f) (by rw [Array.getElem?_toList]; exact rt_1 x)
      simp only [Nat.zero_mul, Nat.add_zero] at h1 h2
      have hh := hk b hb (fun e => by
        have e1 := cell_of_row W b o zA9 30 (0, 0) e
        have e2 := cell_of_row W b (o + 1) zA9 30 (0, 0) e
        exact zA9_pair o x.p x.f (e1.symm.trans h1) (e2.symm.trans h2)) (fun e => by
        have e1 := cell_of_row W b o zV5 38 (0, 0) e
        rw [h1] at e1
        have h3 := List.mem_of_getElem? (l := zV5.toList) (by rw [Array.getElem?_toList]; exact e1.symm)
        simp at h3)
      exact ⟨h.1, h.2.1, .inr ⟨b, o, hA, Nat.lt_of_lt_of_le hb hs, fun i r hr j v hv => (World.cell?_of_block (a := ⟨b, o + i * 19 + j, none⟩) hh).trans (hc i r hr j v hv)⟩⟩
/-- What such a region has left so far. -/
def RvSt (w W : World) (xs : List Int) (ab vb rd : Option Nat) (X : World → Prop) (dn : Bool) : Prop :=
  Below w.heap.size w W ∧ (∀ b, ab = some b → w.heap.size ≤ b ∧ Own W b 30 zA9) ∧ (∀ b, vb = some b → w.heap.size ≤ b ∧ Own W b 38 zV5) ∧ (∀ j, rd = some j → w.heap.size ≤ j ∧ Rdr W j xs 0) ∧ (dn = true → X W)
section
variable {w W W' : World} {xs : List Int} {ab vb rd : Option Nat} {X : World → Prop} {dn : Bool}
theorem RvSt.start (h : Below w.heap.size w W) : RvSt w W xs none none none X false := ⟨h, (fun _ h => by cases h), (fun _ h => by cases h), (fun _ h => by cases h), (fun h => by cases h)⟩
theorem RvSt.as_ (hX : KeepX X) (h : RvSt w W xs none vb rd X dn) {n : Nat} (hn : W.heap.size = n) : RvSt w (W.alloc (.cells zA9 30)) xs (some n) vb rd X dn := by
  subst hn
  obtain ⟨h1, h2, h3, h4, h5⟩ := h
  have hb := bl_alloc (bl_refl W) (.cells zA9 30)
  exact ⟨bl_alloc h1 _, (fun b e => by cases e; exact ⟨h1.size, Own.new _ _ _⟩), (fun b e => ⟨(h3 b e).1, (h3 b e).2.step hb⟩), (fun j e => ⟨(h4 j e).1, (h4 j e).2.below hb⟩), (fun e => hX.below (h5 e) hb)⟩
theorem RvSt.vs_ (hX : KeepX X) (h : RvSt w W xs ab none rd X dn) {n : Nat} (hn : W.heap.size = n) : RvSt w (W.alloc (.cells zV5 38)) xs ab (some n) rd X dn := by
  subst hn
  obtain ⟨h1, h2, h3, h4, h5⟩ := h
  have hb := bl_alloc (bl_refl W) (.cells zV5 38)
  exact ⟨bl_alloc h1 _, (fun b e => ⟨(h2 b e).1, (h2 b e).2.step hb⟩), (fun b e => by cases e; exact ⟨h1.size, Own.new _ _ _⟩), (fun j e => ⟨(h4 j e).1, (h4 j e).2.below hb⟩), (fun e => hX.below (h5 e) hb)⟩
theorem RvSt.new_ (h : RvSt w W xs ab vb none X false) {j : Nat} (hj : W.heap.size ≤ j) (hr : Rdr W' j xs 0) (hb : Below W.heap.size W W') : RvSt w W' xs ab vb (some j) X false := by
  obtain ⟨h1, h2, h3, h4, h5⟩ := h
  exact ⟨bl_trans h1 hb, (fun b e => ⟨(h2 b e).1, (h2 b e).2.step hb⟩), (fun b e => ⟨(h3 b e).1, (h3 b e).2.step hb⟩), (fun i e => by cases e; exact ⟨Nat.le_trans h1.size hj, hr⟩), (fun e => by cases e)⟩
theorem rdr_typedV {g p : Nat} (h : Rdr w g xs p) : Typed w g 74 := by
  obtain ⟨A, n, c, ho, _⟩ := h
  exact ho.typed
theorem RvSt.read_ {j : Nat} {Y : World → Prop} (h : RvSt w W xs ab vb (some j) X false) (R : Rest W W' (fun i => i = j)) (hx : Y W') : RvSt w W' xs ab vb none Y true := by
  obtain ⟨h1, h2, h3, h4, h5⟩ := h
  have hj := (h4 j rfl).1
  have ht := rdr_typedV (h4 j rfl).2
  exact ⟨h1.trans (R.to_below h1.size (fun i hi e => by
    have e2 : i = j := e
    omega)), (fun b e => ⟨(h2 b e).1, (h2 b e).2.byR R ht rv_types.2.1⟩), (fun b e => ⟨(h3 b e).1, (h3 b e).2.byR R ht rv_types.2.2⟩), (fun i e => by cases e), (fun _ => hx)⟩
theorem RvSt.rdr_ {j : Nat} (h : RvSt w W xs ab vb (some j) X dn) : Rdr W j xs 0 := (h.2.2.2.1 j rfl).2
theorem RvSt.le_ {j : Nat} (h : RvSt w W xs ab vb (some j) X dn) : w.heap.size ≤ j := (h.2.2.2.1 j rfl).1
theorem RvSt.a_ {b : Nat} (h : RvSt w W xs (some b) vb rd X dn) : Own W b 30 zA9 := (h.2.1 b rfl).2
theorem RvSt.v_ {b v : Nat} (h : RvSt w W xs (some b) (some v) rd X dn) (Y : Array Value) : Own (W.setRow b Y) v 38 zV5 :=
  (Rest.setRowM W b Y).own (h.2.2.1 v rfl).2 (fun e => (h.2.2.1 v rfl).2.typed.ne h.a_.typed (Ne.symm rv_types.1) e)
theorem RvSt.b1_ {b : Nat} (h : RvSt w W xs (some b) vb rd X dn) (Y : Array Value) : Below w.heap.size w (W.setRow b Y) := bl_setRow h.1 (h.2.1 b rfl).1
theorem RvSt.b2_ {b v : Nat} (h : RvSt w W xs (some b) (some v) rd X dn) (Y Z : Array Value) : Below w.heap.size w ((W.setRow b Y).setRow v Z) := bl_setRow (h.b1_ Y) (h.2.2.1 v rfl).1
/-- What it leaves in the end. -/
def RvR (w wx : World) (Y Z : Array Value) (X : World → Prop) (x y : Value) : Prop :=
  ∃ b v, x = .pointer (some ⟨b, 0, none⟩) ∧ y = .pointer (some ⟨v, 0, none⟩) ∧ Own wx b 30 Y ∧ Own wx v 38 Z ∧ Below w.heap.size w wx ∧ X wx
theorem RvSt.fin_ {b v : Nat} (hX : KeepX X) (h : RvSt w W xs (some b) (some v) rd X true) (Y Z : Array Value) : RvR w ((W.setRow b Y).setRow v Z) Y Z X (.pointer (some ⟨b, 0, none⟩)) (.pointer (some ⟨v, 0, none⟩)) :=
  ⟨b, v, rfl, rfl, (Rest.setRowM (W.setRow b Y) v Z).own h.a_.setRow (fun e => (h.v_ Y).typed.ne (h.a_.setRow (cs' := Y)).typed (Ne.symm rv_types.1) e.symm), (h.v_ Y).setRow, h.b2_ Y Z, hX.rowV (hX.rowA (h.2.2.2.2 rfl) h.a_ Y) (h.v_ Y) Z⟩
end
end Go.Proofs.YtmlmgjdjbpipcaaDoor

/- mp.Read where the value is good -/
namespace Go.Proofs.YtmlmgjdjbpipcaaDoor
open Go.RowKit

theorem Typed.ne_ {w : World} {j : Nat} {t u : TypeId} (h : Typed w j t) (k : Typed w j u) : t = u := by
  obtain ⟨cs, h⟩ := h
  obtain ⟨ds, k⟩ := k
  rw [h] at k
  cases k
  rfl
theorem Rest.setN {w w' : World} {P : Nat → Prop} (h : Rest w w' P) (p : Addr) (u : Value) (hp : P p.block) : Rest w (w'.setCell p u) P := h.trans (Rest.setCell w' p u) (fun i _ e => by
  have e2 : i = p.block := e
  rw [e2]
  exact hp)
section
variable {V : World} {g : Nat} {a0 a1 a2 a3 a4 a5 a6 a7 a8 b0 b1 b2 b3 b4 : Value}
theorem mst_two : Rest V ((((((((((((((V.setCell ⟨g, 0, none⟩ a0).setCell ⟨g, 1, none⟩ a1).setCell ⟨g, 2, none⟩ a2).setCell ⟨g, 3, none⟩ a3).setCell ⟨g, 4, none⟩ a4).setCell ⟨g, 5, none⟩ a5).setCell ⟨g, 6, none⟩ a6).setCell ⟨g, 7, none⟩ a7).setCell ⟨g, 8, none⟩ a8).setCell ⟨g + 1, 0, none⟩ b0).setCell ⟨g + 1, 1, none⟩ b1).setCell ⟨g + 1, 2, none⟩ b2).setCell ⟨g + 1, 3, none⟩ b3).setCell ⟨g + 1, 4, none⟩ b4) (fun i => i = g ∨ i = g + 1) :=
  ((((((((((((((Rest.refl V (fun i => i = g ∨ i = g + 1)).setN ⟨g, 0, none⟩ a0 (.inl rfl)).setN ⟨g, 1, none⟩ a1 (.inl rfl)).setN ⟨g, 2, none⟩ a2 (.inl rfl)).setN ⟨g, 3, none⟩ a3 (.inl rfl)).setN ⟨g, 4, none⟩ a4 (.inl rfl)).setN ⟨g, 5, none⟩ a5 (.inl rfl)).setN ⟨g, 6, none⟩ a6 (.inl rfl)).setN ⟨g, 7, none⟩ a7 (.inl rfl)).setN ⟨g, 8, none⟩ a8 (.inl rfl)).setN ⟨g + 1, 0, none⟩ b0 (.inr rfl)).setN ⟨g + 1, 1, none⟩ b1 (.inr rfl)).setN ⟨g + 1, 2, none⟩ b2 (.inr rfl)).setN ⟨g + 1, 3, none⟩ b3 (.inr rfl)).setN ⟨g + 1, 4, none⟩ b4 (.inr rfl)
end
theorem mst_all2 (V w : World) (g : Nat) (T U : TypeId) (x0 x1 x2 x3 x4 x5 x6 x7 x8 y0 y1 y2 y3 y4 a0 a1 a2 a3 a4 a5 a6 a7 a8 b0 b1 b2 b3 b4 : Value) (P : Nat → Prop) (h : Own V g T #[x0, x1, x2, x3, x4, x5, x6, x7, x8]) (k : Own V (g + 1) U #[y0, y1, y2, y3, y4]) (r : Rest w V P) (hg : w.heap.size ≤ g) :
    ∃ W, W = ((((((((((((((V.setCell ⟨g, 0, none⟩ a0).setCell ⟨g, 1, none⟩ a1).setCell ⟨g, 2, none⟩ a2).setCell ⟨g, 3, none⟩ a3).setCell ⟨g, 4, none⟩ a4).setCell ⟨g, 5, none⟩ a5).setCell ⟨g, 6, none⟩ a6).setCell ⟨g, 7, none⟩ a7).setCell ⟨g, 8, none⟩ a8).setCell ⟨g + 1, 0, none⟩ b0).setCell ⟨g + 1, 1, none⟩ b1).setCell ⟨g + 1, 2, none⟩ b2).setCell ⟨g + 1, 3, none⟩ b3).setCell ⟨g + 1, 4, none⟩ b4).drew ∧ Own W g T #[a0, a1, a2, a3, a4, a5, a6, a7, a8] ∧ Own W (g + 1) U #[b0, b1, b2, b3, b4] ∧ Rest w W P ∧ Rest V W (fun i => i = g ∨ i = g + 1) :=
  ⟨_, rfl, (mst_own1 h).drew, (mst_own2 k).drew, (mst_rest r hg).drewM, mst_two.drewM⟩
set_option maxRecDepth 100000 in
set_option maxHeartbeats 6400000 in
theorem mread_yes (a0 a1 a2 a3 a4 a5 : Bool) (k : Int) (g : Nat) (f : Int) (n3 n4 : Nat) (bs : List Int) (rs : List Rt) (w : World) (hF : Fams w) (hk : k = 14 ∨ k = 15) (hf : f = 1 ∨ f = 2) (hyes : famB a2 a3 f = true) (hrs : rs.all (rtOk f (famB a4 a5 f)) = true) (hok : ∀ r ∈ rs, r.Ok) (hn4 : rs.length = n4) (hbl : bs.length = n3) (hn3 : n3 ≤ 32) (h14 : k = 14 → hopB f n3 = true) (h15 : k = 15 → n3 = 0)
    (hr : Rdr w g ([0, f, 1] ++ ((if k = 14 then (n3 : Int) :: (bs ++ [0]) else []) ++ formAll (famB a4 a5 f) rs)) 0) (hl : (formAll (famB a4 a5 f) rs).length ≤ 10000000) (hgf : 0 ≠ g) :
    Calls Tryd.prog 14 #[.agg #[.bool a0, .bool a1, .bool a2, .bool a3, .bool a4, .bool a5], .int .i64 k, .pointer (some ⟨g, 0, none⟩)] w fun e w' => ∃ A3 c3 A4 c4, e = .returned (.tuple #[.agg (atR k A3 n3 c3 f A4 n4 c4), .agg #[.int .i64 0, .int .i64 0, .int .i64 0, .slice none 0 0, .int .i64 0]]) ∧ Rest w w' (fun i => i = g) ∧ Bytes w' w'.heap.size A3 n3 bs ∧ Routes w' w'.heap.size A4 n4 rs := by
  have hwf := hF.2.2
  have hgl := hr.lt
  obtain ⟨zs, hzs⟩ : ∃ z, z = (if k = 14 then (n3 : Int) :: (bs ++ [0]) else []) ++ formAll (famB a4 a5 f) rs := ⟨_, rfl⟩
  rw [← hzs] at hr
  have hzl : zs.length ≤ 100000000 := by
    rw [hzs]
    split <;> simp <;> omega
  have hr : Rdr w g (0 :: f :: 1 :: zs) 0 := hr
  have HZ := Lib.hid hzs
  clear hzs
  have H4 := Lib.hid (fun b10 b8 b3 b13 j A3 c3 p W => mread4_yes a0 a1 a2 a3 a4 a5 b10 b8 b3 b13 j f k A3 n3 c3 n4 rs p W hrs hok hn4)
  go_enter Tryd.func14, Tryd.ntmps14
  go_wp2_with fail
  refine wp_scope_jumps 0 (fun _ _ => False) (fun _ _ => 0) rfl ?first ?pass
  case pass =>
    rintro a' w' h
    cases h
  case first =>
    go_wp2_with fail
    obtain ⟨W5, hW5, o30, oA0, oV0, o80, o90, bA, hs5⟩ := five_boxes w #[.bool a0, .bool a1, .bool a2, .bool a3, .bool a4, .bool a5] #[.int .i64 0, .bool false, .int .u32 0, .int .u32 0, .slice none 0 0, .slice none 0 0, .slice none 0 0, .int .i64 0, .slice none 0 0] #[.int .i64 0, .int .i64 0, .int .i64 0, .slice none 0 0, .int .i64 0] #[.int .i64 k, .bool false, .int .u32 0, .int .u32 0, .slice none 0 0, .slice none 0 0, .slice none 0 0, .int .i64 0, .slice none 0 0] #[.int .i64 0, .int .i64 0, .int .i64 0, .slice none 0 0, .int .i64 0] 23 30 38 30 38
    rw [← hW5]
    clear hW5
    have rW := (hr.toB.below bA).rdr
    refine (left_any g _ 0 _ rW).mono ?_
    rintro e w' ⟨rfl, rfl⟩
    go_wp2_with fail
    refine (part_yes g _ 0 _ _ rW (by simp; omega) (by omega) (by omega) (by simp)).mono ?_
    rintro e w1 ⟨j, rfl, hj, rj, rg, hg1⟩
    have e1 : (0 :: f :: 1 :: zs).take ((zs.length : Int) + 1 + 1 + 1).toNat = 0 :: f :: 1 :: zs := by rw [show ((zs.length : Int) + 1 + 1 + 1).toNat = (0 :: f :: 1 :: zs : List Int).length by simp; omega, List.take_length]
    rw [e1] at rj
    have R1 : Rest w w1 (fun i => i = g) := (Rest.of_below bA _).trans (grown_restM hg1) (fun _ _ e => e)
    have oA1 := oA0.grown hg1 (by simp; omega)
    have oV1 := oV0.grown hg1 (by simp; omega)
    have o31 := o30.grown hg1 (by simp; omega)
    have o81 := o80.grown hg1 (by simp; omega)
    have o91 := o90.grown hg1 (by simp; omega)
    have hs1 := o91.lt
    have hjl := rj.lt
    have hjg : g ≠ j := by omega
    clear oA0 oV0 o30 o80 o90 hg1 rW e1 rg bA
    go_wp2_with fail
    refine (at_any j _ 0 _ (rj.toB.below (bl_alloc (bl_refl w1) _)).rdr).mono ?_
    rintro e w' ⟨rfl, rfl⟩
    go_wp2_with fail
    simp only [run_store_fn]
    go_simp
    go_wp2_with fail
    go_at_call 43
    obtain ⟨W4, hW4, o10, o12, o13, b4, hs4⟩ := three_boxes w1 #[.pointer (some ⟨j, 0, none⟩)] #[.int .i64 0] #[.func (.func 42) #[] #[.pointer (some ⟨w.heap.size + 1 + 1 + 1, 0, none⟩), .pointer (some ⟨w.heap.size + 1 + 1 + 1 + 1, 0, none⟩)]] 41 3 60
    rw [← hW4]
    clear hW4
    have R4 := R1.below b4
    have oA4 := oA1.step b4
    have oV4 := oV1.step b4
    have o34 := o31.step b4
    have o84 := o81.step b4
    have o94 := o91.step b4
    have rj4 := (rj.toB.below b4).rdr
    clear oA1 oV1 o31 o81 o91 R1 rj b4 o12 o13
    refine (mread2_yes a0 a1 a2 a3 a4 a5 w1.heap.size (w1.heap.size + 1) (w.heap.size + 1 + 1 + 1 + 1) w.heap.size (w1.heap.size + 1 + 1) (w.heap.size + 1 + 1 + 1) j f k zs 0 W4 (hF.rest R4 hgf) hf hyes o10 o34 o84 rj4 hzl (by omega) (by omega)).mono ?_
    rintro e w5 ⟨rfl, o85, rj5, R5⟩
    have oA5 := R5.own oA4 (by omega)
    have oV5 := R5.own oV4 (by omega)
    have o95 := R5.own o94 (by omega)
    have o35 := R5.own o34 (by omega)
    have o105 := R5.own o10 (by omega)
    have R6 := R4.trans R5 (fun i hi e => by omega)
    clear oA4 oV4 o34 o84 o94 o10 R4 R5 rj4
    have hs6 := R6.size
    rcases hk with rfl | rfl
    · have hz : zs = (n3 : Int) :: (bs ++ (0 :: formAll (famB a4 a5 f) rs)) := by rw [HZ.out]; simp
      rw [hz] at rj5
      clear hz hzl
      go_wp2_with fail
      refine (mread3_yes w1.heap.size (w.heap.size + 1 + 1 + 1) (w1.heap.size + 1 + 1) j f 14 n3 bs (formAll (famB a4 a5 f) rs) (0 + 3) w5 (h14 (by first | rfl | trivial)) hn3 hbl o105 o85 rj5 (by omega) (by omega)).mono ?_
      rintro e w6 ⟨q, rfl, o86, hby6, hq6, tq6, rj6, R6'⟩
      have oA6 := R6'.own oA5 (by omega)
      have oV6 := R6'.own oV5 (by omega)
      have o96 := R6'.own o95 (by omega)
      have o36 := R6'.own o35 (by omega)
      have o106 := R6'.own o105 (by omega)
      have R7 := R6.trans R6' (fun i hi e => by omega)
      clear oA5 oV5 o95 o35 o105 R6 R6' o85 rj5
      have hs7 := R7.size
      go_wp2_with fail
      refine (H4.out w1.heap.size (w.heap.size + 1 + 1 + 1) w.heap.size (w1.heap.size + 1 + 1) j (some ⟨q, 0, none⟩) n3 (0 + 3 + 1 + n3 + 1) w6 o106 o36 o86 rj6 (by omega) (by omega)).mono ?_
      rintro e w7 ⟨A4, c4, rfl, o87, hro, R7'⟩
      have oA7 := R7'.own oA6 (by omega)
      have oV7 := R7'.own oV6 (by omega)
      have o97 := R7'.own o96 (by omega)
      have tj6 := rdr_typedK rj6
      have hby7 := (hby6.rest R7' (Nat.le_refl _) (fun a ha e => by
        cases ha
        rcases e with e | e
        · have e2 : q = j := e
          exact mpl_type3 (Typed.ne_ (e2 ▸ tq6) tj6)
        · have e2 : q = w.heap.size + 1 + 1 + 1 := e
          exact mpl_type (Typed.ne_ (e2 ▸ tq6) o86.typed))).more R7'.size
      have R8 := R7.trans R7' (fun i hi e => by omega)
      clear oA6 oV6 o96 o36 o106 R7 R7' o86 rj6 hby6 tq6 tj6
      have hs8 := R8.size
      have ha0 := oA7.cell (i := 0) (v := .int .i64 0) rfl
      have fa0 := oA7.frozen 0
      have ha1 := oA7.cell (i := 1) (v := .bool false) rfl
      have fa1 := oA7.frozen 1
      have ha2 := oA7.cell (i := 2) (v := .int .u32 0) rfl
      have fa2 := oA7.frozen 2
      have ha3 := oA7.cell (i := 3) (v := .int .u32 0) rfl
      have fa3 := oA7.frozen 3
      have ha4 := oA7.cell (i := 4) (v := .slice none 0 0) rfl
      have fa4 := oA7.frozen 4
      have ha5 := oA7.cell (i := 5) (v := .slice none 0 0) rfl
      have fa5 := oA7.frozen 5
      have ha6 := oA7.cell (i := 6) (v := .slice none 0 0) rfl
      have fa6 := oA7.frozen 6
      have ha7 := oA7.cell (i := 7) (v := .int .i64 0) rfl
      have fa7 := oA7.frozen 7
      have ha8 := oA7.cell (i := 8) (v := .slice none 0 0) rfl
      have fa8 := oA7.frozen 8
      have hv0 := oV7.cell (i := 0) (v := .int .i64 0) rfl
      have fv0 := oV7.frozen 0
      have hv1 := oV7.cell (i := 1) (v := .int .i64 0) rfl
      have fv1 := oV7.frozen 1
      have hv2 := oV7.cell (i := 2) (v := .int .i64 0) rfl
      have fv2 := oV7.frozen 2
      have hv3 := oV7.cell (i := 3) (v := .slice none 0 0) rfl
      have fv3 := oV7.frozen 3
      have hv4 := oV7.cell (i := 4) (v := .int .i64 0) rfl
      have fv4 := oV7.frozen 4
      have hr0 := o97.cell (i := 0) (v := .int .i64 0) rfl
      have hr1 := o97.cell (i := 1) (v := .int .i64 0) rfl
      have hr2 := o97.cell (i := 2) (v := .int .i64 0) rfl
      have hr3 := o97.cell (i := 3) (v := .slice none 0 0) rfl
      have hr4 := o97.cell (i := 4) (v := .int .i64 0) rfl
      obtain ⟨ht0, ht1, ht2, ht3, ht4, ht5, ht6, ht7, ht8⟩ := at_cells o87
      have la := oA7.lt
      have lv := oV7.lt
      have lr := o97.lt
      have lt8 := o87.lt
      have HX := Lib.hid (And.intro oA7 (And.intro oV7 R8))
      have HY := Lib.hid (And.intro hby7 hro)
      clear oA7 oV7 o97 o87 R8 hby7 hro
      go_wp2_with fail
      go_region
      obtain ⟨W, hW, F1, F2, F3, F4⟩ := mst_all2 w7 w (w.heap.size + 1) 30 38 (.int .i64 0) (.bool false) (.int .u32 0) (.int .u32 0) (.slice none 0 0) (.slice none 0 0) (.slice none 0 0) (.int .i64 0) (.slice none 0 0) (.int .i64 0) (.int .i64 0) (.int .i64 0) (.slice none 0 0) (.int .i64 0) (.int .i64 14) (.bool false) (.int .u32 0) (.int .u32 0) (.slice none 0 0) (.slice none 0 0) (.slice (some ⟨q, 0, none⟩) n3 n3) (.int .i64 f) (.slice A4 n4 c4) (.int .i64 0) (.int .i64 0) (.int .i64 0) (.slice none 0 0) (.int .i64 0) _ HX.out.1 HX.out.2.1 HX.out.2.2 (by omega)
      rw [← hW]
      have HB := (KeepX.bytes (some ⟨q, 0, none⟩) n3 bs) w7 W HY.out.1 F4.size (fun i hi h1 h2 => F4.block i hi (fun e => by
        rcases e with e | e
        · exact h1 (e ▸ HX.out.1)
        · exact h2 (e ▸ HX.out.2.1)))
      have HRo := (KeepX.routes A4 n4 rs) w7 W HY.out.2 F4.size (fun i hi h1 h2 => F4.block i hi (fun e => by
        rcases e with e | e
        · exact h1 (e ▸ HX.out.1)
        · exact h2 (e ▸ HX.out.2.1)))
      clear hW HX HY F4 ha0 fa0 ha1 fa1 ha2 fa2 ha3 fa3 ha4 fa4 ha5 fa5 ha6 fa6 ha7 fa7 ha8 fa8 hv0 fv0 hv1 fv1 hv2 fv2 hv3 fv3 hv4 fv4 hr0 hr1 hr2 hr3 hr4 la lv lr lt8 ht0 ht1 ht2 ht3 ht4 ht5 ht6 ht7 ht8
      go_wp2_with fail
      dsimp only [Exit.jump]
      refine bodyPost_ret (results_mp2 (p := 6) (q := 7) (fn := Tryd.f14) rfl _ _ (w.heap.size + 1) 30 #[.int .i64 14, .bool false, .int .u32 0, .int .u32 0, .slice none 0 0, .slice none 0 0, .slice (some ⟨q, 0, none⟩) n3 n3, .int .i64 f, .slice A4 n4 c4] _ (w.heap.size + 1 + 1) 38 #[.int .i64 0, .int .i64 0, .int .i64 0, .slice none 0 0, .int .i64 0] _ rfl F1 at_descM rfl (at_infoM _ _ _ _ _ _ _ _ _) rfl F2 vd_descM rfl (vd_infoM _ _ _ _ _)) rfl ⟨(some ⟨q, 0, none⟩), n3, A4, c4, rfl, F3, HB, HRo⟩
    · have hz : zs = formAll (famB a4 a5 f) rs := by rw [HZ.out]; simp
      rw [hz] at rj5
      clear hz hzl
      have hn0 := h15 (by first | rfl | trivial)
      subst hn0
      have hbs : bs = [] := List.length_eq_zero_iff.1 hbl
      subst hbs
      obtain ⟨n3, hn3'⟩ : ∃ z : Nat, z = 0 := ⟨0, rfl⟩
      go_wp2_with fail
      refine (H4.out w1.heap.size (w.heap.size + 1 + 1 + 1) w.heap.size (w1.heap.size + 1 + 1) j none 0 (0 + 3) w5 o105 o35 o85 rj5 (by omega) (by omega)).mono ?_
      rintro e w7 ⟨A4, c4, rfl, o87, hro, R7'⟩
      have oA7 := R7'.own oA5 (by omega)
      have oV7 := R7'.own oV5 (by omega)
      have o97 := R7'.own o95 (by omega)
      have hby7 : Bytes w7 w7.heap.size none 0 [] := Bytes.nil _ _ _
      have R8 := R6.trans R7' (fun i hi e => by omega)
      clear oA5 oV5 o95 o35 o105 R6 R7' o85 rj5
      have hs8 := R8.size
      have ha0 := oA7.cell (i := 0) (v := .int .i64 0) rfl
      have fa0 := oA7.frozen 0
      have ha1 := oA7.cell (i := 1) (v := .bool false) rfl
      have fa1 := oA7.frozen 1
      have ha2 := oA7.cell (i := 2) (v := .int .u32 0) rfl
      have fa2 := oA7.frozen 2
      have ha3 := oA7.cell (i := 3) (v := .int .u32 0) rfl
      have fa3 := oA7.frozen 3
      have ha4 := oA7.cell (i := 4) (v := .slice none 0 0) rfl
      have fa4 := oA7.frozen 4
      have ha5 := oA7.cell (i := 5) (v := .slice none 0 0) rfl
      have fa5 := oA7.frozen 5
      have ha6 := oA7.cell (i := 6) (v := .slice none 0 0) rfl
      have fa6 := oA7.frozen 6
      have ha7 := oA7.cell (i := 7) (v := .int .i64 0) rfl
      have fa7 := oA7.frozen 7
      have ha8 := oA7.cell (i := 8) (v := .slice none 0 0) rfl
      have fa8 := oA7.frozen 8
      have hv0 := oV7.cell (i := 0) (v := .int .i64 0) rfl
      have fv0 := oV7.frozen 0
      have hv1 := oV7.cell (i := 1) (v := .int .i64 0) rfl
      have fv1 := oV7.frozen 1
      have hv2 := oV7.cell (i := 2) (v := .int .i64 0) rfl
      have fv2 := oV7.frozen 2
      have hv3 := oV7.cell (i := 3) (v := .slice none 0 0) rfl
      have fv3 := oV7.frozen 3
      have hv4 := oV7.cell (i := 4) (v := .int .i64 0) rfl
      have fv4 := oV7.frozen 4
      have hr0 := o97.cell (i := 0) (v := .int .i64 0) rfl
      have hr1 := o97.cell (i := 1) (v := .int .i64 0) rfl
      have hr2 := o97.cell (i := 2) (v := .int .i64 0) rfl
      have hr3 := o97.cell (i := 3) (v := .slice none 0 0) rfl
      have hr4 := o97.cell (i := 4) (v := .int .i64 0) rfl
      obtain ⟨ht0, ht1, ht2, ht3, ht4, ht5, ht6, ht7, ht8⟩ := at_cells o87
      have la := oA7.lt
      have lv := oV7.lt
      have lr := o97.lt
      have lt8 := o87.lt
      have HX := Lib.hid (And.intro oA7 (And.intro oV7 R8))
      have HY := Lib.hid (And.intro hby7 hro)
      clear oA7 oV7 o97 o87 R8 hby7 hro
      go_wp2_with fail
      go_region
      obtain ⟨W, hW, F1, F2, F3, F4⟩ := mst_all2 w7 w (w.heap.size + 1) 30 38 (.int .i64 0) (.bool false) (.int .u32 0) (.int .u32 0) (.slice none 0 0) (.slice none 0 0) (.slice none 0 0) (.int .i64 0) (.slice none 0 0) (.int .i64 0) (.int .i64 0) (.int .i64 0) (.slice none 0 0) (.int .i64 0) (.int .i64 15) (.bool false) (.int .u32 0) (.int .u32 0) (.slice none 0 0) (.slice none 0 0) (.slice none 0 0) (.int .i64 f) (.slice A4 n4 c4) (.int .i64 0) (.int .i64 0) (.int .i64 0) (.slice none 0 0) (.int .i64 0) _ HX.out.1 HX.out.2.1 HX.out.2.2 (by omega)
      rw [← hW]
      have HB := (KeepX.bytes none 0 []) w7 W HY.out.1 F4.size (fun i hi h1 h2 => F4.block i hi (fun e => by
        rcases e with e | e
        · exact h1 (e ▸ HX.out.1)
        · exact h2 (e ▸ HX.out.2.1)))
      have HRo := (KeepX.routes A4 n4 rs) w7 W HY.out.2 F4.size (fun i hi h1 h2 => F4.block i hi (fun e => by
        rcases e with e | e
        · exact h1 (e ▸ HX.out.1)
        · exact h2 (e ▸ HX.out.2.1)))
      clear hW HX HY F4 ha0 fa0 ha1 fa1 ha2 fa2 ha3 fa3 ha4 fa4 ha5 fa5 ha6 fa6 ha7 fa7 ha8 fa8 hv0 fv0 hv1 fv1 hv2 fv2 hv3 fv3 hv4 fv4 hr0 hr1 hr2 hr3 hr4 la lv lr lt8 ht0 ht1 ht2 ht3 ht4 ht5 ht6 ht7 ht8
      go_wp2_with fail
      dsimp only [Exit.jump]
      refine bodyPost_ret (results_mp2 (p := 6) (q := 7) (fn := Tryd.f14) rfl _ _ (w.heap.size + 1) 30 #[.int .i64 15, .bool false, .int .u32 0, .int .u32 0, .slice none 0 0, .slice none 0 0, .slice none 0 0, .int .i64 f, .slice A4 n4 c4] _ (w.heap.size + 1 + 1) 38 #[.int .i64 0, .int .i64 0, .int .i64 0, .slice none 0 0, .int .i64 0] _ rfl F1 at_descM rfl (at_infoM _ _ _ _ _ _ _ _ _) rfl F2 vd_descM rfl (vd_infoM _ _ _ _ _)) rfl ⟨none, 0, A4, c4, rfl, F3, HB, HRo⟩
end Go.Proofs.YtmlmgjdjbpipcaaDoor

/- what a value at a reach is read as, at both ends -/
namespace Go.Proofs.YtmlmgjdjbpipcaaDoor
open Go.RowKit

def mN (xs : List Int) : Nat := (nth xs 3).toNat
def mF (xs : List Int) : Int := famOf (big (xs.take 2)) (nth xs 2)
def mTag (a2 a3 : Bool) (xs : List Int) : Nat := if xs.length < 3 then 0 else if famB a2 a3 (mF xs) = false then 1 else if xs.length < 4 ∨ hopB (mF xs) (mN xs) = false ∨ xs.length < 4 + mN xs then 2 else if xs.length = 4 + mN xs then 3 else 4
def MFail (a2 a3 a4 a5 : Bool) (xs : List Int) (p : Int) (V : Array Value) : Prop :=
  (mTag a2 a3 xs = 0 ∧ V = #[.int .i64 4, .int .i64 3, .int .i64 9, .slice none 0 0, .int .i64 p]) ∨
  (mTag a2 a3 xs = 1 ∧ V = #[.int .i64 1, .int .i64 0, .int .i64 0, .slice none 0 0, .int .i64 p]) ∨
  (mTag a2 a3 xs = 2 ∧ V = #[.int .i64 3, .int .i64 0, .int .i64 (mF xs), .slice none 0 0, .int .i64 (p + 3)]) ∨
  (mTag a2 a3 xs = 3 ∧ V = #[.int .i64 3, .int .i64 0, .int .i64 (mF xs), .slice none 0 0, .int .i64 (p + 4 + (mN xs : Int))]) ∨
  (mTag a2 a3 xs = 4 ∧ ∃ q rs, q < (xs.drop (5 + mN xs)).length ∧ Parsed (mF xs) (famB a4 a5 (mF xs)) (xs.drop (5 + mN xs)) q rs ∧ oneOk (mF xs) (famB a4 a5 (mF xs)) ((xs.drop (5 + mN xs)).drop q) = false ∧ V = #[.int .i64 3, .int .i64 0, .int .i64 (mF xs), .slice none 0 0, .int .i64 (p + 5 + (mN xs : Int) + (q : Int))])
def MGood (a2 a3 a4 a5 : Bool) (xs : List Int) (W : World) (A : Array Value) : Prop :=
  mTag a2 a3 xs = 4 ∧ ∃ rs A3 c3 A4 c4, Parsed (mF xs) (famB a4 a5 (mF xs)) (xs.drop (5 + mN xs)) (xs.drop (5 + mN xs)).length rs ∧ A = atR 14 A3 (mN xs) c3 (mF xs) A4 rs.length c4 ∧ Bytes W W.heap.size A3 (mN xs) ((xs.drop 4).take (mN xs)) ∧ Routes W W.heap.size A4 rs.length rs
theorem famOf_12 {x y z f : Int} (hx : 0 ≤ x ∧ x ≤ 255) (hy : 0 ≤ y ∧ y ≤ 255) (h : famOf (big [x, y]) z = f) (hf : f = 1 ∨ f = 2) : x = 0 ∧ y = f ∧ z = 1 := by
  have eb : big [x, y] = x * 256 + y := by simp [big]
  unfold famOf at h
  split at h
  · rename_i h2
    obtain ⟨h3, h4⟩ := h2
    rw [eb] at h h4
    omega
  · omega
theorem hop_32 {f : Int} {n : Nat} (h : hopB f n = true) : n ≤ 32 := by
  unfold hopB at h
  split at h
  · have := of_decide_eq_true h
    omega
  · have := of_decide_eq_true h
    omega
end Go.Proofs.YtmlmgjdjbpipcaaDoor

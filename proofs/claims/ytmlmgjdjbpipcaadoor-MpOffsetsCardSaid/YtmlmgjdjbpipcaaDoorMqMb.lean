/- XMqMb: XMqA, XMqB, XMqC, XMqD in one text -/
import Derived.Test.YtmlmgjdjbpipcaaDoorMqMa
/- mp.Read where the value is not good: its four functions -/
namespace Go.Proofs.YtmlmgjdjbpipcaaDoor
open Go.RowKit

theorem mp_types9 : (38 : TypeId) ≠ 30 ∧ (60 : TypeId) ≠ 30 := by decide
set_option maxRecDepth 100000 in
set_option maxHeartbeats 3200000 in
theorem mread2_short (b10 b12 b9 b3 b13 b8 j : Nat) (st : Int) (xs : List Int) (p : Nat) (old : Array Value) (w : World) (h3 : xs.length < 3)
    (o10 : Own w b10 41 #[.pointer (some ⟨j, 0, none⟩)]) (o12 : Own w b12 3 #[.int .i64 st]) (o9 : Own w b9 38 old) (hs : old.size = 5) (hr : Rdr w j xs p) :
    Calls Tryd.prog 43 #[.pointer (some ⟨b10, 0, none⟩), .pointer (some ⟨b12, 0, none⟩), .pointer (some ⟨b9, 0, none⟩), .pointer (some ⟨b3, 0, none⟩), .pointer (some ⟨b13, 0, none⟩), .pointer (some ⟨b8, 0, none⟩)] w fun e w' => e = .returned (.bool false) ∧ w' = w.setRow b9 #[.int .i64 4, .int .i64 3, .int .i64 9, .slice none 0 0, .int .i64 st] := by
  have hLf := Lib.hid (left_any j _ p w hr)
  have c10 := o10.cell (i := 0) (v := .pointer (some ⟨j, 0, none⟩)) rfl
  have c12 := o12.cell (i := 0) (v := .int .i64 st) rfl
  have hlen : ((xs.length : Int) < 3) := by omega
  clear hr
  go_enter Tryd.func43, Tryd.ntmps43
  go_wp2_with fail
  refine hLf.out.mono ?_
  rintro e w' ⟨rfl, rfl⟩
  go_wp2_with (refine wpList_store_row rfl 38 _ _ rfl b9 #[.int .i64 4, .int .i64 3, .int .i64 9, .slice none 0 0, .int .i64 st] rfl rfl 38 old o9 (vd_infoM _ _ _ _ _) hs (vd_oneM _ _ _ _) ?_)
  go_ret
  exact ⟨rfl, rfl⟩
set_option maxRecDepth 100000 in
set_option maxHeartbeats 3200000 in
theorem mread2_bad (a0 a1 a2 a3 a4 a5 : Bool) (b10 b12 b9 b3 b13 b8 j : Nat) (st : Int) (x y z : Int) (zs : List Int) (p : Nat) (x0 x1 x2 x3 x4 x5 x6 x8 : Value) (old : Array Value) (w : World) (hF : Fams w) (hno : famB a2 a3 (famOf (big [x, y]) z) = false)
    (o10 : Own w b10 41 #[.pointer (some ⟨j, 0, none⟩)]) (o12 : Own w b12 3 #[.int .i64 st]) (o9 : Own w b9 38 old) (hs : old.size = 5) (o3 : Own w b3 23 #[.bool a0, .bool a1, .bool a2, .bool a3, .bool a4, .bool a5]) (o13 : Own w b13 60 #[.func (.func 42) #[] #[.pointer (some ⟨b8, 0, none⟩), .pointer (some ⟨b9, 0, none⟩)]]) (o8 : Own w b8 30 #[x0, x1, x2, x3, x4, x5, x6, .int .i64 0, x8])
    (hr : Rdr w j (x :: y :: z :: zs) p) (hl : zs.length ≤ 1000000) (hp : p ≤ 1000000) (hgj : 0 ≠ j) :
    Calls Tryd.prog 43 #[.pointer (some ⟨b10, 0, none⟩), .pointer (some ⟨b12, 0, none⟩), .pointer (some ⟨b9, 0, none⟩), .pointer (some ⟨b3, 0, none⟩), .pointer (some ⟨b13, 0, none⟩), .pointer (some ⟨b8, 0, none⟩)] w fun e w' => e = .returned (.bool false) ∧ Own w' b9 38 #[.int .i64 1, .int .i64 0, .int .i64 0, .slice none 0 0, .int .i64 st] ∧ Rest w w' (fun i => i = j ∨ i = b9) := by
  have hLf := Lib.hid (left_any j _ p w hr)
  have hN1 := number_yes j (x :: y :: z :: zs) p 2 w hr (by simp; omega) (by omega) (by omega) (by omega) (by simp; omega)
  have eb : big ((x :: y :: z :: zs).take (2 : Int).toNat) = big [x, y] := rfl
  rw [eb] at hN1
  have hN1 := Lib.hid hN1
  have hN2 := Lib.hid (fun W (h : Rdr W j (z :: zs) (p + 2)) => number_yes j (z :: zs) (p + 2) 1 W h (by simp; omega) (by omega) (by omega) (by omega) (by simp; omega))
  have eb2 : big ((z :: zs : List Int).take (1 : Int).toNat) = z := by show big [z] = z; simp [big]
  rw [eb2] at hN2
  have hMp := Lib.hid (fun W => omp_any a0 a1 a2 a3 a4 a5 (famOf (big [x, y]) z) W)
  rw [hno] at hMp
  have hFa := Lib.hid (fun W (h : Fams W) => mfamily_any (big [x, y]) z W h)
  generalize famOf (big [x, y]) z = fm at *
  generalize big [x, y] = afi at *
  have c10 := o10.cell (i := 0) (v := .pointer (some ⟨j, 0, none⟩)) rfl
  have hlen : ¬ ((zs.length : Int) + 1 + 1 + 1 < 3) := by omega
  have HR := Lib.hid hr
  clear hr hno
  go_enter Tryd.func43, Tryd.ntmps43
  go_wp2_with fail
  refine hLf.out.mono ?_
  rintro e w' ⟨rfl, rfl⟩
  go_wp2_with fail
  refine hN1.out.mono ?_
  rintro e w1 ⟨rfl, r1, hg1⟩
  have R1 := grown_restM hg1
  have ty := rdr_typedK HR.out
  have p10 := o10.byR R1 ty mp_types2.1
  have p12 := o12.byR R1 ty mp_types2.2.1
  have p9 := o9.byR R1 ty mp_types2.2.2.1
  have p3 := o3.byR R1 ty mp_types2.2.2.2.1
  have p13 := o13.byR R1 ty mp_types2.2.2.2.2.1
  have p8 := o8.byR R1 ty mp_types2.2.2.2.2.2
  clear o10 o12 o9 o3 o13 o8 c10 hg1
  have c10 := p10.cell (i := 0) (v := .pointer (some ⟨j, 0, none⟩)) rfl
  go_wp2_with fail
  refine (hN2.out w1 r1).mono ?_
  rintro e w2 ⟨rfl, r2, hg2⟩
  have R2 := R1.trans (grown_restM hg2) (fun _ _ e => e)
  have ty1 := rdr_typedK r1
  have q12 := p12.byR (grown_restM hg2) ty1 mp_types2.2.1
  have q9 := p9.byR (grown_restM hg2) ty1 mp_types2.2.2.1
  have q3 := p3.byR (grown_restM hg2) ty1 mp_types2.2.2.2.1
  have q13 := p13.byR (grown_restM hg2) ty1 mp_types2.2.2.2.2.1
  have q8 := p8.byR (grown_restM hg2) ty1 mp_types2.2.2.2.2.2
  have hF2 : Fams w2 := hF.rest R2 hgj
  clear p10 p12 p9 p3 p13 p8 c10 hg2 r1 R1 ty1
  go_wp2_with fail
  refine (hFa.out w2 hF2).mono ?_
  rintro e w3 ⟨rfl, rfl⟩
  obtain ⟨y0, y1, y2, y3, y4, y5⟩ : _ ∧ _ ∧ _ ∧ _ ∧ _ ∧ _ := ⟨q3.cell (i := 0) rfl, q3.cell (i := 1) rfl, q3.cell (i := 2) rfl, q3.cell (i := 3) rfl, q3.cell (i := 4) rfl, q3.cell (i := 5) rfl⟩
  go_wp2_with fail
  refine (hMp.out _).mono ?_
  rintro e w4 ⟨rfl, hb4⟩
  have s12 := q12.step hb4
  have s9 := q9.step hb4
  have s13 := q13.step hb4
  have s8 := q8.step hb4
  clear y0 y1 y2 y3 y4 y5 q12 q9 q3 q13 q8
  have c12 := s12.cell (i := 0) (v := .int .i64 st) rfl
  have c13 := s13.cell (i := 0) (v := .func (.func 42) #[] #[.pointer (some ⟨b8, 0, none⟩), .pointer (some ⟨b9, 0, none⟩)]) rfl
  have H1 := Lib.hid (mread1_any 1 st 0 b8 b9 x0 x1 x2 x3 x4 x5 x6 x8 old w4 s8 s9 hs)
  have R3 := (R2.below hb4).mono (fun i (e : i = j) => (Or.inl e : i = j ∨ i = b9))
  have HFin := Lib.hid (And.intro s9 R3)
  clear s12 s9 s13 s8 R3 R2 hb4
  go_wp2_with fail
  go_at_call 42
  refine H1.out.mono ?_
  rintro e w5 ⟨rfl, rfl⟩
  go_wp2
  go_ret
  exact ⟨rfl, HFin.out.1.setRow, HFin.out.2.trans (Rest.setRowM w4 b9 _) (fun i _ e => Or.inr e)⟩
end Go.Proofs.YtmlmgjdjbpipcaaDoor

/- mp.Read: a next hop that is not good (written by gen/mqb.py) -/
namespace Go.Proofs.YtmlmgjdjbpipcaaDoor
open Go.RowKit

set_option maxRecDepth 100000 in
set_option maxHeartbeats 3200000 in
theorem mread3_no1 (b10 b8 b13 b9 j : Nat) (f k : Int)  (p : Nat) (old : Array Value) (w : World)
    (o10 : Own w b10 41 #[.pointer (some ⟨j, 0, none⟩)]) (o8 : Own w b8 30 (atR k none 0 0 f none 0 0)) (o13 : Own w b13 60 #[.func (.func 42) #[] #[.pointer (some ⟨b8, 0, none⟩), .pointer (some ⟨b9, 0, none⟩)]]) (o9 : Own w b9 38 old) (hs : old.size = 5)
    (hr : Rdr w j [] p) :
    Calls Tryd.prog 46 #[.pointer (some ⟨b10, 0, none⟩), .pointer (some ⟨b8, 0, none⟩), .pointer (some ⟨b13, 0, none⟩)] w fun e w' => e = .returned (.bool false) ∧ Own w' b9 38 #[.int .i64 3, .int .i64 0, .int .i64 f, .slice none 0 0, .int .i64 p] ∧ Rest w w' (fun i => i = j ∨ i = b8 ∨ i = b9) := by
  have hAt := Lib.hid (at_any j _ p w hr)
  have hN := Lib.hid (number_no j [] p 1 w hr (by simp) (by omega) (by omega) (by simp))
  have c10 := o10.cell (i := 0) (v := .pointer (some ⟨j, 0, none⟩)) rfl
  have q8 := o8
  have q9 := o9
  have q13 := o13
  have R : Rest w w (fun i => i = j ∨ i = b8 ∨ i = b9) := Rest.refl _ _
  clear hr
  go_enter Tryd.func46, Tryd.ntmps46
  go_wp2_with fail
  refine hAt.out.mono ?_
  rintro e w' ⟨rfl, rfl⟩
  go_wp2_with fail
  refine hN.out.mono ?_
  rintro e w' ⟨rfl, rfl⟩
  have c13 := q13.cell (i := 0) (v := (.func (.func 42) #[] #[.pointer (some ⟨b8, 0, none⟩), .pointer (some ⟨b9, 0, none⟩)])) rfl
  have H1 := Lib.hid (mread1_any 3 p f b8 b9 (.int .i64 k) (.bool false) (.int .u32 0) (.int .u32 0) (.slice none 0 0) (.slice none 0 0) (.slice none 0 0) (.slice none 0 0) old w q8 q9 hs)
  have HFin := Lib.hid (And.intro q9 R)
  clear q8 q9 q13 R o8 o9 o13
  go_wp2_with fail
  go_at_call 42
  refine H1.out.mono ?_
  rintro e w9 ⟨rfl, rfl⟩
  go_wp2
  go_ret
  exact ⟨rfl, HFin.out.1.setRow, HFin.out.2.trans (Rest.setRowM w b9 _) (fun i _ e => Or.inr (Or.inr e))⟩
set_option maxRecDepth 100000 in
set_option maxHeartbeats 3200000 in
theorem mread3_no2 (b10 b8 b13 b9 j : Nat) (f k : Int) (n3 : Nat) (t : List Int) (hh : hopB f n3 = false) (hn3 : n3 ≤ 255) (hl : t.length ≤ 100000000) (p : Nat) (old : Array Value) (w : World)
    (o10 : Own w b10 41 #[.pointer (some ⟨j, 0, none⟩)]) (o8 : Own w b8 30 (atR k none 0 0 f none 0 0)) (o13 : Own w b13 60 #[.func (.func 42) #[] #[.pointer (some ⟨b8, 0, none⟩), .pointer (some ⟨b9, 0, none⟩)]]) (o9 : Own w b9 38 old) (hs : old.size = 5)
    (hr : Rdr w j ((n3 : Int) :: t) p) (hp : p ≤ 1000000) :
    Calls Tryd.prog 46 #[.pointer (some ⟨b10, 0, none⟩), .pointer (some ⟨b8, 0, none⟩), .pointer (some ⟨b13, 0, none⟩)] w fun e w' => e = .returned (.bool false) ∧ Own w' b9 38 #[.int .i64 3, .int .i64 0, .int .i64 f, .slice none 0 0, .int .i64 p] ∧ Rest w w' (fun i => i = j ∨ i = b8 ∨ i = b9) := by
  have hrg := hr.range
  have hAt := Lib.hid (at_any j _ p w hr)
  have hN1 := number_yes j _ p 1 w hr (by simp; omega) (by omega) (by omega) (by omega) (by simp; omega)
  have eb : ∀ t : List Int, big (((n3 : Int) :: t).take (1 : Int).toNat) = (n3 : Int) := fun t => by show big [(n3 : Int)] = (n3 : Int); simp [big]
  rw [eb] at hN1
  have hN1 := Lib.hid hN1
  have hHp := Lib.hid (fun W => mhop_any f n3 W)
  rw [hh] at hHp
  have c10 := o10.cell (i := 0) (v := .pointer (some ⟨j, 0, none⟩)) rfl
  have HR := Lib.hid hr
  clear hr hh eb hrg
  go_enter Tryd.func46, Tryd.ntmps46
  go_wp2_with fail
  refine hAt.out.mono ?_
  rintro e w' ⟨rfl, rfl⟩
  go_wp2_with fail
  refine hN1.out.mono ?_
  rintro e w1 ⟨rfl, r1, hg1⟩
  have R1 := grown_restM hg1
  have ty := rdr_typedK HR.out
  have p10 := o10.byR R1 ty mp_types2.1
  have q8 := o8.byR R1 ty mp_types2.2.2.2.2.2
  have q9 := o9.byR R1 ty mp_types2.2.2.1
  have q13 := o13.byR R1 ty mp_types2.2.2.2.2.1
  clear o10 o8 o9 o13 c10 hg1
  have c10 := p10.cell (i := 0) (v := .pointer (some ⟨j, 0, none⟩)) rfl
  have c7 := q8.cell (i := 7) (v := .int .i64 f) rfl
  go_wp2_with fail
  refine (hHp.out _).mono ?_
  rintro e w' ⟨rfl, rfl⟩
  have R := R1.mono (fun i (e : i = j) => (Or.inl e : i = j ∨ i = b8 ∨ i = b9))
  have c13 := q13.cell (i := 0) (v := (.func (.func 42) #[] #[.pointer (some ⟨b8, 0, none⟩), .pointer (some ⟨b9, 0, none⟩)])) rfl
  have H1 := Lib.hid (mread1_any 3 p f b8 b9 (.int .i64 k) (.bool false) (.int .u32 0) (.int .u32 0) (.slice none 0 0) (.slice none 0 0) (.slice none 0 0) (.slice none 0 0) old w1 q8 q9 hs)
  have HFin := Lib.hid (And.intro q9 R)
  clear q8 q9 q13 R R1 p10
  go_wp2_with fail
  go_at_call 42
  refine H1.out.mono ?_
  rintro e w9 ⟨rfl, rfl⟩
  go_wp2
  go_ret
  exact ⟨rfl, HFin.out.1.setRow, HFin.out.2.trans (Rest.setRowM w1 b9 _) (fun i _ e => Or.inr (Or.inr e))⟩
set_option maxRecDepth 100000 in
set_option maxHeartbeats 3200000 in
theorem mread3_no3 (b10 b8 b13 b9 j : Nat) (f k : Int) (n3 : Nat) (t : List Int) (hh : hopB f n3 = true) (hn3 : n3 ≤ 32) (hl : t.length < n3) (p : Nat) (old : Array Value) (w : World)
    (o10 : Own w b10 41 #[.pointer (some ⟨j, 0, none⟩)]) (o8 : Own w b8 30 (atR k none 0 0 f none 0 0)) (o13 : Own w b13 60 #[.func (.func 42) #[] #[.pointer (some ⟨b8, 0, none⟩), .pointer (some ⟨b9, 0, none⟩)]]) (o9 : Own w b9 38 old) (hs : old.size = 5)
    (hr : Rdr w j ((n3 : Int) :: t) p) (hp : p ≤ 1000000) :
    Calls Tryd.prog 46 #[.pointer (some ⟨b10, 0, none⟩), .pointer (some ⟨b8, 0, none⟩), .pointer (some ⟨b13, 0, none⟩)] w fun e w' => e = .returned (.bool false) ∧ Own w' b9 38 #[.int .i64 3, .int .i64 0, .int .i64 f, .slice none 0 0, .int .i64 p] ∧ Rest w w' (fun i => i = j ∨ i = b8 ∨ i = b9) := by
  have hrg := hr.range
  have hAt := Lib.hid (at_any j _ p w hr)
  have hN1 := number_yes j _ p 1 w hr (by simp; omega) (by omega) (by omega) (by omega) (by simp; omega)
  have eb : ∀ t : List Int, big (((n3 : Int) :: t).take (1 : Int).toNat) = (n3 : Int) := fun t => by show big [(n3 : Int)] = (n3 : Int); simp [big]
  rw [eb] at hN1
  have hN1 := Lib.hid hN1
  have hHp := Lib.hid (fun W => mhop_any f n3 W)
  rw [hh] at hHp
  have hLf := Lib.hid (fun W (h : Rdr W j t (p + 1)) => left_any j _ (p + 1) W h)
  have hlt : ((t.length : Int) < (n3 : Int)) := by omega
  have c10 := o10.cell (i := 0) (v := .pointer (some ⟨j, 0, none⟩)) rfl
  have HR := Lib.hid hr
  clear hr hh eb hrg
  go_enter Tryd.func46, Tryd.ntmps46
  go_wp2_with fail
  refine hAt.out.mono ?_
  rintro e w' ⟨rfl, rfl⟩
  go_wp2_with fail
  refine hN1.out.mono ?_
  rintro e w1 ⟨rfl, r1, hg1⟩
  have R1 := grown_restM hg1
  have ty := rdr_typedK HR.out
  have p10 := o10.byR R1 ty mp_types2.1
  have q8 := o8.byR R1 ty mp_types2.2.2.2.2.2
  have q9 := o9.byR R1 ty mp_types2.2.2.1
  have q13 := o13.byR R1 ty mp_types2.2.2.2.2.1
  clear o10 o8 o9 o13 c10 hg1
  have c10 := p10.cell (i := 0) (v := .pointer (some ⟨j, 0, none⟩)) rfl
  have c7 := q8.cell (i := 7) (v := .int .i64 f) rfl
  go_wp2_with fail
  refine (hHp.out _).mono ?_
  rintro e w' ⟨rfl, rfl⟩
  go_wp2_with fail
  refine (hLf.out _ r1).mono ?_
  rintro e w' ⟨rfl, rfl⟩
  have R := R1.mono (fun i (e : i = j) => (Or.inl e : i = j ∨ i = b8 ∨ i = b9))
  have c13 := q13.cell (i := 0) (v := (.func (.func 42) #[] #[.pointer (some ⟨b8, 0, none⟩), .pointer (some ⟨b9, 0, none⟩)])) rfl
  have H1 := Lib.hid (mread1_any 3 p f b8 b9 (.int .i64 k) (.bool false) (.int .u32 0) (.int .u32 0) (.slice none 0 0) (.slice none 0 0) (.slice none 0 0) (.slice none 0 0) old w1 q8 q9 hs)
  have HFin := Lib.hid (And.intro q9 R)
  clear q8 q9 q13 R R1 p10 c10 c7
  go_wp2_with fail
  go_at_call 42
  refine H1.out.mono ?_
  rintro e w9 ⟨rfl, rfl⟩
  go_wp2
  go_ret
  exact ⟨rfl, HFin.out.1.setRow, HFin.out.2.trans (Rest.setRowM w1 b9 _) (fun i _ e => Or.inr (Or.inr e))⟩
set_option maxRecDepth 100000 in
set_option maxHeartbeats 3200000 in
theorem mread3_no4 (b10 b8 b13 b9 j : Nat) (f k : Int) (n3 : Nat) (bs : List Int) (hh : hopB f n3 = true) (hn3 : n3 ≤ 32) (hbl : bs.length = n3) (p : Nat) (old : Array Value) (w : World)
    (o10 : Own w b10 41 #[.pointer (some ⟨j, 0, none⟩)]) (o8 : Own w b8 30 (atR k none 0 0 f none 0 0)) (o13 : Own w b13 60 #[.func (.func 42) #[] #[.pointer (some ⟨b8, 0, none⟩), .pointer (some ⟨b9, 0, none⟩)]]) (o9 : Own w b9 38 old) (hs : old.size = 5)
    (hr : Rdr w j ((n3 : Int) :: bs) p) (hp : p ≤ 1000000) :
    Calls Tryd.prog 46 #[.pointer (some ⟨b10, 0, none⟩), .pointer (some ⟨b8, 0, none⟩), .pointer (some ⟨b13, 0, none⟩)] w fun e w' => e = .returned (.bool false) ∧ Own w' b9 38 #[.int .i64 3, .int .i64 0, .int .i64 f, .slice none 0 0, .int .i64 (((p + 1 + n3 : Nat) : Int))] ∧ Rest w w' (fun i => i = j ∨ i = b8 ∨ i = b9) := by
  have hrg := hr.range
  have hAt := Lib.hid (at_any j _ p w hr)
  have hN1 := number_yes j _ p 1 w hr (by simp; omega) (by omega) (by omega) (by omega) (by simp; omega)
  have eb : ∀ t : List Int, big (((n3 : Int) :: t).take (1 : Int).toNat) = (n3 : Int) := fun t => by show big [(n3 : Int)] = (n3 : Int); simp [big]
  rw [eb] at hN1
  have hN1 := Lib.hid hN1
  have hHp := Lib.hid (fun W => mhop_any f n3 W)
  rw [hh] at hHp
  have hLf := Lib.hid (fun W (h : Rdr W j bs (p + 1)) => left_any j _ (p + 1) W h)
  have hT := Lib.hid (fun W (h : Rdr W j bs (p + 1)) => take_yes j bs (p + 1) (n3 : Int) W h (by omega) (by omega) (by omega) (by omega))
  have et : bs.take (n3 : Int).toNat = bs := by rw [Int.toNat_natCast, ← hbl, List.take_length]
  have ed : bs.drop (n3 : Int).toNat = [] := by rw [Int.toNat_natCast, ← hbl, List.drop_length]
  rw [et, ed] at hT
  rw [Int.toNat_natCast] at hT
  have hN2 := Lib.hid (fun W (h : Rdr W j [] (p + 1 + n3)) => number_no j [] (p + 1 + n3) 1 W h (by simp) (by omega) (by omega) (by simp))
  have hAt2 := Lib.hid (fun W (h : Rdr W j [] (p + 1 + n3)) => at_any j _ (p + 1 + n3) W h)
  have hlt : ¬ ((bs.length : Int) < (n3 : Int)) := by omega
  clear et ed
  have c10 := o10.cell (i := 0) (v := .pointer (some ⟨j, 0, none⟩)) rfl
  have HR := Lib.hid hr
  clear hr hh eb hrg
  go_enter Tryd.func46, Tryd.ntmps46
  go_wp2_with fail
  refine hAt.out.mono ?_
  rintro e w' ⟨rfl, rfl⟩
  go_wp2_with fail
  refine hN1.out.mono ?_
  rintro e w1 ⟨rfl, r1, hg1⟩
  have R1 := grown_restM hg1
  have ty := rdr_typedK HR.out
  have p10 := o10.byR R1 ty mp_types2.1
  have q8 := o8.byR R1 ty mp_types2.2.2.2.2.2
  have q9 := o9.byR R1 ty mp_types2.2.2.1
  have q13 := o13.byR R1 ty mp_types2.2.2.2.2.1
  clear o10 o8 o9 o13 c10 hg1
  have c10 := p10.cell (i := 0) (v := .pointer (some ⟨j, 0, none⟩)) rfl
  have c7 := q8.cell (i := 7) (v := .int .i64 f) rfl
  go_wp2_with fail
  refine (hHp.out _).mono ?_
  rintro e w' ⟨rfl, rfl⟩
  go_wp2_with fail
  refine (hLf.out _ r1).mono ?_
  rintro e w' ⟨rfl, rfl⟩
  go_wp2_with fail
  refine (hT.out _ r1).mono ?_
  rintro e w2 ⟨q, rfl, hq, oq, r2, hg2⟩
  have R2 := R1.trans (grown_restM hg2) (fun _ _ e => e)
  have ty1 := rdr_typedK r1
  have s10 := p10.byR (grown_restM hg2) ty1 mp_types2.1
  have s8 := q8.byR (grown_restM hg2) ty1 mp_types2.2.2.2.2.2
  have s9 := q9.byR (grown_restM hg2) ty1 mp_types2.2.2.1
  have s13 := q13.byR (grown_restM hg2) ty1 mp_types2.2.2.2.2.1
  clear p10 q8 q9 q13 c10 c7 hg2 r1 R1 ty1 oq
  have c6 := s8.cell (i := 6) (v := .slice none 0 0) rfl
  have f6 := s8.frozen 6
  have l6 := s8.lt
  have r3 := rdr_rest r2 (Rest.setCell w2 ⟨b8, 6, none⟩ (.slice (some ⟨q, 0, none⟩) n3 n3)) s8 mp_types2.2.2.2.2.2 (atR_no8 _ _ _ _ _ _ _ _)
  have R := (R2.mono (fun i (e : i = j) => (Or.inl e : i = j ∨ i = b8 ∨ i = b9))).trans (Rest.setCell w2 ⟨b8, 6, none⟩ (.slice (some ⟨q, 0, none⟩) n3 n3)) (fun i _ e => Or.inr (Or.inl e))
  have q8 := at_set6 s8 (.slice (some ⟨q, 0, none⟩) n3 n3)
  have q10 := s10.far (p := ⟨b8, 6, none⟩) (fun e => by
    have e2 : b10 = b8 := e
    subst e2
    exact s10.typed.ne s8.typed mpl_type2 rfl) (.slice (some ⟨q, 0, none⟩) n3 n3)
  have q9 := s9.far (p := ⟨b8, 6, none⟩) (fun e => by
    have e2 : b9 = b8 := e
    subst e2
    exact s9.typed.ne s8.typed mp_types9.1 rfl) (.slice (some ⟨q, 0, none⟩) n3 n3)
  have q13 := s13.far (p := ⟨b8, 6, none⟩) (fun e => by
    have e2 : b13 = b8 := e
    subst e2
    exact s13.typed.ne s8.typed mp_types9.2 rfl) (.slice (some ⟨q, 0, none⟩) n3 n3)
  have e8 := q10.cell (i := 0) (v := .pointer (some ⟨j, 0, none⟩)) rfl
  have c10 := s10.cell (i := 0) (v := .pointer (some ⟨j, 0, none⟩)) rfl
  go_wp2_with fail
  refine (hAt2.out _ r3).mono ?_
  rintro e w' ⟨rfl, rfl⟩
  clear c6 f6 c10 s10 s8 s9 s13 R2 r2
  generalize w2.setCell ⟨b8, 6, none⟩ (.slice (some ⟨q, 0, none⟩) n3 n3) = w3 at *
  go_wp2_with fail
  refine (hN2.out _ r3).mono ?_
  rintro e w' ⟨rfl, rfl⟩
  have c13 := q13.cell (i := 0) (v := (.func (.func 42) #[] #[.pointer (some ⟨b8, 0, none⟩), .pointer (some ⟨b9, 0, none⟩)])) rfl
  have H1 := Lib.hid (mread1_any 3 ((p + 1 + n3 : Nat) : Int) f b8 b9 (.int .i64 k) (.bool false) (.int .u32 0) (.int .u32 0) (.slice none 0 0) (.slice none 0 0) (.slice (some ⟨q, 0, none⟩) n3 n3) (.slice none 0 0) old w3 q8 q9 hs)
  have HFin := Lib.hid (And.intro q9 R)
  clear q8 q9 q13 q10 R r3 e8
  go_wp2_with fail
  go_at_call 42
  refine H1.out.mono ?_
  rintro e w9 ⟨rfl, rfl⟩
  go_wp2
  go_ret
  exact ⟨rfl, HFin.out.1.setRow, HFin.out.2.trans (Rest.setRowM w3 b9 _) (fun i _ e => Or.inr (Or.inr e))⟩
end Go.Proofs.YtmlmgjdjbpipcaaDoor

/- mp.Read: the routes of whatever value -/
namespace Go.Proofs.YtmlmgjdjbpipcaaDoor
open Go.RowKit

set_option maxRecDepth 100000 in
set_option maxHeartbeats 3200000 in
theorem mread4_any (a0 a1 a2 a3 a4 a5 : Bool) (b10 b8 b3 b13 j : Nat) (f k : Int) (A3 : Option Addr) (n3 c3 : Nat) (G : List Int) (b9 : Nat) (old : Array Value) (p : Nat) (w : World)
    (o10 : Own w b10 41 #[.pointer (some ⟨j, 0, none⟩)]) (o3 : Own w b3 23 #[.bool a0, .bool a1, .bool a2, .bool a3, .bool a4, .bool a5]) (o8 : Own w b8 30 (atR k A3 n3 c3 f none 0 0)) (o13 : Own w b13 60 #[.func (.func 42) #[] #[.pointer (some ⟨b8, 0, none⟩), .pointer (some ⟨b9, 0, none⟩)]]) (o9 : Own w b9 38 old) (hs : old.size = 5)
    (hr : Rdr w j G p) (hl : G.length ≤ 100000000) (hp : p ≤ 1000000) :
    Calls Tryd.prog 47 #[.pointer (some ⟨b10, 0, none⟩), .pointer (some ⟨b8, 0, none⟩), .pointer (some ⟨b3, 0, none⟩), .pointer (some ⟨b13, 0, none⟩)] w fun e w' =>
      (∃ rs A4 c4, e = .returned (.bool true) ∧ Parsed f (famB a4 a5 f) G G.length rs ∧ Own w' b8 30 (atR k A3 n3 c3 f A4 rs.length c4) ∧ Routes w' w'.heap.size A4 rs.length rs ∧ Rest w w' (fun i => i = j ∨ i = b8)) ∨
      (∃ q rs, e = .returned (.bool false) ∧ q < G.length ∧ Parsed f (famB a4 a5 f) G q rs ∧ oneOk f (famB a4 a5 f) (G.drop q) = false ∧ Own w' b9 38 #[.int .i64 3, .int .i64 0, .int .i64 f, .slice none 0 0, .int .i64 ((p + q : Nat) : Int)] ∧ Rest w w' (fun i => i = j ∨ i = b8 ∨ i = b9)) := by
  have hAt := Lib.hid (at_any j _ p w hr)
  have hgR := hr.range
  have hLf := Lib.hid (fun W (h : Rdr W j G p) => left_any j _ p W h)
  have hT := Lib.hid (fun W (h : Rdr W j G p) => take_yes j G p (G.length : Int) W h (by omega) (by omega) (by omega) (by omega))
  have et : G.take (G.length : Int).toNat = G := by rw [Int.toNat_natCast, List.take_length]
  rw [et, Int.toNat_natCast] at hT
  have hAdd := Lib.hid (fun W => oadd_any a0 a1 a2 a3 a4 a5 f W)
  have hNr := Lib.hid (fun W A c (h : Bytes W W.heap.size A G.length G) => nread_any f (famB a4 a5 f) A _ c G W h (by omega))
  have HR := Lib.hid hr
  generalize famB a4 a5 f = D at *
  have c10 := o10.cell (i := 0) (v := .pointer (some ⟨j, 0, none⟩)) rfl
  clear hr et
  go_enter Tryd.func47, Tryd.ntmps47
  go_wp2_with fail
  refine hAt.out.mono ?_
  rintro e w' ⟨rfl, rfl⟩
  go_wp2_with fail
  have hrd : Rdr w.drew j G p := (HR.out.toB.drewN 1).rdr
  have HS0 : w.drew.cell? ⟨b10, 0, none⟩ = some (.pointer (some ⟨j, 0, none⟩)) := o10.drew.cell rfl
  clear c10
  go_region_held3 (fun W => W.cell? ⟨b10, 0, none⟩ = some (.pointer (some ⟨j, 0, none⟩))) (with_reducible first | exact HS0 | exact HS1) ((first
    | (go_at_call 40; (with_reducible refine (hLf.out _ hrd).mono ?_); rintro e w' ⟨rfl, rfl⟩)
    | (go_at_call 18; (with_reducible refine (hT.out _ hrd).mono ?_); rintro e w1 ⟨q, rfl, hq, oq, r1, hg1⟩; have HS1 : w1.cell? ⟨b10, 0, none⟩ = some (.pointer (some ⟨j, 0, none⟩)) := (o10.drew.byR (grown_restM hg1) (rdr_typedK hrd) mp_types2.1).cell rfl)))
  have R1 := grown_restM hg1
  have ty := rdr_typedK hrd
  have p3 := o3.drew.byR R1 ty mp_types2.2.2.2.1
  have p8 := o8.drew.byR R1 ty mp_types2.2.2.2.2.2
  have p9 := o9.drew.byR R1 ty mp_types2.2.2.1
  have p13 := o13.drew.byR R1 ty mp_types2.2.2.2.2.1
  have R2 : Rest w w1 (fun i => i = j) := (Rest.of_below (bl_refl w).drew (fun i => i = j)).trans R1 (fun _ _ e => e)
  clear HS0 HS1 o10 o3 o8 o9 o13 hg1 R1 ty hrd r1
  have hby := Bytes.of_owned oq hgR oq.lt
  have HS0 := mpK_of p3.drew p8.drew
  go_wp2_with fail
  go_region_held3 (fun W => W.cell? ⟨b3, 0, none⟩ = some (.bool a0) ∧ W.cell? ⟨b3, 1, none⟩ = some (.bool a1) ∧ W.cell? ⟨b3, 2, none⟩ = some (.bool a2) ∧ W.cell? ⟨b3, 3, none⟩ = some (.bool a3) ∧ W.cell? ⟨b3, 4, none⟩ = some (.bool a4) ∧ W.cell? ⟨b3, 5, none⟩ = some (.bool a5) ∧ W.cell? ⟨b8, 7, none⟩ = some (.int .i64 f)) (with_reducible first | exact HS0 | exact HS1 | exact HS2) ((first
    | (go_at_call 28; (with_reducible refine (hAdd.out _).mono ?_); rintro e w3 ⟨rfl, hb3⟩; have HS1 := mpK_of (p3.drew.step hb3) (p8.drew.step hb3); have hby3 := (hby.below ((bl_refl w1).drew.trans hb3)).more hb3.size)
    | (go_at_call 48; (with_reducible refine (hNr.out _ _ _ hby3).mono ?_); rintro e w4 ⟨v, at_, rfl, hrt, hb4⟩; have HS2 := mpK_of ((p3.drew.step hb3).step hb4) ((p8.drew.step hb3).step hb4))))
  have s8 := (p8.drew.step hb3).step hb4
  have s9 := (p9.drew.step hb3).step hb4
  have s13 := (p13.drew.step hb3).step hb4
  have R5 := ((R2.trans (Rest.of_below (bl_refl w1).drew (fun _ => False)) (fun _ _ f => f.elim)).below hb3).below hb4
  clear HS0 HS1 HS2 p3 p8 p9 p13 R2 hby hby3 hb3 hb4 oq
  rcases hrt with ⟨rs', A6, c6, rfl, hp6, rfl, hc6, hro⟩ | ⟨p6, rs', rfl, hp1, hp2, hp3, _⟩
  · have e8 := s8.cell (i := 8) (v := .slice none 0 0) rfl
    have f8 := s8.frozen 8
    have l8 := s8.lt
    have t8 := at_set8 s8 (.slice A6 rs'.length c6)
    have R6 := (R5.mono (fun i (e : i = j) => (Or.inl e : i = j ∨ i = b8))).trans (Rest.setCell w4 ⟨b8, 8, none⟩ (.slice A6 rs'.length c6)) (fun i _ e => Or.inr e)
    have hrt := routes_store hro (Rest.setCell w4 ⟨b8, 8, none⟩ (.slice A6 rs'.length c6)) s8
    have HFin := Lib.hid (And.intro t8 (And.intro hrt R6))
    have hp6 := Lib.hid hp6
    clear t8 hrt R6 R5 s8 s9 s13 hro
    go_wp2
    go_ret
    exact .inl ⟨rs', A6, c6, rfl, hp6.out, HFin.out.1, HFin.out.2.1, HFin.out.2.2⟩
  · have c13 := s13.cell (i := 0) (v := (.func (.func 42) #[] #[.pointer (some ⟨b8, 0, none⟩), .pointer (some ⟨b9, 0, none⟩)])) rfl
    have H1 := Lib.hid (mread1_any 3 ((p + p6 : Nat) : Int) f b8 b9 (.int .i64 k) (.bool false) (.int .u32 0) (.int .u32 0) (.slice none 0 0) (.slice none 0 0) (.slice A3 n3 c3) (.slice none 0 0) old w4 s8 s9 hs)
    have HFin := Lib.hid (And.intro s9 (R5.mono (fun i (e : i = j) => (Or.inl e : i = j ∨ i = b8 ∨ i = b9))))
    have hp2 := Lib.hid hp2
    have hp3 := Lib.hid hp3
    clear s8 s9 s13 R5
    go_wp2_with fail
    go_at_call 42
    refine H1.out.mono ?_
    rintro e w9 ⟨rfl, rfl⟩
    go_wp2
    go_ret
    exact .inr ⟨p6, rs', rfl, hp1, hp2.out, hp3.out, HFin.out.1.setRow, HFin.out.2.trans (Rest.setRowM w4 b9 _) (fun i _ e => Or.inr (Or.inr e))⟩
end Go.Proofs.YtmlmgjdjbpipcaaDoor

/- mp.Read at a reach, whatever the bytes (written by gen/mqd.py) -/
namespace Go.Proofs.YtmlmgjdjbpipcaaDoor
open Go.RowKit

set_option maxRecDepth 100000 in
set_option maxHeartbeats 3200000 in
theorem mread3_any (b10 b8 b13 j : Nat) (f k r : Int) (n3 : Nat) (bs G : List Int) (p : Nat) (w : World) (hh : hopB f n3 = true) (hn3 : n3 ≤ 32) (hbl : bs.length = n3)
    (o10 : Own w b10 41 #[.pointer (some ⟨j, 0, none⟩)]) (o8 : Own w b8 30 (atR k none 0 0 f none 0 0))
    (hr : Rdr w j ((n3 : Int) :: (bs ++ (r :: G))) p) (hl : G.length ≤ 100000000) (hp : p ≤ 1000000) :
    Calls Tryd.prog 46 #[.pointer (some ⟨b10, 0, none⟩), .pointer (some ⟨b8, 0, none⟩), .pointer (some ⟨b13, 0, none⟩)] w fun e w' => ∃ q, e = .returned (.bool true) ∧ Own w' b8 30 (atR k (some ⟨q, 0, none⟩) n3 n3 f none 0 0) ∧ Bytes w' w'.heap.size (some ⟨q, 0, none⟩) n3 bs ∧ w.heap.size ≤ q ∧ Typed w' q 5 ∧ Rdr w' j G (p + 1 + n3 + 1) ∧ Rest w w' (fun i => i = j ∨ i = b8) := by
  have hrg := hr.range
  have hbr : ∀ x ∈ bs, 0 ≤ x ∧ x ≤ 255 := fun x hx => hrg x (by simp [hx])
  have hAt := Lib.hid (at_any j _ p w hr)
  have hN1 := number_yes j ((n3 : Int) :: (bs ++ (r :: G))) p 1 w hr (by simp; omega) (by omega) (by omega) (by omega) (by simp; omega)
  have eb : big (((n3 : Int) :: (bs ++ (r :: G))).take (1 : Int).toNat) = (n3 : Int) := by show big [(n3 : Int)] = (n3 : Int); simp [big]
  rw [eb] at hN1
  have hN1 := Lib.hid hN1
  have hHp := Lib.hid (fun W => mhop_any f n3 W)
  rw [hh] at hHp
  have hT := Lib.hid (fun W (h : Rdr W j (bs ++ (r :: G)) (p + 1)) => take_yes j (bs ++ (r :: G)) (p + 1) (n3 : Int) W h (by simp; omega) (by omega) (by omega) (by simp; omega))
  have et : (bs ++ (r :: G)).take (n3 : Int).toNat = bs := by rw [Int.toNat_natCast, ← hbl, List.take_left]
  have ed : (bs ++ (r :: G)).drop (n3 : Int).toNat = r :: G := by rw [Int.toNat_natCast, ← hbl, List.drop_left]
  rw [et, ed] at hT
  rw [Int.toNat_natCast] at hT
  have hN2 := Lib.hid (fun W (h : Rdr W j (r :: G) (p + 1 + n3)) => number_yes j (r :: G) (p + 1 + n3) 1 W h (by simp; omega) (by omega) (by omega) (by omega) (by simp; omega))
  have eb2 : big ((r :: G : List Int).take (1 : Int).toNat) = r := by show big [r] = r; simp [big]
  rw [eb2] at hN2
  have hLf := Lib.hid (fun W (h : Rdr W j (bs ++ (r :: G)) (p + 1)) => left_any j _ (p + 1) W h)
  have hAt2 := Lib.hid (fun W (h : Rdr W j (r :: G) (p + 1 + n3)) => at_any j _ (p + 1 + n3) W h)
  have c10 := o10.cell (i := 0) (v := .pointer (some ⟨j, 0, none⟩)) rfl
  have HR := Lib.hid hr
  clear hr hh et ed eb eb2 hrg
  go_enter Tryd.func46, Tryd.ntmps46
  go_wp2_with fail
  refine hAt.out.mono ?_
  rintro e w' ⟨rfl, rfl⟩
  go_wp2_with fail
  refine hN1.out.mono ?_
  rintro e w1 ⟨rfl, r1, hg1⟩
  have R1 := grown_restM hg1
  have ty := rdr_typedK HR.out
  have p10 := o10.byR R1 ty mp_types2.1
  have p8 := o8.byR R1 ty mp_types2.2.2.2.2.2
  clear o10 o8 c10 hg1
  have c10 := p10.cell (i := 0) (v := .pointer (some ⟨j, 0, none⟩)) rfl
  have c7 := p8.cell (i := 7) (v := .int .i64 f) rfl
  go_wp2_with fail
  refine (hHp.out _).mono ?_
  rintro e w' ⟨rfl, rfl⟩
  go_wp2_with fail
  refine (hLf.out _ r1).mono ?_
  rintro e w' ⟨rfl, rfl⟩
  have hlt : ¬ (((bs ++ (r :: G)).length : Int) < (n3 : Int)) := by rw [List.length_append, hbl]; simp; omega
  go_wp2_with fail
  refine (hT.out _ r1).mono ?_
  rintro e w2 ⟨q, rfl, hq, oq, r2, hg2⟩
  have R2 := R1.trans (grown_restM hg2) (fun _ _ e => e)
  have ty1 := rdr_typedK r1
  have q10 := p10.byR (grown_restM hg2) ty1 mp_types2.1
  have q8 := p8.byR (grown_restM hg2) ty1 mp_types2.2.2.2.2.2
  have hs1 := R1.size
  clear p10 p8 c10 c7 hg2 r1 R1 ty1
  have c6 := q8.cell (i := 6) (v := .slice none 0 0) rfl
  have f6 := q8.frozen 6
  have l6 := q8.lt
  have r3 := rdr_rest r2 (Rest.setCell w2 ⟨b8, 6, none⟩ (.slice (some ⟨q, 0, none⟩) n3 n3)) q8 mp_types2.2.2.2.2.2 (atR_no8 _ _ _ _ _ _ _ _)
  have R3 := (R2.mono (fun i (e : i = j) => (Or.inl e : i = j ∨ i = b8))).trans (Rest.setCell w2 ⟨b8, 6, none⟩ (.slice (some ⟨q, 0, none⟩) n3 n3)) (fun i _ e => Or.inr e)
  have hqb : q ≠ b8 := fun e => by
    subst e
    exact oq.typed.ne q8.typed mpl_type rfl
  have hqb' : b10 ≠ b8 := fun e => by
    subst e
    exact q10.typed.ne q8.typed mpl_type2 rfl
  have s8 := at_set6 q8 (.slice (some ⟨q, 0, none⟩) n3 n3)
  have sq := oq.far (p := ⟨b8, 6, none⟩) hqb (.slice (some ⟨q, 0, none⟩) n3 n3)
  have s10 := q10.far (p := ⟨b8, 6, none⟩) hqb' (.slice (some ⟨q, 0, none⟩) n3 n3)
  have e8 := s10.cell (i := 0) (v := .pointer (some ⟨j, 0, none⟩)) rfl
  have c10 := q10.cell (i := 0) (v := .pointer (some ⟨j, 0, none⟩)) rfl
  go_wp2_with fail
  refine (hAt2.out _ r3).mono ?_
  rintro e w' ⟨rfl, rfl⟩
  clear c6 f6 c10 q10 q8 oq R2 r2
  generalize w2.setCell ⟨b8, 6, none⟩ (.slice (some ⟨q, 0, none⟩) n3 n3) = w3 at *
  go_wp2_with fail
  refine (hN2.out _ r3).mono ?_
  rintro e w4 ⟨rfl, r4, hg4⟩
  have ty3 := rdr_typedK r3
  have R4 := R3.trans (grown_restM hg4) (fun _ _ e => Or.inl e)
  have t8 := s8.byR (grown_restM hg4) ty3 mp_types2.2.2.2.2.2
  have tq := sq.byR (grown_restM hg4) ty3 mpl_type3
  have HFin := Lib.hid (And.intro t8 (And.intro tq (And.intro r4 R4)))
  clear t8 tq r4 R4 R3 r3 s8 sq s10 e8 hg4 ty3
  go_wp2
  go_ret
  refine ⟨q, rfl, HFin.out.1, ?_, by omega, HFin.out.2.1.typed, HFin.out.2.2.1, HFin.out.2.2.2⟩
  have hby := Bytes.of_owned HFin.out.2.1 hbr HFin.out.2.1.lt
  rw [hbl] at hby
  exact hby

set_option maxRecDepth 100000 in
set_option maxHeartbeats 12800000 in
theorem mread_any (a0 a1 a2 a3 a4 a5 : Bool) (g : Nat) (xs : List Int) (p : Nat) (w : World) (hF : Fams w) (hr : Rdr w g xs p) (hl : xs.length ≤ 100000) (hp : p ≤ 100000) (hgf : 0 ≠ g) :
    Calls Tryd.prog 14 #[.agg #[.bool a0, .bool a1, .bool a2, .bool a3, .bool a4, .bool a5], .int .i64 14, .pointer (some ⟨g, 0, none⟩)] w fun e w' => Rest w w' (fun i => i = g) ∧ ((∃ V, e = .returned (.tuple #[.agg zA9, .agg V]) ∧ MFail a2 a3 a4 a5 xs (p : Int) V) ∨ (∃ A, e = .returned (.tuple #[.agg A, .agg zV5]) ∧ MGood a2 a3 a4 a5 xs w' A)) := by
  have hwf := hF.2.2
  have hgl := hr.lt
  have hrg := hr.range
  go_enter Tryd.func14, Tryd.ntmps14
  go_wp2_with fail
  refine wp_scope_jumps 0 (fun a' w' => ∃ (u4 u5 u10 u11 u12 u13 u14 u15 u16 u17 u18 u19 u20 u21 u22 u23 u24 u25 u26 u27 u28 u29 u30 u31 u32 u33 u34 u35 u36 u37 u38 u39 u40 u41 u42 u43 u44 u45 u46 u47 u48 : Value) (k1 k2 k3 k5 : Int), a' = { tmps := #[.agg #[.bool a0, .bool a1, .bool a2, .bool a3, .bool a4, .bool a5], .int .i64 14, .pointer (some ⟨g, 0, none⟩), .pointer (some ⟨w.heap.size, 0, none⟩), u4, u5, .pointer (some ⟨w.heap.size + 1, 0, none⟩), .pointer (some ⟨w.heap.size + 1 + 1, 0, none⟩), .pointer (some ⟨w.heap.size + 1 + 1 + 1, 0, none⟩), .pointer (some ⟨w.heap.size + 1 + 1 + 1 + 1, 0, none⟩), u10, u11, u12, u13, u14, u15, u16, u17, u18, u19, u20, u21, u22, u23, u24, u25, u26, u27, u28, u29, u30, u31, u32, u33, u34, u35, u36, u37, u38, u39, u40, u41, u42, u43, u44, u45, u46, u47, u48], defers := [] } ∧ Own w' (w.heap.size + 1) 30 atZ ∧ Own w' (w.heap.size + 1 + 1) 38 vdZ ∧ Own w' (w.heap.size + 1 + 1 + 1 + 1) 38 #[.int .i64 k1, .int .i64 k2, .int .i64 k3, .slice none 0 0, .int .i64 k5] ∧ Rest w w' (fun i => i = g) ∧ MFail a2 a3 a4 a5 xs (p : Int) #[.int .i64 k1, .int .i64 k2, .int .i64 k3, .slice none 0 0, .int .i64 k5]) (fun _ _ => 0) rfl ?first ?pass
  case first =>
    go_wp2_with fail
    obtain ⟨W5, hW5, o30, oA0, oV0, o80, o90, bA, hs5⟩ := five_boxes w #[.bool a0, .bool a1, .bool a2, .bool a3, .bool a4, .bool a5] #[.int .i64 0, .bool false, .int .u32 0, .int .u32 0, .slice none 0 0, .slice none 0 0, .slice none 0 0, .int .i64 0, .slice none 0 0] #[.int .i64 0, .int .i64 0, .int .i64 0, .slice none 0 0, .int .i64 0] #[.int .i64 14, .bool false, .int .u32 0, .int .u32 0, .slice none 0 0, .slice none 0 0, .slice none 0 0, .int .i64 0, .slice none 0 0] #[.int .i64 0, .int .i64 0, .int .i64 0, .slice none 0 0, .int .i64 0] 23 30 38 30 38
    rw [← hW5]
    clear hW5
    have rW := (hr.toB.below bA).rdr
    refine (left_any g _ p _ rW).mono ?_
    rintro e w' ⟨rfl, rfl⟩
    go_wp2_with fail
    refine (part_yes g _ p _ _ rW (by omega) (by omega) (by omega) (by simp)).mono ?_
    rintro e w1 ⟨j, rfl, hj, rj, rg, hg1⟩
    have e1 : xs.take ((xs.length : Int)).toNat = xs := by rw [Int.toNat_natCast, List.take_length]
    rw [e1] at rj
    have R1 : Rest w w1 (fun i => i = g) := (Rest.of_below bA _).trans (grown_restM hg1) (fun _ _ e => e)
    have oA1 := oA0.grown hg1 (by simp; omega)
    have oV1 := oV0.grown hg1 (by simp; omega)
    have o31 := o30.grown hg1 (by simp; omega)
    have o81 := o80.grown hg1 (by simp; omega)
    have o91 := o90.grown hg1 (by simp; omega)
    have hs1 := o91.lt
    have hjl := rj.lt
    have hjg : g ≠ j := by omega
    have rB := rj.toB
    clear oA0 oV0 o30 o80 o90 hg1 rW e1 rj rg bA
    go_wp2_with fail
    refine (at_any j _ p _ (rB.below (bl_alloc (bl_refl w1) _)).rdr).mono ?_
    rintro e w' ⟨rfl, rfl⟩
    go_wp2_with fail
    simp only [run_store_fn]
    go_simp
    go_wp2_with fail
    go_at_call 43
    obtain ⟨W4, hW4, o10, o12, o13, b4, hs4⟩ := three_boxes w1 #[.pointer (some ⟨j, 0, none⟩)] #[.int .i64 p] #[.func (.func 42) #[] #[.pointer (some ⟨w.heap.size + 1 + 1 + 1, 0, none⟩), .pointer (some ⟨w.heap.size + 1 + 1 + 1 + 1, 0, none⟩)]] 41 3 60
    rw [← hW4]
    clear hW4
    have R4 := R1.below b4
    have oA4 := oA1.step b4
    have oV4 := oV1.step b4
    have o34 := o31.step b4
    have o84 := o81.step b4
    have o94 := o91.step b4
    have rj4 := (rB.below b4).rdr
    clear oA1 oV1 o31 o81 o91 R1 rB b4
    by_cases h3 : xs.length < 3
    · refine (mread2_short w1.heap.size (w1.heap.size + 1) (w.heap.size + 1 + 1 + 1 + 1) w.heap.size (w1.heap.size + 1 + 1) (w.heap.size + 1 + 1 + 1) j p xs p _ W4 h3 o10 o12 o94 rfl rj4).mono ?_
      rintro e w5 ⟨rfl, rfl⟩
      have R5 := Rest.setRowM W4 (w.heap.size + 1 + 1 + 1 + 1) #[.int .i64 4, .int .i64 3, .int .i64 9, .slice none 0 0, .int .i64 p]
      have oA5 := R5.own oA4 (by omega)
      have oV5 := R5.own oV4 (by omega)
      have oR5 : Own (W4.setRow (w.heap.size + 1 + 1 + 1 + 1) #[.int .i64 4, .int .i64 3, .int .i64 9, .slice none 0 0, .int .i64 p]) (w.heap.size + 1 + 1 + 1 + 1) 38 #[.int .i64 4, .int .i64 3, .int .i64 9, .slice none 0 0, .int .i64 p] := o94.setRow
      have R6 := R4.trans R5 (fun i hi e => by omega)
      have htg : mTag a2 a3 xs = 0 := by unfold mTag; rw [if_pos h3]
      have HX := Lib.hid (And.intro oA5 (And.intro oV5 (And.intro oR5 R6)))
      have HMF := Lib.hid (show MFail a2 a3 a4 a5 xs (p : Int) _ from .inl ⟨htg, rfl⟩)
      clear oA5 oV5 oR5 R6 R5 oA4 oV4 o34 o84 o94 o10 o12 o13 R4 rj4
      go_wp2_with fail
      go_step3
      exact ⟨rfl, _, _, _, _, _, _, _, _, _, _, _, _, _, _, _, _, _, _, _, _, _, _, _, _, _, _, _, _, _, _, _, _, _, _, _, _, _, _, _, _, _, _, _, _, _, rfl, HX.out.1, HX.out.2.1, HX.out.2.2.1, HX.out.2.2.2, HMF.out⟩
    · obtain ⟨x, y, z, zs, rfl⟩ : ∃ x y z zs, xs = x :: y :: z :: zs := by
        match xs, h3 with
        | [], h => exact absurd (by simp) h
        | [_], h => exact absurd (by simp) h
        | [_, _], h => exact absurd (by simp) h
        | x :: y :: z :: zs, _ => exact ⟨x, y, z, zs, rfl⟩
      have hmF : mF (x :: y :: z :: zs) = famOf (big [x, y]) z := rfl
      have hzl : zs.length ≤ 100000 := by simp at hl; omega
      cases hfb : famB a2 a3 (famOf (big [x, y]) z)
      · have htg : mTag a2 a3 (x :: y :: z :: zs) = 1 := by unfold mTag; rw [if_neg h3, hmF, if_pos hfb]
        refine (mread2_bad a0 a1 a2 a3 a4 a5 w1.heap.size (w1.heap.size + 1) (w.heap.size + 1 + 1 + 1 + 1) w.heap.size (w1.heap.size + 1 + 1) (w.heap.size + 1 + 1 + 1) j p x y z zs p (.int .i64 14) (.bool false) (.int .u32 0) (.int .u32 0) (.slice none 0 0) (.slice none 0 0) (.slice none 0 0) (.slice none 0 0) _ W4 (hF.rest R4 hgf) hfb o10 o12 o94 rfl o34 o13 o84 rj4 (by omega) (by omega) (by omega)).mono ?_
        rintro e w5 ⟨rfl, oR5, R5⟩
        have oA5 := R5.own oA4 (by omega)
        have oV5 := R5.own oV4 (by omega)
        have R6 := R4.trans R5 (fun i hi e => by omega)
        have HX := Lib.hid (And.intro oA5 (And.intro oV5 (And.intro oR5 R6)))
        have HMF := Lib.hid (show MFail a2 a3 a4 a5 (x :: y :: z :: zs) (p : Int) _ from .inr (.inl ⟨htg, rfl⟩))
        clear oA5 oV5 oR5 R6 R5 oA4 oV4 o34 o84 o94 o10 o12 o13 R4 rj4
        go_wp2_with fail
        go_step3
        exact ⟨rfl, _, _, _, _, _, _, _, _, _, _, _, _, _, _, _, _, _, _, _, _, _, _, _, _, _, _, _, _, _, _, _, _, _, _, _, _, _, _, _, _, _, _, _, _, _, rfl, HX.out.1, HX.out.2.1, HX.out.2.2.1, HX.out.2.2.2, HMF.out⟩
      · have hf12 := famB_12 hfb
        obtain ⟨f, hff⟩ : ∃ f, famOf (big [x, y]) z = f := ⟨_, rfl⟩
        rw [hff] at hfb hf12 hmF
        obtain ⟨rfl, rfl, rfl⟩ := famOf_12 (hrg x (by simp)) (hrg y (by simp)) hff hf12
        clear hff
        refine (mread2_yes a0 a1 a2 a3 a4 a5 w1.heap.size (w1.heap.size + 1) (w.heap.size + 1 + 1 + 1 + 1) w.heap.size (w1.heap.size + 1 + 1) (w.heap.size + 1 + 1 + 1) j y 14 zs p W4 (hF.rest R4 hgf) hf12 hfb o10 o34 o84 rj4 (by omega) (by omega) (by omega)).mono ?_
        rintro e w5 ⟨rfl, o85, rj5, R5⟩
        have oA5 := R5.own oA4 (by omega)
        have oV5 := R5.own oV4 (by omega)
        have o95 := R5.own o94 (by omega)
        have o35 := R5.own o34 (by omega)
        have o105 := R5.own o10 (by omega)
        have o135 := R5.own o13 (by omega)
        have R6 := R4.trans R5 (fun i hi e => by omega)
        clear oA4 oV4 o34 o84 o94 o10 o12 o13 R4 R5 rj4
        have hs6 := R6.size
        have htg1 : ∀ n : Nat, (if (0 :: y :: 1 :: zs : List Int).length < 3 then 0 else if famB a2 a3 (mF (0 :: y :: 1 :: zs)) = false then 1 else n) = n := fun n => by rw [if_neg h3, hmF, hfb]; rfl
        rcases zs with _ | ⟨n, t⟩
        · have htg : mTag a2 a3 [0, y, 1] = 2 := by unfold mTag; rw [htg1, if_pos (.inl (by simp))]
          go_wp2_with fail
          refine (mread3_no1 w1.heap.size (w.heap.size + 1 + 1 + 1) (w1.heap.size + 1 + 1) (w.heap.size + 1 + 1 + 1 + 1) j y 14 (p + 3) _ w5 o105 o85 o135 o95 rfl rj5).mono ?_
          rintro e w6 ⟨rfl, oR6, R7⟩
          have oA6 := R7.own oA5 (by omega)
          have oV6 := R7.own oV5 (by omega)
          have R8 := R6.trans R7 (fun i hi e => by omega)
          have HX := Lib.hid (And.intro oA6 (And.intro oV6 (And.intro oR6 R8)))
          have HMF := Lib.hid (show MFail a2 a3 a4 a5 [0, y, 1] (p : Int) _ from .inr (.inr (.inl ⟨htg, by rw [hmF]⟩)))
          clear oA6 oV6 oR6 R8 R7 oA5 oV5 o95 o35 o105 o135 R6 rj5 o85
          go_wp2_with fail
          go_step3
          exact ⟨rfl, _, _, _, _, _, _, _, _, _, _, _, _, _, _, _, _, _, _, _, _, _, _, _, _, _, _, _, _, _, _, _, _, _, _, _, _, _, _, _, _, _, _, _, _, _, rfl, HX.out.1, HX.out.2.1, HX.out.2.2.1, HX.out.2.2.2, HMF.out⟩
        · have hn := hrg n (by simp)
          obtain ⟨n3, rfl⟩ : ∃ n3 : Nat, n = (n3 : Int) := ⟨n.toNat, by omega⟩
          have hmN : mN (0 :: y :: 1 :: (n3 : Int) :: t) = n3 := by show ((n3 : Int)).toNat = n3; omega
          cases hh : hopB y n3
          · have htg : mTag a2 a3 (0 :: y :: 1 :: (n3 : Int) :: t) = 2 := by unfold mTag; rw [htg1, hmN, hmF, if_pos (.inr (.inl hh))]
            go_wp2_with fail
            refine (mread3_no2 w1.heap.size (w.heap.size + 1 + 1 + 1) (w1.heap.size + 1 + 1) (w.heap.size + 1 + 1 + 1 + 1) j y 14 n3 t hh (by omega) (by simp at hzl; omega) (p + 3) _ w5 o105 o85 o135 o95 rfl rj5 (by omega)).mono ?_
            rintro e w6 ⟨rfl, oR6, R7⟩
            have oA6 := R7.own oA5 (by omega)
            have oV6 := R7.own oV5 (by omega)
            have R8 := R6.trans R7 (fun i hi e => by omega)
            have HX := Lib.hid (And.intro oA6 (And.intro oV6 (And.intro oR6 R8)))
            have HMF := Lib.hid (show MFail a2 a3 a4 a5 (0 :: y :: 1 :: (n3 : Int) :: t) (p : Int) _ from .inr (.inr (.inl ⟨htg, by rw [hmF]⟩)))
            clear oA6 oV6 oR6 R8 R7 oA5 oV5 o95 o35 o105 o135 R6 rj5 o85
            go_wp2_with fail
            go_step3
            exact ⟨rfl, _, _, _, _, _, _, _, _, _, _, _, _, _, _, _, _, _, _, _, _, _, _, _, _, _, _, _, _, _, _, _, _, _, _, _, _, _, _, _, _, _, _, _, _, _, rfl, HX.out.1, HX.out.2.1, HX.out.2.2.1, HX.out.2.2.2, HMF.out⟩
          · have hn32 := hop_32 hh
            by_cases hlt : t.length < n3
            · have htg : mTag a2 a3 (0 :: y :: 1 :: (n3 : Int) :: t) = 2 := by unfold mTag; rw [htg1, hmN, hmF, if_pos (.inr (.inr (by simp; omega)))]
              go_wp2_with fail
              refine (mread3_no3 w1.heap.size (w.heap.size + 1 + 1 + 1) (w1.heap.size + 1 + 1) (w.heap.size + 1 + 1 + 1 + 1) j y 14 n3 t hh hn32 hlt (p + 3) _ w5 o105 o85 o135 o95 rfl rj5 (by omega)).mono ?_
              rintro e w6 ⟨rfl, oR6, R7⟩
              have oA6 := R7.own oA5 (by omega)
              have oV6 := R7.own oV5 (by omega)
              have R8 := R6.trans R7 (fun i hi e => by omega)
              have HX := Lib.hid (And.intro oA6 (And.intro oV6 (And.intro oR6 R8)))
              have HMF := Lib.hid (show MFail a2 a3 a4 a5 (0 :: y :: 1 :: (n3 : Int) :: t) (p : Int) _ from .inr (.inr (.inl ⟨htg, by rw [hmF]⟩)))
              clear oA6 oV6 oR6 R8 R7 oA5 oV5 o95 o35 o105 o135 R6 rj5 o85
              go_wp2_with fail
              go_step3
              exact ⟨rfl, _, _, _, _, _, _, _, _, _, _, _, _, _, _, _, _, _, _, _, _, _, _, _, _, _, _, _, _, _, _, _, _, _, _, _, _, _, _, _, _, _, _, _, _, _, rfl, HX.out.1, HX.out.2.1, HX.out.2.2.1, HX.out.2.2.2, HMF.out⟩
            · have hnt : ¬ ((0 :: y :: 1 :: (n3 : Int) :: t : List Int).length < 4 ∨ hopB y n3 = false ∨ (0 :: y :: 1 :: (n3 : Int) :: t : List Int).length < 4 + n3) := by
                rw [hh]
                simp
                omega
              by_cases heq : t.length = n3
              · have htg : mTag a2 a3 (0 :: y :: 1 :: (n3 : Int) :: t) = 3 := by unfold mTag; rw [htg1, hmN, hmF, if_neg hnt, if_pos (by simp; omega)]
                go_wp2_with fail
                refine (mread3_no4 w1.heap.size (w.heap.size + 1 + 1 + 1) (w1.heap.size + 1 + 1) (w.heap.size + 1 + 1 + 1 + 1) j y 14 n3 t hh hn32 heq (p + 3) _ w5 o105 o85 o135 o95 rfl rj5 (by omega)).mono ?_
                rintro e w6 ⟨rfl, oR6, R7⟩
                have oA6 := R7.own oA5 (by omega)
                have oV6 := R7.own oV5 (by omega)
                have R8 := R6.trans R7 (fun i hi e => by omega)
                have HX := Lib.hid (And.intro oA6 (And.intro oV6 (And.intro oR6 R8)))
                have HMF := Lib.hid (show MFail a2 a3 a4 a5 (0 :: y :: 1 :: (n3 : Int) :: t) (p : Int) _ from .inr (.inr (.inr (.inl ⟨htg, by rw [hmF, hmN]⟩))))
                clear oA6 oV6 oR6 R8 R7 oA5 oV5 o95 o35 o105 o135 R6 rj5 o85
                go_wp2_with fail
                go_step3
                exact ⟨rfl, _, _, _, _, _, _, _, _, _, _, _, _, _, _, _, _, _, _, _, _, _, _, _, _, _, _, _, _, _, _, _, _, _, _, _, _, _, _, _, _, _, _, _, _, _, rfl, HX.out.1, HX.out.2.1, HX.out.2.2.1, HX.out.2.2.2, HMF.out⟩
              · have htg : mTag a2 a3 (0 :: y :: 1 :: (n3 : Int) :: t) = 4 := by unfold mTag; rw [htg1, hmN, hmF, if_neg hnt, if_neg (by simp; omega)]
                obtain ⟨bs, r, G, rfl, hbl⟩ : ∃ bs r G, t = bs ++ (r :: G) ∧ bs.length = n3 := by
                  refine ⟨t.take n3, nth t n3, t.drop (n3 + 1), ?_, by rw [List.length_take]; omega⟩
                  rw [show nth t n3 = t[n3]'(by omega) by simp [nth, List.getElem?_eq_getElem (show n3 < t.length by omega)], ← List.drop_eq_getElem_cons (by omega), List.take_append_drop]
                have hG : (0 :: y :: 1 :: (n3 : Int) :: (bs ++ (r :: G)) : List Int).drop (5 + n3) = G := by
                  rw [show 5 + n3 = n3 + 1 + 4 by omega]
                  show (bs ++ (r :: G)).drop (n3 + 1) = G
                  rw [← hbl, show bs ++ r :: G = (bs ++ [r]) ++ G by simp, show bs.length + 1 = (bs ++ [r]).length by simp, List.drop_left]
                have hBs : ((0 :: y :: 1 :: (n3 : Int) :: (bs ++ (r :: G)) : List Int).drop 4).take n3 = bs := by
                  show (bs ++ (r :: G)).take n3 = bs
                  rw [← hbl, List.take_left]
                have hGl : G.length ≤ 100000 := by simp at hzl; omega
                go_wp2_with fail
                refine (mread3_any w1.heap.size (w.heap.size + 1 + 1 + 1) (w1.heap.size + 1 + 1) j y 14 r n3 bs G (p + 3) w5 hh hn32 hbl o105 o85 rj5 (by omega) (by omega)).mono ?_
                rintro e w6 ⟨q, rfl, o86, hby6, hq6, tq6, rj6, R6'⟩
                have oA6 := R6'.own oA5 (by omega)
                have oV6 := R6'.own oV5 (by omega)
                have o96 := R6'.own o95 (by omega)
                have o36 := R6'.own o35 (by omega)
                have o106 := R6'.own o105 (by omega)
                have o136 := R6'.own o135 (by omega)
                have R7 := R6.trans R6' (fun i hi e => by omega)
                clear oA5 oV5 o95 o35 o105 o135 R6 R6' o85 rj5
                have hs7 := R7.size
                go_wp2_with fail
                refine (mread4_any a0 a1 a2 a3 a4 a5 w1.heap.size (w.heap.size + 1 + 1 + 1) w.heap.size (w1.heap.size + 1 + 1) j y 14 (some ⟨q, 0, none⟩) n3 n3 G (w.heap.size + 1 + 1 + 1 + 1) _ (p + 3 + 1 + n3 + 1) w6 o106 o36 o86 o136 o96 rfl rj6 (by omega) (by omega)).mono ?_
                rintro e w7 (⟨rs, A4, c4, rfl, hps, o87, hro, R7'⟩ | ⟨q4, rs, rfl, hq4, hps, hon, oR7, R7'⟩)
                · have oA7 := R7'.own oA6 (by omega)
                  have oV7 := R7'.own oV6 (by omega)
                  have o97 := R7'.own o96 (by omega)
                  have tj6 := rdr_typedK rj6
                  have hby7 := (hby6.rest R7' (Nat.le_refl _) (fun a ha e => by
                    cases ha
                    rcases e with e | e
                    · have e2 : q = j := e
                      exact mpl_type3 (Typed.ne_ (e2 ▸ tq6) tj6)
                    · have e2 : q = w.heap.size + 1 + 1 + 1 := e
                      exact mpl_type (Typed.ne_ (e2 ▸ tq6) o86.typed))).more R7'.size
                  have R8 := R7.trans R7' (fun i hi e => by omega)
                  clear oA6 oV6 o96 o36 o106 o136 R7 R7' o86 rj6 hby6 tq6 tj6
                  have hs8 := R8.size
                  have ha0 := oA7.cell (i := 0) (v := .int .i64 0) rfl
                  have fa0 := oA7.frozen 0
                  have ha1 := oA7.cell (i := 1) (v := .bool false) rfl
                  have fa1 := oA7.frozen 1
                  have ha2 := oA7.cell (i := 2) (v := .int .u32 0) rfl
                  have fa2 := oA7.frozen 2
                  have ha3 := oA7.cell (i := 3) (v := .int .u32 0) rfl
                  have fa3 := oA7.frozen 3
                  have ha4 := oA7.cell (i := 4) (v := .slice none 0 0) rfl
                  have fa4 := oA7.frozen 4
                  have ha5 := oA7.cell (i := 5) (v := .slice none 0 0) rfl
                  have fa5 := oA7.frozen 5
                  have ha6 := oA7.cell (i := 6) (v := .slice none 0 0) rfl
                  have fa6 := oA7.frozen 6
                  have ha7 := oA7.cell (i := 7) (v := .int .i64 0) rfl
                  have fa7 := oA7.frozen 7
                  have ha8 := oA7.cell (i := 8) (v := .slice none 0 0) rfl
                  have fa8 := oA7.frozen 8
                  have hv0 := oV7.cell (i := 0) (v := .int .i64 0) rfl
                  have fv0 := oV7.frozen 0
                  have hv1 := oV7.cell (i := 1) (v := .int .i64 0) rfl
                  have fv1 := oV7.frozen 1
                  have hv2 := oV7.cell (i := 2) (v := .int .i64 0) rfl
                  have fv2 := oV7.frozen 2
                  have hv3 := oV7.cell (i := 3) (v := .slice none 0 0) rfl
                  have fv3 := oV7.frozen 3
                  have hv4 := oV7.cell (i := 4) (v := .int .i64 0) rfl
                  have fv4 := oV7.frozen 4
                  have hr0 := o97.cell (i := 0) (v := .int .i64 0) rfl
                  have hr1 := o97.cell (i := 1) (v := .int .i64 0) rfl
                  have hr2 := o97.cell (i := 2) (v := .int .i64 0) rfl
                  have hr3 := o97.cell (i := 3) (v := .slice none 0 0) rfl
                  have hr4 := o97.cell (i := 4) (v := .int .i64 0) rfl
                  obtain ⟨ht0, ht1, ht2, ht3, ht4, ht5, ht6, ht7, ht8⟩ := at_cells o87
                  have la := oA7.lt
                  have lv := oV7.lt
                  have lr := o97.lt
                  have lt8 := o87.lt
                  have HX := Lib.hid (And.intro oA7 (And.intro oV7 R8))
                  have HY := Lib.hid (And.intro hby7 hro)
                  have HPS := Lib.hid hps
                  clear hps
                  clear oA7 oV7 o97 o87 R8 hby7 hro
                  go_wp2_with fail
                  go_region
                  obtain ⟨W, hW, F1, F2, F3, F4⟩ := mst_all2 w7 w (w.heap.size + 1) 30 38 (.int .i64 0) (.bool false) (.int .u32 0) (.int .u32 0) (.slice none 0 0) (.slice none 0 0) (.slice none 0 0) (.int .i64 0) (.slice none 0 0) (.int .i64 0) (.int .i64 0) (.int .i64 0) (.slice none 0 0) (.int .i64 0) (.int .i64 14) (.bool false) (.int .u32 0) (.int .u32 0) (.slice none 0 0) (.slice none 0 0) (.slice (some ⟨q, 0, none⟩) n3 n3) (.int .i64 y) (.slice A4 rs.length c4) (.int .i64 0) (.int .i64 0) (.int .i64 0) (.slice none 0 0) (.int .i64 0) _ HX.out.1 HX.out.2.1 HX.out.2.2 (by omega)
                  rw [← hW]
                  have HB := (KeepX.bytes (some ⟨q, 0, none⟩) n3 bs) w7 W HY.out.1 F4.size (fun i hi h1 h2 => F4.block i hi (fun e => by
                    rcases e with e | e
                    · exact h1 (e ▸ HX.out.1)
                    · exact h2 (e ▸ HX.out.2.1)))
                  have HRo := (KeepX.routes A4 rs.length rs) w7 W HY.out.2 F4.size (fun i hi h1 h2 => F4.block i hi (fun e => by
                    rcases e with e | e
                    · exact h1 (e ▸ HX.out.1)
                    · exact h2 (e ▸ HX.out.2.1)))
                  clear hW HX HY F4 ha0 fa0 ha1 fa1 ha2 fa2 ha3 fa3 ha4 fa4 ha5 fa5 ha6 fa6 ha7 fa7 ha8 fa8 hv0 fv0 hv1 fv1 hv2 fv2 hv3 fv3 hv4 fv4 hr0 hr1 hr2 hr3 hr4 la lv lr lt8 ht0 ht1 ht2 ht3 ht4 ht5 ht6 ht7 ht8
                  go_wp2_with fail
                  dsimp only [Exit.jump]
                  refine bodyPost_ret (results_mp2 (p := 6) (q := 7) (fn := Tryd.f14) rfl _ _ (w.heap.size + 1) 30 #[.int .i64 14, .bool false, .int .u32 0, .int .u32 0, .slice none 0 0, .slice none 0 0, .slice (some ⟨q, 0, none⟩) n3 n3, .int .i64 y, .slice A4 rs.length c4] _ (w.heap.size + 1 + 1) 38 #[.int .i64 0, .int .i64 0, .int .i64 0, .slice none 0 0, .int .i64 0] _ rfl F1 at_descM rfl (at_infoM _ _ _ _ _ _ _ _ _) rfl F2 vd_descM rfl (vd_infoM _ _ _ _ _)) rfl ⟨F3, .inr ⟨_, rfl, htg, rs, (some ⟨q, 0, none⟩), n3, A4, c4, by rw [hmN, hG, hmF]; exact HPS.out, by rw [hmN, hmF]; rfl, by rw [hmN, hBs]; exact HB, HRo⟩⟩
                · have oA7 := R7'.own oA6 (by omega)
                  have oV7 := R7'.own oV6 (by omega)
                  have R8 := R7.trans R7' (fun i hi e => by omega)
                  have HX := Lib.hid (And.intro oA7 (And.intro oV7 (And.intro oR7 R8)))
                  have HMF := Lib.hid (show MFail a2 a3 a4 a5 (0 :: y :: 1 :: (n3 : Int) :: (bs ++ (r :: G))) (p : Int) #[.int .i64 3, .int .i64 0, .int .i64 y, .slice none 0 0, .int .i64 ((p + 3 + 1 + n3 + 1 + q4 : Nat) : Int)] from .inr (.inr (.inr (.inr ⟨htg, q4, rs, by rw [hmN, hG]; exact hq4, by rw [hmN, hG, hmF]; exact hps, by rw [hmN, hG, hmF]; exact hon, by rw [hmF, hmN, show (p : Int) + 5 + (n3 : Int) + (q4 : Int) = ((p + 3 + 1 + n3 + 1 + q4 : Nat) : Int) by omega]⟩))))
                  clear oA7 oV7 oR7 R8 R7 R7' oA6 oV6 o96 o36 o106 o136 rj6 o86 hby6 tq6
                  go_wp2_with fail
                  go_step3
                  exact ⟨rfl, _, _, _, _, _, _, _, _, _, _, _, _, _, _, _, _, _, _, _, _, _, _, _, _, _, _, _, _, _, _, _, _, _, _, _, _, _, _, _, _, _, _, _, _, _, rfl, HX.out.1, HX.out.2.1, HX.out.2.2.1, HX.out.2.2.2, HMF.out⟩
  case pass =>
    rintro a' w' ⟨u4, u5, u10, u11, u12, u13, u14, u15, u16, u17, u18, u19, u20, u21, u22, u23, u24, u25, u26, u27, u28, u29, u30, u31, u32, u33, u34, u35, u36, u37, u38, u39, u40, u41, u42, u43, u44, u45, u46, u47, u48, k1, k2, k3, k5, rfl, oA, oV, oR, R, hMF⟩
    have ha0 := oA.cell (i := 0) (v := .int .i64 0) rfl
    have fa0 := oA.frozen 0
    have ha1 := oA.cell (i := 1) (v := .bool false) rfl
    have fa1 := oA.frozen 1
    have ha2 := oA.cell (i := 2) (v := .int .u32 0) rfl
    have fa2 := oA.frozen 2
    have ha3 := oA.cell (i := 3) (v := .int .u32 0) rfl
    have fa3 := oA.frozen 3
    have ha4 := oA.cell (i := 4) (v := .slice none 0 0) rfl
    have fa4 := oA.frozen 4
    have ha5 := oA.cell (i := 5) (v := .slice none 0 0) rfl
    have fa5 := oA.frozen 5
    have ha6 := oA.cell (i := 6) (v := .slice none 0 0) rfl
    have fa6 := oA.frozen 6
    have ha7 := oA.cell (i := 7) (v := .int .i64 0) rfl
    have fa7 := oA.frozen 7
    have ha8 := oA.cell (i := 8) (v := .slice none 0 0) rfl
    have fa8 := oA.frozen 8
    have hv0 := oV.cell (i := 0) (v := .int .i64 0) rfl
    have fv0 := oV.frozen 0
    have hv1 := oV.cell (i := 1) (v := .int .i64 0) rfl
    have fv1 := oV.frozen 1
    have hv2 := oV.cell (i := 2) (v := .int .i64 0) rfl
    have fv2 := oV.frozen 2
    have hv3 := oV.cell (i := 3) (v := .slice none 0 0) rfl
    have fv3 := oV.frozen 3
    have hv4 := oV.cell (i := 4) (v := .int .i64 0) rfl
    have fv4 := oV.frozen 4
    have hr0 := oR.cell (i := 0) (v := .int .i64 k1) rfl
    have hr1 := oR.cell (i := 1) (v := .int .i64 k2) rfl
    have hr2 := oR.cell (i := 2) (v := .int .i64 k3) rfl
    have hr3 := oR.cell (i := 3) (v := .slice none 0 0) rfl
    have hr4 := oR.cell (i := 4) (v := .int .i64 k5) rfl
    have la := oA.lt
    have lv := oV.lt
    have lr := oR.lt
    have HX := Lib.hid (And.intro oA (And.intro oV R))
    clear oA oV oR R
    go_wp2_with fail
    go_region
    obtain ⟨W, hW, F1, F2, F3⟩ := mst_all w' w (w.heap.size + 1) 30 38 (.int .i64 0) (.bool false) (.int .u32 0) (.int .u32 0) (.slice none 0 0) (.slice none 0 0) (.slice none 0 0) (.int .i64 0) (.slice none 0 0) (.int .i64 0) (.int .i64 0) (.int .i64 0) (.slice none 0 0) (.int .i64 0) (.int .i64 0) (.bool false) (.int .u32 0) (.int .u32 0) (.slice none 0 0) (.slice none 0 0) (.slice none 0 0) (.int .i64 0) (.slice none 0 0) (.int .i64 k1) (.int .i64 k2) (.int .i64 k3) (.slice none 0 0) (.int .i64 k5) _ HX.out.1 HX.out.2.1 HX.out.2.2 (by omega)
    rw [← hW]
    clear hW HX ha0 fa0 ha1 fa1 ha2 fa2 ha3 fa3 ha4 fa4 ha5 fa5 ha6 fa6 ha7 fa7 ha8 fa8 hv0 fv0 hv1 fv1 hv2 fv2 hv3 fv3 hv4 fv4 hr0 hr1 hr2 hr3 hr4 la lv lr
    go_wp2_with fail
    dsimp only [Exit.jump]
    refine bodyPost_ret (results_mp2 (p := 6) (q := 7) (fn := Tryd.f14) rfl _ _ (w.heap.size + 1) 30 #[.int .i64 0, .bool false, .int .u32 0, .int .u32 0, .slice none 0 0, .slice none 0 0, .slice none 0 0, .int .i64 0, .slice none 0 0] _ (w.heap.size + 1 + 1) 38 #[.int .i64 k1, .int .i64 k2, .int .i64 k3, .slice none 0 0, .int .i64 k5] _ rfl F1 at_descM rfl (at_infoM _ _ _ _ _ _ _ _ _) rfl F2 vd_descM rfl (vd_infoM _ _ _ _ _)) rfl ⟨F3, .inl ⟨_, rfl, hMF⟩⟩
end Go.Proofs.YtmlmgjdjbpipcaaDoor

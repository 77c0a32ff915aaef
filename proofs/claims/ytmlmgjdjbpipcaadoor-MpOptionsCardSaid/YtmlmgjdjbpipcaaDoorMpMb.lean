/- XMpMb: XHdSQ, XMpG, XMpH, XRv, XMpI in one text -/
import Derived.Test.YtmlmgjdjbpipcaaDoorMpC
import Derived.Test.YtmlmgjdjbpipcaaDoorBstr
import Derived.Laws.BytesArg
import Derived.Test.YtmlmgjdjbpipcaaDoorMpF
import Derived.Test.YtmlmgjdjbpipcaaDoorMpE
import Derived.Test.YtmlmgjdjbpipcaaDoorMpD
import Derived.Deep.DeepCutAuto
import Derived.Deep.RegionHeld3
/- (as XHdS, with few imports) peerageref01.Same, peerageref04.Same at what is equal -/
namespace Go.Proofs.YtmlmgjdjbpipcaaDoor
open Go.RowKit

set_option maxRecDepth 100000 in
theorem rsame1_same (A A2 : Option Addr) (n n2 c c2 : Nat) (xs : List Int) (w : World) (B B2 : Nat) (hx : Bytes w B A n xs) (hy : Bytes w B2 A2 n2 xs) :
    Calls Tryd.prog 49 #[.slice A n c, .slice A2 n2 c2] w fun e w' => e = .returned (.bool true) ∧ w = w' := by
  have h1 := bytes_str (c := c) hx
  have h2 := bytes_str (c := c2) hy
  generalize strOfNums xs = s at h1 h2
  go_enter Tryd.func49, Tryd.ntmps49
  go_wp2
  go_ret
  exact ⟨by simp, rfl⟩
set_option maxRecDepth 100000 in
set_option maxHeartbeats 800000 in
theorem vsame_same (a b c d : Int) (A A2 : Option Addr) (n n2 c1 c2 : Nat) (xs : List Int) (w : World) (hx : Bytes w w.heap.size A n xs) (hy : Bytes w w.heap.size A2 n2 xs) :
    Calls Tryd.prog 16 #[.agg #[.int .i64 a, .int .i64 b, .int .i64 c, .slice A n c1, .int .i64 d], .agg #[.int .i64 a, .int .i64 b, .int .i64 c, .slice A2 n2 c2, .int .i64 d]] w fun e w' => e = .returned (.bool true) ∧ Below w.heap.size w w' := by
  have hb := bl_alloc (bl_alloc (bl_refl w) (.cells #[.int .i64 a, .int .i64 b, .int .i64 c, .slice A n c1, .int .i64 d] 38)) (.cells #[.int .i64 a, .int .i64 b, .int .i64 c, .slice A2 n2 c2, .int .i64 d] 38)
  have hx1 := hx.below hb
  have hy1 := hy.below hb
  have qa : (a == a) = true := by simp
  have qb : (b == b) = true := by simp
  have qc : (c == c) = true := by simp
  have qd : (d == d) = true := by simp
  go_enter Tryd.func16, Tryd.ntmps16
  go_wp2_with fail
  refine (rsame1_same _ _ _ _ _ _ _ _ _ _ hx1 hy1).mono ?_
  rintro e w1 ⟨rfl, rfl⟩
  go_wp2
  go_ret
  exact ⟨rfl, hb⟩
end Go.Proofs.YtmlmgjdjbpipcaaDoor

/- peerageref12.Same of two empty attributes -/
namespace Go.Proofs.YtmlmgjdjbpipcaaDoor
open Go.RowKit

def atE : At := ⟨0, false, 0, 0, none, 0, 0, none, 0, 0, none, 0, 0, 0, none, 0, 0⟩
set_option maxRecDepth 100000 in
theorem rsame3_nil (w : World) : Calls Tryd.prog 50 #[.slice none 0 0, .slice none 0 0] w fun e w' => e = .returned (.bool true) ∧ w = w' := by
  go_enter Tryd.func50, Tryd.ntmps50
  go_wp2
  go_loopw [5] (fun i wr => i = .int .i64 0 ∧ wr = w) (fun _ _ => 0)
  case atStart => exact ⟨rfl, rfl⟩
  case round =>
    obtain ⟨rfl, rfl⟩ := hrel
    go_wp2
    go_ret
    exact ⟨rfl, rfl⟩
set_option maxRecDepth 100000 in
set_option maxHeartbeats 1600000 in
theorem rsame12_zero (w : World) : Calls Tryd.prog 17 #[.agg #[.int .i64 0, .bool false, .int .u32 0, .int .u32 0, .slice none 0 0, .slice none 0 0, .slice none 0 0, .int .i64 0, .slice none 0 0], .agg #[.int .i64 0, .bool false, .int .u32 0, .int .u32 0, .slice none 0 0, .slice none 0 0, .slice none 0 0, .int .i64 0, .slice none 0 0]] w fun e w' => e = .returned (.bool true) ∧ Below w.heap.size w w' := by
  have b2 := bl_alloc (bl_alloc (bl_refl w) (.cells #[.int .i64 0, .bool false, .int .u32 0, .int .u32 0, .slice none 0 0, .slice none 0 0, .slice none 0 0, .int .i64 0, .slice none 0 0] 30)) (.cells #[.int .i64 0, .bool false, .int .u32 0, .int .u32 0, .slice none 0 0, .slice none 0 0, .slice none 0 0, .int .i64 0, .slice none 0 0] 30)
  have o2 := Own.new (w.alloc (.cells #[.int .i64 0, .bool false, .int .u32 0, .int .u32 0, .slice none 0 0, .slice none 0 0, .slice none 0 0, .int .i64 0, .slice none 0 0] 30)) 30 #[.int .i64 0, .bool false, .int .u32 0, .int .u32 0, .slice none 0 0, .slice none 0 0, .slice none 0 0, .int .i64 0, .slice none 0 0]
  have hbe : bareM atE = true := by simp [bareM, atE]
  have H : Hid (∀ W, Calls Tryd.prog 51 #[.agg #[.int .i64 0, .bool false, .int .u32 0, .int .u32 0, .slice none 0 0, .slice none 0 0, .slice none 0 0, .int .i64 0, .slice none 0 0]] W fun e w' => e = .returned (.bool true) ∧ Below W.heap.size W w') := Lib.hid (fun W => by
    have h := rmbare_any atE W
    rw [hbe] at h
    exact h)
  go_enter Tryd.func17, Tryd.ntmps17
  go_wp2_with fail
  refine (rsame1_same none none 0 0 0 0 [] _ 0 0 (Bytes.nil _ _ _) (Bytes.nil _ _ _)).mono ?_
  rintro e w' ⟨rfl, rfl⟩
  go_wp2_with fail
  refine (rsame3_nil _).mono ?_
  rintro e w' ⟨rfl, rfl⟩
  go_wp2_with fail
  refine (H.out _).mono ?_
  rintro e w1 ⟨rfl, hb1⟩
  have p2 := o2.step hb1
  have b3 := bl_trans b2 hb1
  have hs : (w.alloc (.cells #[.int .i64 0, .bool false, .int .u32 0, .int .u32 0, .slice none 0 0, .slice none 0 0, .slice none 0 0, .int .i64 0, .slice none 0 0] 30)).heap.size = w.heap.size + 1 := by simp
  rw [hs] at p2
  have c0 := p2.cell (i := 0) (v := .int .i64 0) rfl
  have c1 := p2.cell (i := 1) (v := .bool false) rfl
  have c2 := p2.cell (i := 2) (v := .int .u32 0) rfl
  have c3 := p2.cell (i := 3) (v := .int .u32 0) rfl
  have c4 := p2.cell (i := 4) (v := .slice none 0 0) rfl
  have c5 := p2.cell (i := 5) (v := .slice none 0 0) rfl
  have c6 := p2.cell (i := 6) (v := .slice none 0 0) rfl
  have c7 := p2.cell (i := 7) (v := .int .i64 0) rfl
  have c8 := p2.cell (i := 8) (v := .slice none 0 0) rfl
  have hl := p2.lt
  have B3 := Lib.hid b3
  clear o2 p2 b2 b3 hb1 hs
  go_wp2_with fail
  refine (H.out _).mono ?_
  rintro e w2 ⟨rfl, hb2⟩
  have B4 := Lib.hid (bl_trans B3.out hb2)
  clear c0 c1 c2 c3 c4 c5 c6 c7 c8 hl hb2
  go_wp2
  go_ret
  exact ⟨rfl, B4.out⟩
end Go.Proofs.YtmlmgjdjbpipcaaDoor

/- the shape of the bytes that the reference writes of an attribute that names its routes -/
namespace Go.Proofs.YtmlmgjdjbpipcaaDoor
open Go.RowKit

theorem mpForm_few {add : Bool} {a : At} {bs : List Int} {rs : List Rt} (h : shB add a rs = true) (hb : bs.length = a.n3) (hb2 : ∀ x ∈ bs, 0 ≤ x ∧ x ≤ 255) (h4 : rs.length ≤ 100) (hok : ∀ r ∈ rs, r.Ok) : (∃ zs, mpForm add a bs rs = 0 :: a.f :: 1 :: zs ∧ zs.length ≤ 1000000) ∧ ∀ x ∈ mpForm add a bs rs, 0 ≤ x ∧ x ≤ 255 := by
  obtain ⟨_, hf, _, hk, h14, _⟩ := shB_parts h
  have hfl := formAll_len hk
  have hrange : ∀ x ∈ formAll add rs, 0 ≤ x ∧ x ≤ 255 := by
    intro x hx
    obtain ⟨r, hr, hxr⟩ := List.mem_flatMap.1 hx
    have hro := List.all_eq_true.1 hk r hr
    have hpk : pfxOk r.f r.l r.a = true := by simp only [rtOk, Bool.and_eq_true] at hro; exact hro.1.2
    have hrg := pfxOk_range hpk
    rcases List.mem_append.1 hxr with hx | hx
    · cases add
      · cases hx
      · exact digitsOf_range 4 r.p x hx
    · exact pfxForm_range (hok r hr).1 hrg.1 hrg.2 x hx
  unfold mpForm
  refine ⟨⟨_, rfl, ?_⟩, ?_⟩
  · split
    · rename_i e
      have := h14 e
      simp
      omega
    · simp
      omega
  · intro x hx
    rcases List.mem_append.1 hx with hx | hx
    · simp at hx
      omega
    · rcases List.mem_append.1 hx with hx | hx
      · split at hx
        · rename_i e
          have := h14 e
          rcases List.mem_cons.1 hx with rfl | hx
          · omega
          · rcases List.mem_append.1 hx with hx | hx
            · exact hb2 x hx
            · simp at hx
              omega
        · cases hx
      · exact hrange x hx
theorem mrow_bytes {w : World} {B n c : Nat} {K : Option Addr} {xs : List Int} (h : w.ownsRow B 5 1 (.slice K n c) n (xs.map (Value.int .u8))) (hr : ∀ x ∈ xs, 0 ≤ x ∧ x ≤ 255) : Bytes w w.heap.size K n xs := by
  have hlen : xs.length = n := by simpa using h.1
  exact ⟨hlen.symm, hr, Shows.of_own h⟩
end Go.Proofs.YtmlmgjdjbpipcaaDoor

/- what a drawn region leaves that reads an attribute off new bytes into variables of its own -/
namespace Go.Proofs.YtmlmgjdjbpipcaaDoor
open Go.RowKit

abbrev zA9 : Array Value := #[.int .i64 0, .bool false, .int .u32 0, .int .u32 0, .slice none 0 0, .slice none 0 0, .slice none 0 0, .int .i64 0, .slice none 0 0]
abbrev zV5 : Array Value := #[.int .i64 0, .int .i64 0, .int .i64 0, .slice none 0 0, .int .i64 0]
theorem at_oneV (k : Int) (p : Bool) (N M : Int) (A1 : Option Addr) (n1 c1 : Nat) (A2 : Option Addr) (n2 c2 : Nat) (A3 : Option Addr) (n3 c3 : Nat) (f : Int) (A4 : Option Addr) (n4 c4 : Nat) : (#[Value.int .i64 k, .bool p, .int .u32 N, .int .u32 M, .slice A1 n1 c1, .slice A2 n2 c2, .slice A3 n3 c3, .int .i64 f, .slice A4 n4 c4] : Array Value).all (·.oneCell') = true := by simp [Value.oneCell']
theorem step_store_rowV {P : Program} {ops : Array Oper} {o : Oper} {a : Act} {w : World} {K : Act → World → Prop} {Q : Exit → Act → World → Prop} {E : Prop}
    (hg : o.guard = none) (ty : TypeId) (x y : Operand) (ho : o.op = .store ty x y) (g : Nat) (cells : Array Value) (hx : a.eval x = .pointer (some ⟨g, 0, none⟩)) (hy : a.eval y = .agg cells)
    (t : TypeId) (old : Array Value) (hgd : w.heap[g]? = some (.cells old t (0, 0))) (hi : (P.info? ty).map (·.size) = some cells.size) (hold : old.size = cells.size) (h1 : cells.all (·.oneCell') = true)
    (hK : K (a.put o.dst undef) (w.setRow g cells)) :
    if Region.wanted o (yielded ops a.tmps) = true then Oper.wp P o a w K Q else E := by
  have hw : Region.wanted o (yielded ops a.tmps) = true := by simp [Region.wanted, hg]
  rw [if_pos hw]
  unfold Oper.wp
  simp [execOp, ho, hx, hy, Instr.storeAt, Instr.sureAddr, run_storeVar_row w g t ty old cells hgd hi hold h1, Result.andThen]
  exact hK
/-- It stays so where the blocks of bytes and of routes stay. -/
def KeepX (X : World → Prop) : Prop := ∀ W W' : World, X W → W.heap.size ≤ W'.heap.size → (∀ i, Typed W i 5 ∨ Typed W i 87 → W'.heap[i]? = W.heap[i]?) → X W'
theorem KeepX.true_ : KeepX (fun _ => True) := fun _ _ h _ _ => h
theorem KeepX.below {X : World → Prop} (h : KeepX X) {W W' : World} (hx : X W) (hb : Below W.heap.size W W') : X W' := h W W' hx hb.size (fun i hi => by
  rcases hi with ⟨cs, hi⟩ | ⟨cs, hi⟩
  · exact hb.block i (Array.getElem?_eq_some_iff.1 hi).1
  · exact hb.block i (Array.getElem?_eq_some_iff.1 hi).1)
theorem rv_types : (30 : TypeId) ≠ 38 ∧ (30 : TypeId) ≠ 5 ∧ (38 : TypeId) ≠ 5 ∧ (30 : TypeId) ≠ 87 ∧ (38 : TypeId) ≠ 87 ∧ (30 : TypeId) ≠ 74 ∧ (38 : TypeId) ≠ 74 := by decide
theorem KeepX.row {X : World → Prop} (h : KeepX X) {W : World} {g : Nat} {T : TypeId} {cs : Array Value} (hx : X W) (o : Own W g T cs) (h1 : T ≠ 5) (h2 : T ≠ 87) (Y : Array Value) : X (W.setRow g Y) := h W _ hx (by simp) (fun i hi => by
  refine setRow_other W g i _ (fun e => ?_)
  subst e
  rcases hi with hi | hi
  · exact o.typed.ne hi h1 rfl
  · exact o.typed.ne hi h2 rfl)
/-- What such a region has left so far. -/
def RvSt (w W : World) (xs : List Int) (ab vb rd : Option Nat) (X : World → Prop) (dn : Bool) : Prop :=
  Below w.heap.size w W ∧ (∀ b, ab = some b → w.heap.size ≤ b ∧ Own W b 30 zA9) ∧ (∀ b, vb = some b → w.heap.size ≤ b ∧ Own W b 38 zV5) ∧ (∀ j, rd = some j → w.heap.size ≤ j ∧ Rdr W j xs 0) ∧ (dn = true → X W)
section
variable {w W W' : World} {xs : List Int} {ab vb rd : Option Nat} {X : World → Prop} {dn : Bool}
theorem RvSt.start (h : Below w.heap.size w W) : RvSt w W xs none none none X false := ⟨h, (fun _ h => by cases h), (fun _ h => by cases h), (fun _ h => by cases h), (fun h => by cases h)⟩
theorem RvSt.as_ (hX : KeepX X) (h : RvSt w W xs none vb rd X dn) {n : Nat} (hn : W.heap.size = n) : RvSt w (W.alloc (.cells zA9 30)) xs (some n) vb rd X dn := by
  subst hn
  obtain ⟨h1, h2, h3, h4, h5⟩ := h
  have hb := bl_alloc (bl_refl W) (.cells zA9 30)
  exact ⟨bl_alloc h1 _, (fun b e => by cases e; exact ⟨h1.size, Own.new _ _ _⟩), (fun b e => ⟨(h3 b e).1, (h3 b e).2.step hb⟩), (fun j e => ⟨(h4 j e).1, (h4 j e).2.below hb⟩), (fun e => hX.below (h5 e) hb)⟩
theorem RvSt.vs_ (hX : KeepX X) (h : RvSt w W xs ab none rd X dn) {n : Nat} (hn : W.heap.size = n) : RvSt w (W.alloc (.cells zV5 38)) xs ab (some n) rd X dn := by
  subst hn
  obtain ⟨h1, h2, h3, h4, h5⟩ := h
  have hb := bl_alloc (bl_refl W) (.cells zV5 38)
  exact ⟨bl_alloc h1 _, (fun b e => ⟨(h2 b e).1, (h2 b e).2.step hb⟩), (fun b e => by cases e; exact ⟨h1.size, Own.new _ _ _⟩), (fun j e => ⟨(h4 j e).1, (h4 j e).2.below hb⟩), (fun e => hX.below (h5 e) hb)⟩
theorem RvSt.new_ (h : RvSt w W xs ab vb none X false) {j : Nat} (hj : W.heap.size ≤ j) (hr : Rdr W' j xs 0) (hb : Below W.heap.size W W') : RvSt w W' xs ab vb (some j) X false := by
  obtain ⟨h1, h2, h3, h4, h5⟩ := h
  exact ⟨bl_trans h1 hb, (fun b e => ⟨(h2 b e).1, (h2 b e).2.step hb⟩), (fun b e => ⟨(h3 b e).1, (h3 b e).2.step hb⟩), (fun i e => by cases e; exact ⟨Nat.le_trans h1.size hj, hr⟩), (fun e => by cases e)⟩
theorem rdr_typedV {g p : Nat} (h : Rdr w g xs p) : Typed w g 74 := by
  obtain ⟨A, n, c, ho, _⟩ := h
  exact ho.typed
theorem RvSt.read_ {j : Nat} (h : RvSt w W xs ab vb (some j) X false) (R : Rest W W' (fun i => i = j)) (hx : X W') : RvSt w W' xs ab vb none X true := by
  obtain ⟨h1, h2, h3, h4, h5⟩ := h
  have hj := (h4 j rfl).1
  have ht := rdr_typedV (h4 j rfl).2
  exact ⟨h1.trans (R.to_below h1.size (fun i hi e => by
    have e2 : i = j := e
    omega)), (fun b e => ⟨(h2 b e).1, (h2 b e).2.byR R ht rv_types.2.2.2.2.2.1⟩), (fun b e => ⟨(h3 b e).1, (h3 b e).2.byR R ht rv_types.2.2.2.2.2.2⟩), (fun i e => by cases e), (fun _ => hx)⟩
theorem RvSt.rdr_ {j : Nat} (h : RvSt w W xs ab vb (some j) X dn) : Rdr W j xs 0 := (h.2.2.2.1 j rfl).2
theorem RvSt.le_ {j : Nat} (h : RvSt w W xs ab vb (some j) X dn) : w.heap.size ≤ j := (h.2.2.2.1 j rfl).1
theorem RvSt.a_ {b : Nat} (h : RvSt w W xs (some b) vb rd X dn) : Own W b 30 zA9 := (h.2.1 b rfl).2
theorem RvSt.v_ {b v : Nat} (h : RvSt w W xs (some b) (some v) rd X dn) (Y : Array Value) : Own (W.setRow b Y) v 38 zV5 :=
  (Rest.setRowM W b Y).own (h.2.2.1 v rfl).2 (fun e => (h.2.2.1 v rfl).2.typed.ne h.a_.typed (Ne.symm rv_types.1) e)
theorem RvSt.b1_ {b : Nat} (h : RvSt w W xs (some b) vb rd X dn) (Y : Array Value) : Below w.heap.size w (W.setRow b Y) := bl_setRow h.1 (h.2.1 b rfl).1
theorem RvSt.b2_ {b v : Nat} (h : RvSt w W xs (some b) (some v) rd X dn) (Y Z : Array Value) : Below w.heap.size w ((W.setRow b Y).setRow v Z) := bl_setRow (h.b1_ Y) (h.2.2.1 v rfl).1
/-- What it leaves in the end. -/
def RvR (w wx : World) (Y Z : Array Value) (X : World → Prop) (x y : Value) : Prop :=
  ∃ b v, x = .pointer (some ⟨b, 0, none⟩) ∧ y = .pointer (some ⟨v, 0, none⟩) ∧ Own wx b 30 Y ∧ Own wx v 38 Z ∧ Below w.heap.size w wx ∧ X wx
theorem RvSt.fin_ {b v : Nat} (hX : KeepX X) (h : RvSt w W xs (some b) (some v) rd X true) (Y Z : Array Value) : RvR w ((W.setRow b Y).setRow v Z) Y Z X (.pointer (some ⟨b, 0, none⟩)) (.pointer (some ⟨v, 0, none⟩)) :=
  ⟨b, v, rfl, rfl, (Rest.setRowM (W.setRow b Y) v Z).own h.a_.setRow (fun e => (h.v_ Y).typed.ne (h.a_.setRow (cs' := Y)).typed (Ne.symm rv_types.1) e.symm), (h.v_ Y).setRow, h.b2_ Y Z, hX.row (hX.row (h.2.2.2.2 rfl) h.a_ rv_types.2.1 rv_types.2.2.2.1 Y) (h.v_ Y) rv_types.2.2.1 rv_types.2.2.2.2.1 Z⟩
end
end Go.Proofs.YtmlmgjdjbpipcaaDoor

/- MpOptions: the whole walk -/
namespace Go.Proofs.YtmlmgjdjbpipcaaDoor
open Go.RowKit

theorem m8_of {U W : World} {b : Nat} {S T : TypeId} {a0 a1 a2 a3 a4 a5 : Bool} {k x1 x2 x3 x4 x5 x6 x7 x8 : Value} (o1 : Own U b S #[.bool a0, .bool a1, .bool a2, .bool a3, .bool a4, .bool a5]) (o2 : Own U (b + 1) T #[k, x1, x2, x3, x4, x5, x6, x7, x8]) (hb : Below U.heap.size U W) : W.cell? ⟨b, 0, none⟩ = some (.bool a0) ∧ W.cell? ⟨b, 1, none⟩ = some (.bool a1) ∧ W.cell? ⟨b, 2, none⟩ = some (.bool a2) ∧ W.cell? ⟨b, 3, none⟩ = some (.bool a3) ∧ W.cell? ⟨b, 4, none⟩ = some (.bool a4) ∧ W.cell? ⟨b, 5, none⟩ = some (.bool a5) ∧ W.cell? ⟨b + 1, 0, none⟩ = some k :=
  ⟨(o1.step hb).cell rfl, (o1.step hb).cell rfl, (o1.step hb).cell rfl, (o1.step hb).cell rfl, (o1.step hb).cell rfl, (o1.step hb).cell rfl, (o2.step hb).cell rfl⟩
theorem six_cells {W : World} {g : Nat} {T : TypeId} {a b c d e f : Value} (o : Own W g T #[a, b, c, d, e, f]) : W.cell? ⟨g, 0, none⟩ = some a ∧ W.cell? ⟨g, 1, none⟩ = some b ∧ W.cell? ⟨g, 2, none⟩ = some c ∧ W.cell? ⟨g, 3, none⟩ = some d ∧ W.cell? ⟨g, 4, none⟩ = some e ∧ W.cell? ⟨g, 5, none⟩ = some f := ⟨o.cell rfl, o.cell rfl, o.cell rfl, o.cell rfl, o.cell rfl, o.cell rfl⟩
theorem vd_cells {W : World} {g : Nat} {T : TypeId} {a b c d e : Value} (o : Own W g T #[a, b, c, d, e]) : W.cell? ⟨g, 0, none⟩ = some a ∧ W.cell? ⟨g, 1, none⟩ = some b ∧ W.cell? ⟨g, 2, none⟩ = some c ∧ W.cell? ⟨g, 3, none⟩ = some d ∧ W.cell? ⟨g, 4, none⟩ = some e := ⟨o.cell rfl, o.cell rfl, o.cell rfl, o.cell rfl, o.cell rfl⟩
theorem mv_no {a2 a3 a4 a5 : Bool} {a : At} {rs : List Rt} (h : famB a2 a3 a.f = false) : mvB a2 a3 a4 a5 a rs = false := by
  unfold mvB
  rw [h]
  simp
theorem mv_yes {a2 a3 a4 a5 : Bool} {a : At} {rs : List Rt} (h : rmvB a2 a3 a4 a5 a rs = true) : mvB a2 a3 a4 a5 a rs = true := by
  unfold rmvB shB bareM at h
  simp only [Bool.and_eq_true, decide_eq_true_eq] at h
  obtain ⟨h1, h2, h3, ⟨⟨h4, h5⟩, ⟨h6, h7⟩, h8⟩, h9, h10⟩ := h
  have hk : a.k = 14 ∨ a.k = 15 := by unfold hasB at h2; exact of_decide_eq_true h2
  have hh : hop2B a = true := by
    unfold hop2B
    rcases hk with e | e
    · rw [if_pos e]
      rw [if_neg (by omega)] at h10
      exact h10
    · rw [if_neg (by omega)]
      rw [if_pos e] at h10
      exact h10
  unfold mvB
  rw [h1, h2, h8, h9, hh]
  simp only [Bool.true_and]
  exact decide_eq_true ⟨h6, h7, h4, h5⟩
set_option maxRecDepth 100000 in
set_option maxHeartbeats 3200000 in
theorem mpopts_all (a0 a1 a2 a3 a4 a5 : Bool) (k : Int) (p : Bool) (N M : Int) (A1 : Option Addr) (n1 c1 : Nat) (A2 : Option Addr) (n2 c2 : Nat) (A3 : Option Addr) (n3 c3 : Nat) (f : Int) (A4 : Option Addr) (n4 c4 : Nat) (ss : List Sg) (bs : List Int) (rs : List Rt) (w : World) (hF : Fams w) (hs : Segs w w.heap.size A1 n1 ss) (hm : n1 ≤ maxLen) (hB : Bytes w w.heap.size A3 n3 bs) (hr : Routes w w.heap.size A4 n4 rs) :
    Calls Tryd.prog 6 #[.agg #[.bool a0, .bool a1, .bool a2, .bool a3, .bool a4, .bool a5], .agg #[.int .i64 k, .bool p, .int .u32 N, .int .u32 M, .slice A1 n1 c1, .slice A2 n2 c2, .slice A3 n3 c3, .int .i64 f, .slice A4 n4 c4]] w fun e w' => e = .returned (.bool true) ∧ Below w.heap.size w w' := by
  have b1 := bl_alloc (bl_alloc (bl_refl w) (.cells #[.bool a0, .bool a1, .bool a2, .bool a3, .bool a4, .bool a5] 23)) (.cells #[.int .i64 k, .bool p, .int .u32 N, .int .u32 M, .slice A1 n1 c1, .slice A2 n2 c2, .slice A3 n3 c3, .int .i64 f, .slice A4 n4 c4] 30)
  have o2 := (Own.new w 23 #[.bool a0, .bool a1, .bool a2, .bool a3, .bool a4, .bool a5]).alloc (.cells #[.int .i64 k, .bool p, .int .u32 N, .int .u32 M, .slice A1 n1 c1, .slice A2 n2 c2, .slice A3 n3 c3, .int .i64 f, .slice A4 n4 c4] 30)
  have o3 := Own.new (w.alloc (.cells #[.bool a0, .bool a1, .bool a2, .bool a3, .bool a4, .bool a5] 23)) 30 #[.int .i64 k, .bool p, .int .u32 N, .int .u32 M, .slice A1 n1 c1, .slice A2 n2 c2, .slice A3 n3 c3, .int .i64 f, .slice A4 n4 c4]
  have hsz : (w.alloc (.cells #[.bool a0, .bool a1, .bool a2, .bool a3, .bool a4, .bool a5] 23)).heap.size = w.heap.size + 1 := by simp
  rw [hsz] at o3
  clear hsz
  have hSm := Lib.hid (fun W hW => small12_any ⟨k, p, N, M, A1, n1, c1, A2, n2, c2, A3, n3, c3, f, A4, n4, c4⟩ ss W hW hm)
  have hQ : Hid (small12B ⟨k, p, N, M, A1, n1, c1, A2, n2, c2, A3, n3, c3, f, A4, n4, c4⟩ ss = true → n3 ≤ 600 ∧ n4 ≤ 100) := Lib.hid (fun h => by
    unfold small12B at h
    rw [Bool.and_eq_true] at h
    have h2 := of_decide_eq_true h.2
    exact ⟨h2.2.1, h2.2.2⟩)
  go_enter Tryd.func6, Tryd.ntmps6
  go_wp2_with fail
  refine (hSm.out _ ((hs.below b1).more b1.size)).mono ?_
  rintro e w1 ⟨rfl, hb1⟩
  have p2 := o2.step hb1
  have p3 := o3.step hb1
  have b2 := bl_trans b1 hb1
  clear o2 o3 b1 hb1 hSm
  generalize small12B ⟨k, p, N, M, A1, n1, c1, A2, n2, c2, A3, n3, c3, f, A4, n4, c4⟩ ss = V at *
  have hF1 : Fams w1 := hF.rest (Rest.of_below b2 (fun _ => False)) (fun h => h)
  have HAl := Lib.hid (fun W hW => alive12_any W hW)
  cases V
  · go_wp2_with fail
    refine (HAl.out _ hF1).mono ?_
    rintro e w2 ⟨rfl, hb2⟩
    have B3 := Lib.hid (bl_trans b2 hb2)
    go_wp2
    go_ret
    exact ⟨rfl, B3.out⟩
  · obtain ⟨h3, h4⟩ := hQ.out rfl
    obtain ⟨y0, y1, y2, y3, y4, y5⟩ : _ ∧ _ ∧ _ ∧ _ ∧ _ ∧ _ := ⟨p2.cell (i := 0) rfl, p2.cell (i := 1) rfl, p2.cell (i := 2) rfl, p2.cell (i := 3) rfl, p2.cell (i := 4) rfl, p2.cell (i := 5) rfl⟩
    have lb := p2.lt
    have l3 := p3.lt
    obtain ⟨z0, z1, z2, z3, z4, z5, z6, z7, z8⟩ : _ ∧ _ ∧ _ ∧ _ ∧ _ ∧ _ ∧ _ ∧ _ ∧ _ := ⟨p3.cell (i := 0) rfl, p3.cell (i := 1) rfl, p3.cell (i := 2) rfl, p3.cell (i := 3) rfl, p3.cell (i := 4) rfl, p3.cell (i := 5) rfl, p3.cell (i := 6) rfl, p3.cell (i := 7) rfl, p3.cell (i := 8) rfl⟩
    go_wp2_with fail
    have b3 := bl_alloc b2 (.cells #[.bool a0, .bool a1, .bool true, .bool true, .bool a4, .bool a5] 23)
    have hrW := (hr.below b3).more b3.size
    have hBW := (hB.below b3).more b3.size
    have o5 := Own.new w1 23 #[.bool a0, .bool a1, .bool true, .bool true, .bool a4, .bool a5]
    have q2 := p2.alloc (.cells #[.bool a0, .bool a1, .bool true, .bool true, .bool a4, .bool a5] 23)
    have q3 := p3.alloc (.cells #[.bool a0, .bool a1, .bool true, .bool true, .bool a4, .bool a5] 23)
    have hF3 : Fams (w1.alloc (.cells #[.bool a0, .bool a1, .bool true, .bool true, .bool a4, .bool a5] 23)) := hF.rest (Rest.of_below b3 (fun _ => False)) (fun h => h)
    clear y0 y1 y2 y3 y4 y5 z0 z1 z2 z3 z4 z5 z6 z7 z8 p2 p3
    cases hv : rmvB true true a4 a5 ⟨k, p, N, M, A1, n1, c1, A2, n2, c2, A3, n3, c3, f, A4, n4, c4⟩ rs
    · refine (rmbytes_no a0 a1 true true a4 a5 ⟨k, p, N, M, A1, n1, c1, A2, n2, c2, A3, n3, c3, f, A4, n4, c4⟩ rs _ hrW (by show n4 ≤ 1000000; omega) hv).mono ?_
      rintro e w2 ⟨rfl, hb2⟩
      have hF4 : Fams w2 := hF3.rest (Rest.of_below hb2 (fun _ => False)) (fun h => h)
      go_wp2_with fail
      refine (HAl.out _ hF4).mono ?_
      rintro e w4 ⟨rfl, hb4⟩
      have B3 := Lib.hid (bl_trans (bl_trans b3 hb2) hb4)
      go_wp2
      go_ret
      exact ⟨rfl, B3.out⟩
    · refine (rmbytes_yes a0 a1 true true a4 a5 ⟨k, p, N, M, A1, n1, c1, A2, n2, c2, A3, n3, c3, f, A4, n4, c4⟩ bs rs _ hrW hBW (by show n4 ≤ 1000000; omega) hv).mono ?_
      rintro e w2 ⟨vB, rfl, hrow, hb2⟩
      have hF4 : Fams w2 := hF3.rest (Rest.of_below hb2 (fun _ => False)) (fun h => h)
      have r2 := q2.step hb2
      have r3 := q3.step hb2
      have r5 := o5.step hb2
      have b4 := bl_trans b3 hb2
      have hMp := Lib.hid (fun W => rmp_any a0 a1 a2 a3 a4 a5 f W)
      obtain ⟨y0, y1, y2, y3, y4, y5⟩ : _ ∧ _ ∧ _ ∧ _ ∧ _ ∧ _ := ⟨r2.cell (i := 0) rfl, r2.cell (i := 1) rfl, r2.cell (i := 2) rfl, r2.cell (i := 3) rfl, r2.cell (i := 4) rfl, r2.cell (i := 5) rfl⟩
      have z7 := r3.cell (i := 7) (v := .int .i64 f) rfl
      have lb2 := r2.lt
      have lb3 := r3.lt
      clear o5 q2 q3 hrW hBW b3 b2 hb2 hF3 lb l3
      go_wp2_with fail
      refine (hMp.out _).mono ?_
      rintro e w4 ⟨rfl, hb4⟩
      have hF5 : Fams w4 := hF4.rest (Rest.of_below hb4 (fun _ => False)) (fun h => h)
      have b5 := bl_trans b4 hb4
      cases hno : famB a2 a3 f
      · clear y0 y1 y2 y3 y4 y5 z7 lb2 lb3
        have u2 := r2.step hb4
        have u3 := r3.step hb4
        have u5 := r5.step hb4
        go_wp2_with fail
        have hsh : shB (famB a4 a5 f) ⟨k, p, N, M, A1, n1, c1, A2, n2, c2, A3, n3, c3, f, A4, n4, c4⟩ rs = true := by
          unfold rmvB at hv
          rw [Bool.and_eq_true] at hv
          exact hv.2
        obtain ⟨_, hf12, _⟩ := shB_parts hsh
        obtain ⟨⟨zs, hz, hzl⟩, hzr⟩ := mpForm_few hsh hB.1.symm hB.2.1 (by have := hr.1; omega) hr.2.1
        obtain ⟨AB, cB, rfl⟩ := own_form hrow
        have hBy := mrow_bytes hrow hzr
        have hz : mpForm (famB a4 a5 f) ⟨k, p, N, M, A1, n1, c1, A2, n2, c2, A3, n3, c3, f, A4, n4, c4⟩ bs rs = 0 :: f :: 1 :: zs := hz
        rw [hz] at hBy ⊢
        have HBy := Lib.hid ((hBy.below hb4).more hb4.size)
        have HU := Lib.hid (And.intro u2 (And.intro u3 u5))
        have HF := Lib.hid (fun W (hb : Below w4.heap.size w4 W) => (hF5.rest (Rest.of_below hb (fun _ => False)) (fun h => h) : Fams W))
        have hFw := Lib.hid hF5.2.2
        have HN := Lib.hid (fun (W : World) (hb : Below w4.heap.size w4 W) => new_any AB _ cB _ W ((HBy.out.below hb).more hb.size) (by simp; omega))
        have HR := Lib.hid (fun (j : Nat) (W : World) (hb : Below w4.heap.size w4 W) (hj : w4.heap.size ≤ j) (hr : Rdr W j (0 :: f :: 1 :: zs) 0) => (mread_no a0 a1 a2 a3 a4 a5 k j f zs W (HF.out W hb) hf12 hno hr hzl (by have := hFw.out; omega)).mono (fun _ _ hh => And.intro hh.1 (And.intro hh.2 trivial)))
        have HV0 := Lib.hid (fun W (hb : Below w.heap.size w W) => mvalid_any a0 a1 a2 a3 a4 a5 ⟨k, p, N, M, A1, n1, c1, A2, n2, c2, A3, n3, c3, f, A4, n4, c4⟩ rs W ((hr.below hb).more hb.size) (by show n4 ≤ 1000000000; omega))
        rw [mv_no (a := ⟨k, p, N, M, A1, n1, c1, A2, n2, c2, A3, n3, c3, f, A4, n4, c4⟩) (a4 := a4) (a5 := a5) (rs := rs) hno] at HV0
        have HV1 := Lib.hid (fun W (hb : Below w.heap.size w W) => mvalid_any a0 a1 true true a4 a5 ⟨k, p, N, M, A1, n1, c1, A2, n2, c2, A3, n3, c3, f, A4, n4, c4⟩ rs W ((hr.below hb).more hb.size) (by show n4 ≤ 1000000000; omega))
        rw [mv_yes hv] at HV1
        unfold atc at HV0 HV1
        clear hrow hBy u2 u3 u5 hsh hzr hz hv hB hr hs
        have st : RvSt w4 w4.drew (0 :: f :: 1 :: zs) none none none (fun _ => True) false := RvSt.start (bl_refl w4).drew
        go_cut [8, 9] (fun h8 h9 wx => RvR w4 wx #[.int .i64 0, .bool false, .int .u32 0, .int .u32 0, .slice none 0 0, .slice none 0 0, .slice none 0 0, .int .i64 0, .slice none 0 0] #[.int .i64 1, .int .i64 0, .int .i64 0, .slice none 0 0, .int .i64 0] (fun _ => True) h8 h9)
        case first =>
          refine wp_region_noPanic ?_
          refine wp_region_held_drew (S := (fun W => W.cell? ⟨w.heap.size, 0, none⟩ = some (.bool a0) ∧ W.cell? ⟨w.heap.size, 1, none⟩ = some (.bool a1) ∧ W.cell? ⟨w.heap.size, 2, none⟩ = some (.bool a2) ∧ W.cell? ⟨w.heap.size, 3, none⟩ = some (.bool a3) ∧ W.cell? ⟨w.heap.size, 4, none⟩ = some (.bool a4) ∧ W.cell? ⟨w.heap.size, 5, none⟩ = some (.bool a5) ∧ W.cell? ⟨w.heap.size + 1, 0, none⟩ = some (.int .i64 k))) (by kernel_rfl) (m8_of HU.out.1 HU.out.2.1 st.1) (fun hHeld => ?_)
          refine wpAnyH_take (i := 0) (v := ?_) rfl (by kernel_rfl) (by kernel_rfl) (by kernel_rfl) (fun _ _ _ h => h) (Or.inl ⟨by rfl, ?_⟩) (by assumption) ?_
          rotate_left
          · (intro W hSw; obtain ⟨s0, s1, s2, s3, s4, s5, s6⟩ := hSw; go_simp; try with_reducible rfl)
          simp only [Act.put, List.getElem_toArray, List.getElem_cons_zero, List.setIfInBounds_toArray, List.set_cons_zero, List.set_cons_succ]
          refine wpAnyH_take (i := 1) (v := ?_) rfl (by kernel_rfl) (by kernel_rfl) (by kernel_rfl) (fun _ _ _ h => h) (Or.inl ⟨by rfl, ?_⟩) (by assumption) ?_
          rotate_left
          · (intro W hSw; obtain ⟨s0, s1, s2, s3, s4, s5, s6⟩ := hSw; go_simp; try with_reducible rfl)
          simp only [Act.put, List.getElem_toArray, List.getElem_cons_zero, List.getElem_cons_succ, List.setIfInBounds_toArray, List.set_cons_zero, List.set_cons_succ]
          refine wpAnyH_take (i := 2) (v := ?_) rfl (by kernel_rfl) (by kernel_rfl) (by kernel_rfl) (fun _ _ _ h => h) (Or.inl ⟨by rfl, ?_⟩) (by assumption) ?_
          rotate_left
          · (intro W hSw; obtain ⟨s0, s1, s2, s3, s4, s5, s6⟩ := hSw; go_simp; try with_reducible rfl)
          simp only [Act.put, List.getElem_toArray, List.getElem_cons_zero, List.getElem_cons_succ, List.setIfInBounds_toArray, List.set_cons_zero, List.set_cons_succ]
          refine wpAnyH_take (i := 3) (v := ?_) rfl (by kernel_rfl) (by kernel_rfl) (by kernel_rfl) (fun _ _ _ h => h) (Or.inl ⟨by rfl, ?_⟩) (by assumption) ?_
          rotate_left
          · (intro W hSw; obtain ⟨s0, s1, s2, s3, s4, s5, s6⟩ := hSw; go_simp; try with_reducible rfl)
          simp only [Act.put, List.getElem_toArray, List.getElem_cons_zero, List.getElem_cons_succ, List.setIfInBounds_toArray, List.set_cons_zero, List.set_cons_succ]
          refine wpAnyH_ready (rs := [4, 9, 10]) (by kernel_rfl) (by simp) ?_
          refine AllReadyH.cons rfl (fun K hK => ?_) (AllReadyH.cons rfl (fun K hK => ?_) (AllReadyH.cons rfl (fun K hK => ?_) AllReadyH.nil))
          · go_simp
            go_at_call 15
            refine (HN.out _ st.1).mono ?_
            rintro e w6 ⟨j, rfl, hj, hrj, hb6⟩
            replace st := st.new_ hj hrj hb6
            clear hj hrj hb6
            refine hK.out _ _ (m8_of HU.out.1 HU.out.2.1 st.1) (fun hHeld2 => ?_)
            clear hK K hHeld
            have hHeld := hHeld2
            clear hHeld2
            try simp only [Act.put, List.getElem_toArray, List.getElem_cons_zero, List.getElem_cons_succ, List.setIfInBounds_toArray, List.set_cons_zero, List.set_cons_succ]
            refine wpAnyH_ready (rs := [5, 9, 10]) (by kernel_rfl) (by simp) ?_
            refine AllReadyH.cons rfl (fun K hK => ?_) (AllReadyH.cons rfl (fun K hK => ?_) (AllReadyH.cons rfl (fun K hK => ?_) AllReadyH.nil))
            · go_simp
              go_at_call 14
              refine (HR.out j _ st.1 st.le_ st.rdr_).mono ?_
              rintro e w8 ⟨rfl, R8, hX8⟩
              replace st := st.read_ R8 hX8
              clear R8 hX8
              refine hK.out _ _ (m8_of HU.out.1 HU.out.2.1 st.1) (fun hHeld2 => ?_)
              clear hK K hHeld
              have hHeld := hHeld2
              clear hHeld2
              try simp only [Act.put, List.getElem_toArray, List.getElem_cons_zero, List.getElem_cons_succ, List.setIfInBounds_toArray, List.set_cons_zero, List.set_cons_succ]
              refine wpAnyH_take (i := 6) (v := ?_) rfl (by kernel_rfl) (by kernel_rfl) (by kernel_rfl) (fun _ _ _ h => h) (Or.inl ⟨by rfl, ?_⟩) (by assumption) ?_
              rotate_left
              · (intro W hSw; obtain ⟨s0, s1, s2, s3, s4, s5, s6⟩ := hSw; go_simp; try with_reducible rfl)
              simp only [Act.put, List.getElem_toArray, List.getElem_cons_zero, List.getElem_cons_succ, List.setIfInBounds_toArray, List.set_cons_zero, List.set_cons_succ]
              refine wpAnyH_take (i := 7) (v := ?_) rfl (by kernel_rfl) (by kernel_rfl) (by kernel_rfl) (fun _ _ _ h => h) (Or.inl ⟨by rfl, ?_⟩) (by assumption) ?_
              rotate_left
              · (intro W hSw; obtain ⟨s0, s1, s2, s3, s4, s5, s6⟩ := hSw; go_simp; try with_reducible rfl)
              simp only [Act.put, List.getElem_toArray, List.getElem_cons_zero, List.getElem_cons_succ, List.setIfInBounds_toArray, List.set_cons_zero, List.set_cons_succ]
              refine wpAnyH_take (i := 8) (v := ?_) rfl (by kernel_rfl) (by kernel_rfl) (by kernel_rfl) (fun _ _ _ h => h) (Or.inl ⟨by rfl, ?_⟩) (by assumption) ?_
              rotate_left
              · (intro W hSw; obtain ⟨s0, s1, s2, s3, s4, s5, s6⟩ := hSw; go_simp; try with_reducible rfl)
              simp only [Act.put, List.getElem_toArray, List.getElem_cons_zero, List.getElem_cons_succ, List.setIfInBounds_toArray, List.set_cons_zero, List.set_cons_succ]
              refine wpAnyH_ready (rs := [9, 10]) (by kernel_rfl) (by simp) ?_
              refine AllReadyH.cons rfl (fun K hK => ?_) (AllReadyH.cons rfl (fun K hK => ?_) AllReadyH.nil)
              · go_simp
                replace st := st.as_ KeepX.true_ (n := w8.heap.size) (by simp)
                refine hK.out _ _ (m8_of HU.out.1 HU.out.2.1 st.1) (fun hHeld2 => ?_)
                clear hK K hHeld
                have hHeld := hHeld2
                clear hHeld2
                try simp only [Act.put, List.getElem_toArray, List.getElem_cons_zero, List.getElem_cons_succ, List.setIfInBounds_toArray, List.set_cons_zero, List.set_cons_succ]
                refine wpAnyH_ready (rs := [10]) (by kernel_rfl) (by simp) ?_
                refine AllReadyH.cons rfl (fun K hK => ?_) AllReadyH.nil
                go_simp
                replace st := st.vs_ KeepX.true_ (n := w8.heap.size + 1) (by simp)
                refine hK.out _ _ (m8_of HU.out.1 HU.out.2.1 st.1) (fun hHeld2 => ?_)
                clear hK K hHeld
                have hHeld := hHeld2
                clear hHeld2
                try simp only [Act.put, List.getElem_toArray, List.getElem_cons_zero, List.getElem_cons_succ, List.setIfInBounds_toArray, List.set_cons_zero, List.set_cons_succ]
                refine wpAnyH_ready (rs := [11]) (by kernel_rfl) (by simp) ?_
                refine AllReadyH.cons rfl (fun K hK => ?_) AllReadyH.nil
                refine step_store_rowV rfl _ _ _ rfl _ #[.int .i64 0, .bool false, .int .u32 0, .int .u32 0, .slice none 0 0, .slice none 0 0, .slice none 0 0, .int .i64 0, .slice none 0 0] rfl rfl 30 zA9 st.a_ (at_infoM _ _ _ _ _ _ _ _ _) rfl (at_oneV _ _ _ _ _ _ _ _ _ _ _ _ _ _ _ _ _) ?_
                refine hK.out _ _ (m8_of HU.out.1 HU.out.2.1 (st.b1_ _)) (fun hHeld2 => ?_)
                clear hK K hHeld
                have hHeld := hHeld2
                clear hHeld2
                try simp only [Act.put, List.getElem_toArray, List.getElem_cons_zero, List.getElem_cons_succ]
                refine wpAnyH_ready (rs := [12]) (by kernel_rfl) (by simp) ?_
                refine AllReadyH.cons rfl (fun K hK => ?_) AllReadyH.nil
                refine step_store_rowV rfl _ _ _ rfl _ #[.int .i64 1, .int .i64 0, .int .i64 0, .slice none 0 0, .int .i64 0] rfl rfl 38 zV5 (st.v_ _) (vd_infoM _ _ _ _ _) rfl (vd_oneM _ _ _ _) ?_
                refine hK.out _ _ (m8_of HU.out.1 HU.out.2.1 (st.b2_ _ _)) (fun hHeld2 => ?_)
                clear hK K hHeld
                have hHeld := hHeld2
                clear hHeld2
                try simp only [Act.put, List.getElem_toArray, List.getElem_cons_zero, List.getElem_cons_succ]
                refine wpAnyH_done (by kernel_rfl) ?_ _
                refine NoPanic.normal ?_
                go_wp2_with fail
                go_meet
                exact RvSt.fin_ KeepX.true_ st _ _
              · go_simp
                replace st := st.vs_ KeepX.true_ (n := w8.heap.size) (by simp)
                refine hK.out _ _ (m8_of HU.out.1 HU.out.2.1 st.1) (fun hHeld2 => ?_)
                clear hK K hHeld
                have hHeld := hHeld2
                clear hHeld2
                try simp only [Act.put, List.getElem_toArray, List.getElem_cons_zero, List.getElem_cons_succ, List.setIfInBounds_toArray, List.set_cons_zero, List.set_cons_succ]
                refine wpAnyH_ready (rs := [9]) (by kernel_rfl) (by simp) ?_
                refine AllReadyH.cons rfl (fun K hK => ?_) AllReadyH.nil
                go_simp
                replace st := st.as_ KeepX.true_ (n := w8.heap.size + 1) (by simp)
                refine hK.out _ _ (m8_of HU.out.1 HU.out.2.1 st.1) (fun hHeld2 => ?_)
                clear hK K hHeld
                have hHeld := hHeld2
                clear hHeld2
                try simp only [Act.put, List.getElem_toArray, List.getElem_cons_zero, List.getElem_cons_succ, List.setIfInBounds_toArray, List.set_cons_zero, List.set_cons_succ]
                refine wpAnyH_ready (rs := [11]) (by kernel_rfl) (by simp) ?_
                refine AllReadyH.cons rfl (fun K hK => ?_) AllReadyH.nil
                refine step_store_rowV rfl _ _ _ rfl _ #[.int .i64 0, .bool false, .int .u32 0, .int .u32 0, .slice none 0 0, .slice none 0 0, .slice none 0 0, .int .i64 0, .slice none 0 0] rfl rfl 30 zA9 st.a_ (at_infoM _ _ _ _ _ _ _ _ _) rfl (at_oneV _ _ _ _ _ _ _ _ _ _ _ _ _ _ _ _ _) ?_
                refine hK.out _ _ (m8_of HU.out.1 HU.out.2.1 (st.b1_ _)) (fun hHeld2 => ?_)
                clear hK K hHeld
                have hHeld := hHeld2
                clear hHeld2
                try simp only [Act.put, List.getElem_toArray, List.getElem_cons_zero, List.getElem_cons_succ]
                refine wpAnyH_ready (rs := [12]) (by kernel_rfl) (by simp) ?_
                refine AllReadyH.cons rfl (fun K hK => ?_) AllReadyH.nil
                refine step_store_rowV rfl _ _ _ rfl _ #[.int .i64 1, .int .i64 0, .int .i64 0, .slice none 0 0, .int .i64 0] rfl rfl 38 zV5 (st.v_ _) (vd_infoM _ _ _ _ _) rfl (vd_oneM _ _ _ _) ?_
                refine hK.out _ _ (m8_of HU.out.1 HU.out.2.1 (st.b2_ _ _)) (fun hHeld2 => ?_)
                clear hK K hHeld
                have hHeld := hHeld2
                clear hHeld2
                try simp only [Act.put, List.getElem_toArray, List.getElem_cons_zero, List.getElem_cons_succ]
                refine wpAnyH_done (by kernel_rfl) ?_ _
                refine NoPanic.normal ?_
                go_wp2_with fail
                go_meet
                exact RvSt.fin_ KeepX.true_ st _ _
            · go_simp
              replace st := st.as_ KeepX.true_ (n := w6.heap.size) (by simp)
              refine hK.out _ _ (m8_of HU.out.1 HU.out.2.1 st.1) (fun hHeld2 => ?_)
              clear hK K hHeld
              have hHeld := hHeld2
              clear hHeld2
              try simp only [Act.put, List.getElem_toArray, List.getElem_cons_zero, List.getElem_cons_succ, List.setIfInBounds_toArray, List.set_cons_zero, List.set_cons_succ]
              refine wpAnyH_ready (rs := [5, 10]) (by kernel_rfl) (by simp) ?_
              refine AllReadyH.cons rfl (fun K hK => ?_) (AllReadyH.cons rfl (fun K hK => ?_) AllReadyH.nil)
              · go_simp
                go_at_call 14
                refine (HR.out j _ st.1 st.le_ st.rdr_).mono ?_
                rintro e w8 ⟨rfl, R8, hX8⟩
                replace st := st.read_ R8 hX8
                clear R8 hX8
                refine hK.out _ _ (m8_of HU.out.1 HU.out.2.1 st.1) (fun hHeld2 => ?_)
                clear hK K hHeld
                have hHeld := hHeld2
                clear hHeld2
                try simp only [Act.put, List.getElem_toArray, List.getElem_cons_zero, List.getElem_cons_succ, List.setIfInBounds_toArray, List.set_cons_zero, List.set_cons_succ]
                refine wpAnyH_take (i := 6) (v := ?_) rfl (by kernel_rfl) (by kernel_rfl) (by kernel_rfl) (fun _ _ _ h => h) (Or.inl ⟨by rfl, ?_⟩) (by assumption) ?_
                rotate_left
                · (intro W hSw; obtain ⟨s0, s1, s2, s3, s4, s5, s6⟩ := hSw; go_simp; try with_reducible rfl)
                simp only [Act.put, List.getElem_toArray, List.getElem_cons_zero, List.getElem_cons_succ, List.setIfInBounds_toArray, List.set_cons_zero, List.set_cons_succ]
                refine wpAnyH_take (i := 7) (v := ?_) rfl (by kernel_rfl) (by kernel_rfl) (by kernel_rfl) (fun _ _ _ h => h) (Or.inl ⟨by rfl, ?_⟩) (by assumption) ?_
                rotate_left
                · (intro W hSw; obtain ⟨s0, s1, s2, s3, s4, s5, s6⟩ := hSw; go_simp; try with_reducible rfl)
                simp only [Act.put, List.getElem_toArray, List.getElem_cons_zero, List.getElem_cons_succ, List.setIfInBounds_toArray, List.set_cons_zero, List.set_cons_succ]
                refine wpAnyH_take (i := 8) (v := ?_) rfl (by kernel_rfl) (by kernel_rfl) (by kernel_rfl) (fun _ _ _ h => h) (Or.inl ⟨by rfl, ?_⟩) (by assumption) ?_
                rotate_left
                · (intro W hSw; obtain ⟨s0, s1, s2, s3, s4, s5, s6⟩ := hSw; go_simp; try with_reducible rfl)
                simp only [Act.put, List.getElem_toArray, List.getElem_cons_zero, List.getElem_cons_succ, List.setIfInBounds_toArray, List.set_cons_zero, List.set_cons_succ]
                refine wpAnyH_ready (rs := [10]) (by kernel_rfl) (by simp) ?_
                refine AllReadyH.cons rfl (fun K hK => ?_) AllReadyH.nil
                go_simp
                replace st := st.vs_ KeepX.true_ (n := w8.heap.size) (by simp)
                refine hK.out _ _ (m8_of HU.out.1 HU.out.2.1 st.1) (fun hHeld2 => ?_)
                clear hK K hHeld
                have hHeld := hHeld2
                clear hHeld2
                try simp only [Act.put, List.getElem_toArray, List.getElem_cons_zero, List.getElem_cons_succ, List.setIfInBounds_toArray, List.set_cons_zero, List.set_cons_succ]
                refine wpAnyH_ready (rs := [11]) (by kernel_rfl) (by simp) ?_
                refine AllReadyH.cons rfl (fun K hK => ?_) AllReadyH.nil
                refine step_store_rowV rfl _ _ _ rfl _ #[.int .i64 0, .bool false, .int .u32 0, .int .u32 0, .slice none 0 0, .slice none 0 0, .slice none 0 0, .int .i64 0, .slice none 0 0] rfl rfl 30 zA9 st.a_ (at_infoM _ _ _ _ _ _ _ _ _) rfl (at_oneV _ _ _ _ _ _ _ _ _ _ _ _ _ _ _ _ _) ?_
                refine hK.out _ _ (m8_of HU.out.1 HU.out.2.1 (st.b1_ _)) (fun hHeld2 => ?_)
                clear hK K hHeld
                have hHeld := hHeld2
                clear hHeld2
                try simp only [Act.put, List.getElem_toArray, List.getElem_cons_zero, List.getElem_cons_succ]
                refine wpAnyH_ready (rs := [12]) (by kernel_rfl) (by simp) ?_
                refine AllReadyH.cons rfl (fun K hK => ?_) AllReadyH.nil
                refine step_store_rowV rfl _ _ _ rfl _ #[.int .i64 1, .int .i64 0, .int .i64 0, .slice none 0 0, .int .i64 0] rfl rfl 38 zV5 (st.v_ _) (vd_infoM _ _ _ _ _) rfl (vd_oneM _ _ _ _) ?_
                refine hK.out _ _ (m8_of HU.out.1 HU.out.2.1 (st.b2_ _ _)) (fun hHeld2 => ?_)
                clear hK K hHeld
                have hHeld := hHeld2
                clear hHeld2
                try simp only [Act.put, List.getElem_toArray, List.getElem_cons_zero, List.getElem_cons_succ]
                refine wpAnyH_done (by kernel_rfl) ?_ _
                refine NoPanic.normal ?_
                go_wp2_with fail
                go_meet
                exact RvSt.fin_ KeepX.true_ st _ _
              · go_simp
                replace st := st.vs_ KeepX.true_ (n := w6.heap.size + 1) (by simp)
                refine hK.out _ _ (m8_of HU.out.1 HU.out.2.1 st.1) (fun hHeld2 => ?_)
                clear hK K hHeld
                have hHeld := hHeld2
                clear hHeld2
                try simp only [Act.put, List.getElem_toArray, List.getElem_cons_zero, List.getElem_cons_succ, List.setIfInBounds_toArray, List.set_cons_zero, List.set_cons_succ]
                refine wpAnyH_ready (rs := [5]) (by kernel_rfl) (by simp) ?_
                refine AllReadyH.cons rfl (fun K hK => ?_) AllReadyH.nil
                go_simp
                go_at_call 14
                refine (HR.out j _ st.1 st.le_ st.rdr_).mono ?_
                rintro e w8 ⟨rfl, R8, hX8⟩
                replace st := st.read_ R8 hX8
                clear R8 hX8
                refine hK.out _ _ (m8_of HU.out.1 HU.out.2.1 st.1) (fun hHeld2 => ?_)
                clear hK K hHeld
                have hHeld := hHeld2
                clear hHeld2
                try simp only [Act.put, List.getElem_toArray, List.getElem_cons_zero, List.getElem_cons_succ, List.setIfInBounds_toArray, List.set_cons_zero, List.set_cons_succ]
                refine wpAnyH_take (i := 6) (v := ?_) rfl (by kernel_rfl) (by kernel_rfl) (by kernel_rfl) (fun _ _ _ h => h) (Or.inl ⟨by rfl, ?_⟩) (by assumption) ?_
                rotate_left
                · (intro W hSw; obtain ⟨s0, s1, s2, s3, s4, s5, s6⟩ := hSw; go_simp; try with_reducible rfl)
                simp only [Act.put, List.getElem_toArray, List.getElem_cons_zero, List.getElem_cons_succ, List.setIfInBounds_toArray, List.set_cons_zero, List.set_cons_succ]
                refine wpAnyH_take (i := 7) (v := ?_) rfl (by kernel_rfl) (by kernel_rfl) (by kernel_rfl) (fun _ _ _ h => h) (Or.inl ⟨by rfl, ?_⟩) (by assumption) ?_
                rotate_left
                · (intro W hSw; obtain ⟨s0, s1, s2, s3, s4, s5, s6⟩ := hSw; go_simp; try with_reducible rfl)
                simp only [Act.put, List.getElem_toArray, List.getElem_cons_zero, List.getElem_cons_succ, List.setIfInBounds_toArray, List.set_cons_zero, List.set_cons_succ]
                refine wpAnyH_take (i := 8) (v := ?_) rfl (by kernel_rfl) (by kernel_rfl) (by kernel_rfl) (fun _ _ _ h => h) (Or.inl ⟨by rfl, ?_⟩) (by assumption) ?_
                rotate_left
                · (intro W hSw; obtain ⟨s0, s1, s2, s3, s4, s5, s6⟩ := hSw; go_simp; try with_reducible rfl)
                simp only [Act.put, List.getElem_toArray, List.getElem_cons_zero, List.getElem_cons_succ, List.setIfInBounds_toArray, List.set_cons_zero, List.set_cons_succ]
                refine wpAnyH_ready (rs := [11]) (by kernel_rfl) (by simp) ?_
                refine AllReadyH.cons rfl (fun K hK => ?_) AllReadyH.nil
                refine step_store_rowV rfl _ _ _ rfl _ #[.int .i64 0, .bool false, .int .u32 0, .int .u32 0, .slice none 0 0, .slice none 0 0, .slice none 0 0, .int .i64 0, .slice none 0 0] rfl rfl 30 zA9 st.a_ (at_infoM _ _ _ _ _ _ _ _ _) rfl (at_oneV _ _ _ _ _ _ _ _ _ _ _ _ _ _ _ _ _) ?_
                refine hK.out _ _ (m8_of HU.out.1 HU.out.2.1 (st.b1_ _)) (fun hHeld2 => ?_)
                clear hK K hHeld
                have hHeld := hHeld2
                clear hHeld2
                try simp only [Act.put, List.getElem_toArray, List.getElem_cons_zero, List.getElem_cons_succ]
                refine wpAnyH_ready (rs := [12]) (by kernel_rfl) (by simp) ?_
                refine AllReadyH.cons rfl (fun K hK => ?_) AllReadyH.nil
                refine step_store_rowV rfl _ _ _ rfl _ #[.int .i64 1, .int .i64 0, .int .i64 0, .slice none 0 0, .int .i64 0] rfl rfl 38 zV5 (st.v_ _) (vd_infoM _ _ _ _ _) rfl (vd_oneM _ _ _ _) ?_
                refine hK.out _ _ (m8_of HU.out.1 HU.out.2.1 (st.b2_ _ _)) (fun hHeld2 => ?_)
                clear hK K hHeld
                have hHeld := hHeld2
                clear hHeld2
                try simp only [Act.put, List.getElem_toArray, List.getElem_cons_zero, List.getElem_cons_succ]
                refine wpAnyH_done (by kernel_rfl) ?_ _
                refine NoPanic.normal ?_
                go_wp2_with fail
                go_meet
                exact RvSt.fin_ KeepX.true_ st _ _
            · go_simp
              replace st := st.vs_ KeepX.true_ (n := w6.heap.size) (by simp)
              refine hK.out _ _ (m8_of HU.out.1 HU.out.2.1 st.1) (fun hHeld2 => ?_)
              clear hK K hHeld
              have hHeld := hHeld2
              clear hHeld2
              try simp only [Act.put, List.getElem_toArray, List.getElem_cons_zero, List.getElem_cons_succ, List.setIfInBounds_toArray, List.set_cons_zero, List.set_cons_succ]
              refine wpAnyH_ready (rs := [5, 9]) (by kernel_rfl) (by simp) ?_
              refine AllReadyH.cons rfl (fun K hK => ?_) (AllReadyH.cons rfl (fun K hK => ?_) AllReadyH.nil)
              · go_simp
                go_at_call 14
                refine (HR.out j _ st.1 st.le_ st.rdr_).mono ?_
                rintro e w8 ⟨rfl, R8, hX8⟩
                replace st := st.read_ R8 hX8
                clear R8 hX8
                refine hK.out _ _ (m8_of HU.out.1 HU.out.2.1 st.1) (fun hHeld2 => ?_)
                clear hK K hHeld
                have hHeld := hHeld2
                clear hHeld2
                try simp only [Act.put, List.getElem_toArray, List.getElem_cons_zero, List.getElem_cons_succ, List.setIfInBounds_toArray, List.set_cons_zero, List.set_cons_succ]
                refine wpAnyH_take (i := 6) (v := ?_) rfl (by kernel_rfl) (by kernel_rfl) (by kernel_rfl) (fun _ _ _ h => h) (Or.inl ⟨by rfl, ?_⟩) (by assumption) ?_
                rotate_left
                · (intro W hSw; obtain ⟨s0, s1, s2, s3, s4, s5, s6⟩ := hSw; go_simp; try with_reducible rfl)
                simp only [Act.put, List.getElem_toArray, List.getElem_cons_zero, List.getElem_cons_succ, List.setIfInBounds_toArray, List.set_cons_zero, List.set_cons_succ]
                refine wpAnyH_take (i := 7) (v := ?_) rfl (by kernel_rfl) (by kernel_rfl) (by kernel_rfl) (fun _ _ _ h => h) (Or.inl ⟨by rfl, ?_⟩) (by assumption) ?_
                rotate_left
                · (intro W hSw; obtain ⟨s0, s1, s2, s3, s4, s5, s6⟩ := hSw; go_simp; try with_reducible rfl)
                simp only [Act.put, List.getElem_toArray, List.getElem_cons_zero, List.getElem_cons_succ, List.setIfInBounds_toArray, List.set_cons_zero, List.set_cons_succ]
                refine wpAnyH_take (i := 8) (v := ?_) rfl (by kernel_rfl) (by kernel_rfl) (by kernel_rfl) (fun _ _ _ h => h) (Or.inl ⟨by rfl, ?_⟩) (by assumption) ?_
                rotate_left
                · (intro W hSw; obtain ⟨s0, s1, s2, s3, s4, s5, s6⟩ := hSw; go_simp; try with_reducible rfl)
                simp only [Act.put, List.getElem_toArray, List.getElem_cons_zero, List.getElem_cons_succ, List.setIfInBounds_toArray, List.set_cons_zero, List.set_cons_succ]
                refine wpAnyH_ready (rs := [9]) (by kernel_rfl) (by simp) ?_
                refine AllReadyH.cons rfl (fun K hK => ?_) AllReadyH.nil
                go_simp
                replace st := st.as_ KeepX.true_ (n := w8.heap.size) (by simp)
                refine hK.out _ _ (m8_of HU.out.1 HU.out.2.1 st.1) (fun hHeld2 => ?_)
                clear hK K hHeld
                have hHeld := hHeld2
                clear hHeld2
                try simp only [Act.put, List.getElem_toArray, List.getElem_cons_zero, List.getElem_cons_succ, List.setIfInBounds_toArray, List.set_cons_zero, List.set_cons_succ]
                refine wpAnyH_ready (rs := [11]) (by kernel_rfl) (by simp) ?_
                refine AllReadyH.cons rfl (fun K hK => ?_) AllReadyH.nil
                refine step_store_rowV rfl _ _ _ rfl _ #[.int .i64 0, .bool false, .int .u32 0, .int .u32 0, .slice none 0 0, .slice none 0 0, .slice none 0 0, .int .i64 0, .slice none 0 0] rfl rfl 30 zA9 st.a_ (at_infoM _ _ _ _ _ _ _ _ _) rfl (at_oneV _ _ _ _ _ _ _ _ _ _ _ _ _ _ _ _ _) ?_
                refine hK.out _ _ (m8_of HU.out.1 HU.out.2.1 (st.b1_ _)) (fun hHeld2 => ?_)
                clear hK K hHeld
                have hHeld := hHeld2
                clear hHeld2
                try simp only [Act.put, List.getElem_toArray, List.getElem_cons_zero, List.getElem_cons_succ]
                refine wpAnyH_ready (rs := [12]) (by kernel_rfl) (by simp) ?_
                refine AllReadyH.cons rfl (fun K hK => ?_) AllReadyH.nil
                refine step_store_rowV rfl _ _ _ rfl _ #[.int .i64 1, .int .i64 0, .int .i64 0, .slice none 0 0, .int .i64 0] rfl rfl 38 zV5 (st.v_ _) (vd_infoM _ _ _ _ _) rfl (vd_oneM _ _ _ _) ?_
                refine hK.out _ _ (m8_of HU.out.1 HU.out.2.1 (st.b2_ _ _)) (fun hHeld2 => ?_)
                clear hK K hHeld
                have hHeld := hHeld2
                clear hHeld2
                try simp only [Act.put, List.getElem_toArray, List.getElem_cons_zero, List.getElem_cons_succ]
                refine wpAnyH_done (by kernel_rfl) ?_ _
                refine NoPanic.normal ?_
                go_wp2_with fail
                go_meet
                exact RvSt.fin_ KeepX.true_ st _ _
              · go_simp
                replace st := st.as_ KeepX.true_ (n := w6.heap.size + 1) (by simp)
                refine hK.out _ _ (m8_of HU.out.1 HU.out.2.1 st.1) (fun hHeld2 => ?_)
                clear hK K hHeld
                have hHeld := hHeld2
                clear hHeld2
                try simp only [Act.put, List.getElem_toArray, List.getElem_cons_zero, List.getElem_cons_succ, List.setIfInBounds_toArray, List.set_cons_zero, List.set_cons_succ]
                refine wpAnyH_ready (rs := [5]) (by kernel_rfl) (by simp) ?_
                refine AllReadyH.cons rfl (fun K hK => ?_) AllReadyH.nil
                go_simp
                go_at_call 14
                refine (HR.out j _ st.1 st.le_ st.rdr_).mono ?_
                rintro e w8 ⟨rfl, R8, hX8⟩
                replace st := st.read_ R8 hX8
                clear R8 hX8
                refine hK.out _ _ (m8_of HU.out.1 HU.out.2.1 st.1) (fun hHeld2 => ?_)
                clear hK K hHeld
                have hHeld := hHeld2
                clear hHeld2
                try simp only [Act.put, List.getElem_toArray, List.getElem_cons_zero, List.getElem_cons_succ, List.setIfInBounds_toArray, List.set_cons_zero, List.set_cons_succ]
                refine wpAnyH_take (i := 6) (v := ?_) rfl (by kernel_rfl) (by kernel_rfl) (by kernel_rfl) (fun _ _ _ h => h) (Or.inl ⟨by rfl, ?_⟩) (by assumption) ?_
                rotate_left
                · (intro W hSw; obtain ⟨s0, s1, s2, s3, s4, s5, s6⟩ := hSw; go_simp; try with_reducible rfl)
                simp only [Act.put, List.getElem_toArray, List.getElem_cons_zero, List.getElem_cons_succ, List.setIfInBounds_toArray, List.set_cons_zero, List.set_cons_succ]
                refine wpAnyH_take (i := 7) (v := ?_) rfl (by kernel_rfl) (by kernel_rfl) (by kernel_rfl) (fun _ _ _ h => h) (Or.inl ⟨by rfl, ?_⟩) (by assumption) ?_
                rotate_left
                · (intro W hSw; obtain ⟨s0, s1, s2, s3, s4, s5, s6⟩ := hSw; go_simp; try with_reducible rfl)
                simp only [Act.put, List.getElem_toArray, List.getElem_cons_zero, List.getElem_cons_succ, List.setIfInBounds_toArray, List.set_cons_zero, List.set_cons_succ]
                refine wpAnyH_take (i := 8) (v := ?_) rfl (by kernel_rfl) (by kernel_rfl) (by kernel_rfl) (fun _ _ _ h => h) (Or.inl ⟨by rfl, ?_⟩) (by assumption) ?_
                rotate_left
                · (intro W hSw; obtain ⟨s0, s1, s2, s3, s4, s5, s6⟩ := hSw; go_simp; try with_reducible rfl)
                simp only [Act.put, List.getElem_toArray, List.getElem_cons_zero, List.getElem_cons_succ, List.setIfInBounds_toArray, List.set_cons_zero, List.set_cons_succ]
                refine wpAnyH_ready (rs := [11]) (by kernel_rfl) (by simp) ?_
                refine AllReadyH.cons rfl (fun K hK => ?_) AllReadyH.nil
                refine step_store_rowV rfl _ _ _ rfl _ #[.int .i64 0, .bool false, .int .u32 0, .int .u32 0, .slice none 0 0, .slice none 0 0, .slice none 0 0, .int .i64 0, .slice none 0 0] rfl rfl 30 zA9 st.a_ (at_infoM _ _ _ _ _ _ _ _ _) rfl (at_oneV _ _ _ _ _ _ _ _ _ _ _ _ _ _ _ _ _) ?_
                refine hK.out _ _ (m8_of HU.out.1 HU.out.2.1 (st.b1_ _)) (fun hHeld2 => ?_)
                clear hK K hHeld
                have hHeld := hHeld2
                clear hHeld2
                try simp only [Act.put, List.getElem_toArray, List.getElem_cons_zero, List.getElem_cons_succ]
                refine wpAnyH_ready (rs := [12]) (by kernel_rfl) (by simp) ?_
                refine AllReadyH.cons rfl (fun K hK => ?_) AllReadyH.nil
                refine step_store_rowV rfl _ _ _ rfl _ #[.int .i64 1, .int .i64 0, .int .i64 0, .slice none 0 0, .int .i64 0] rfl rfl 38 zV5 (st.v_ _) (vd_infoM _ _ _ _ _) rfl (vd_oneM _ _ _ _) ?_
                refine hK.out _ _ (m8_of HU.out.1 HU.out.2.1 (st.b2_ _ _)) (fun hHeld2 => ?_)
                clear hK K hHeld
                have hHeld := hHeld2
                clear hHeld2
                try simp only [Act.put, List.getElem_toArray, List.getElem_cons_zero, List.getElem_cons_succ]
                refine wpAnyH_done (by kernel_rfl) ?_ _
                refine NoPanic.normal ?_
                go_wp2_with fail
                go_meet
                exact RvSt.fin_ KeepX.true_ st _ _
          · go_simp
            replace st := st.as_ KeepX.true_ (n := w4.heap.size) (by simp)
            refine hK.out _ _ (m8_of HU.out.1 HU.out.2.1 st.1) (fun hHeld2 => ?_)
            clear hK K hHeld
            have hHeld := hHeld2
            clear hHeld2
            try simp only [Act.put, List.getElem_toArray, List.getElem_cons_zero, List.getElem_cons_succ, List.setIfInBounds_toArray, List.set_cons_zero, List.set_cons_succ]
            refine wpAnyH_ready (rs := [4, 10]) (by kernel_rfl) (by simp) ?_
            refine AllReadyH.cons rfl (fun K hK => ?_) (AllReadyH.cons rfl (fun K hK => ?_) AllReadyH.nil)
            · go_simp
              go_at_call 15
              refine (HN.out _ st.1).mono ?_
              rintro e w6 ⟨j, rfl, hj, hrj, hb6⟩
              replace st := st.new_ hj hrj hb6
              clear hj hrj hb6
              refine hK.out _ _ (m8_of HU.out.1 HU.out.2.1 st.1) (fun hHeld2 => ?_)
              clear hK K hHeld
              have hHeld := hHeld2
              clear hHeld2
              try simp only [Act.put, List.getElem_toArray, List.getElem_cons_zero, List.getElem_cons_succ, List.setIfInBounds_toArray, List.set_cons_zero, List.set_cons_succ]
              refine wpAnyH_ready (rs := [5, 10]) (by kernel_rfl) (by simp) ?_
              refine AllReadyH.cons rfl (fun K hK => ?_) (AllReadyH.cons rfl (fun K hK => ?_) AllReadyH.nil)
              · go_simp
                go_at_call 14
                refine (HR.out j _ st.1 st.le_ st.rdr_).mono ?_
                rintro e w8 ⟨rfl, R8, hX8⟩
                replace st := st.read_ R8 hX8
                clear R8 hX8
                refine hK.out _ _ (m8_of HU.out.1 HU.out.2.1 st.1) (fun hHeld2 => ?_)
                clear hK K hHeld
                have hHeld := hHeld2
                clear hHeld2
                try simp only [Act.put, List.getElem_toArray, List.getElem_cons_zero, List.getElem_cons_succ, List.setIfInBounds_toArray, List.set_cons_zero, List.set_cons_succ]
                refine wpAnyH_take (i := 6) (v := ?_) rfl (by kernel_rfl) (by kernel_rfl) (by kernel_rfl) (fun _ _ _ h => h) (Or.inl ⟨by rfl, ?_⟩) (by assumption) ?_
                rotate_left
                · (intro W hSw; obtain ⟨s0, s1, s2, s3, s4, s5, s6⟩ := hSw; go_simp; try with_reducible rfl)
                simp only [Act.put, List.getElem_toArray, List.getElem_cons_zero, List.getElem_cons_succ, List.setIfInBounds_toArray, List.set_cons_zero, List.set_cons_succ]
                refine wpAnyH_take (i := 7) (v := ?_) rfl (by kernel_rfl) (by kernel_rfl) (by kernel_rfl) (fun _ _ _ h => h) (Or.inl ⟨by rfl, ?_⟩) (by assumption) ?_
                rotate_left
                · (intro W hSw; obtain ⟨s0, s1, s2, s3, s4, s5, s6⟩ := hSw; go_simp; try with_reducible rfl)
                simp only [Act.put, List.getElem_toArray, List.getElem_cons_zero, List.getElem_cons_succ, List.setIfInBounds_toArray, List.set_cons_zero, List.set_cons_succ]
                refine wpAnyH_take (i := 8) (v := ?_) rfl (by kernel_rfl) (by kernel_rfl) (by kernel_rfl) (fun _ _ _ h => h) (Or.inl ⟨by rfl, ?_⟩) (by assumption) ?_
                rotate_left
                · (intro W hSw; obtain ⟨s0, s1, s2, s3, s4, s5, s6⟩ := hSw; go_simp; try with_reducible rfl)
                simp only [Act.put, List.getElem_toArray, List.getElem_cons_zero, List.getElem_cons_succ, List.setIfInBounds_toArray, List.set_cons_zero, List.set_cons_succ]
                refine wpAnyH_ready (rs := [10]) (by kernel_rfl) (by simp) ?_
                refine AllReadyH.cons rfl (fun K hK => ?_) AllReadyH.nil
                go_simp
                replace st := st.vs_ KeepX.true_ (n := w8.heap.size) (by simp)
                refine hK.out _ _ (m8_of HU.out.1 HU.out.2.1 st.1) (fun hHeld2 => ?_)
                clear hK K hHeld
                have hHeld := hHeld2
                clear hHeld2
                try simp only [Act.put, List.getElem_toArray, List.getElem_cons_zero, List.getElem_cons_succ, List.setIfInBounds_toArray, List.set_cons_zero, List.set_cons_succ]
                refine wpAnyH_ready (rs := [11]) (by kernel_rfl) (by simp) ?_
                refine AllReadyH.cons rfl (fun K hK => ?_) AllReadyH.nil
                refine step_store_rowV rfl _ _ _ rfl _ #[.int .i64 0, .bool false, .int .u32 0, .int .u32 0, .slice none 0 0, .slice none 0 0, .slice none 0 0, .int .i64 0, .slice none 0 0] rfl rfl 30 zA9 st.a_ (at_infoM _ _ _ _ _ _ _ _ _) rfl (at_oneV _ _ _ _ _ _ _ _ _ _ _ _ _ _ _ _ _) ?_
                refine hK.out _ _ (m8_of HU.out.1 HU.out.2.1 (st.b1_ _)) (fun hHeld2 => ?_)
                clear hK K hHeld
                have hHeld := hHeld2
                clear hHeld2
                try simp only [Act.put, List.getElem_toArray, List.getElem_cons_zero, List.getElem_cons_succ]
                refine wpAnyH_ready (rs := [12]) (by kernel_rfl) (by simp) ?_
                refine AllReadyH.cons rfl (fun K hK => ?_) AllReadyH.nil
                refine step_store_rowV rfl _ _ _ rfl _ #[.int .i64 1, .int .i64 0, .int .i64 0, .slice none 0 0, .int .i64 0] rfl rfl 38 zV5 (st.v_ _) (vd_infoM _ _ _ _ _) rfl (vd_oneM _ _ _ _) ?_
                refine hK.out _ _ (m8_of HU.out.1 HU.out.2.1 (st.b2_ _ _)) (fun hHeld2 => ?_)
                clear hK K hHeld
                have hHeld := hHeld2
                clear hHeld2
                try simp only [Act.put, List.getElem_toArray, List.getElem_cons_zero, List.getElem_cons_succ]
                refine wpAnyH_done (by kernel_rfl) ?_ _
                refine NoPanic.normal ?_
                go_wp2_with fail
                go_meet
                exact RvSt.fin_ KeepX.true_ st _ _
              · go_simp
                replace st := st.vs_ KeepX.true_ (n := w6.heap.size) (by simp)
                refine hK.out _ _ (m8_of HU.out.1 HU.out.2.1 st.1) (fun hHeld2 => ?_)
                clear hK K hHeld
                have hHeld := hHeld2
                clear hHeld2
                try simp only [Act.put, List.getElem_toArray, List.getElem_cons_zero, List.getElem_cons_succ, List.setIfInBounds_toArray, List.set_cons_zero, List.set_cons_succ]
                refine wpAnyH_ready (rs := [5]) (by kernel_rfl) (by simp) ?_
                refine AllReadyH.cons rfl (fun K hK => ?_) AllReadyH.nil
                go_simp
                go_at_call 14
                refine (HR.out j _ st.1 st.le_ st.rdr_).mono ?_
                rintro e w8 ⟨rfl, R8, hX8⟩
                replace st := st.read_ R8 hX8
                clear R8 hX8
                refine hK.out _ _ (m8_of HU.out.1 HU.out.2.1 st.1) (fun hHeld2 => ?_)
                clear hK K hHeld
                have hHeld := hHeld2
                clear hHeld2
                try simp only [Act.put, List.getElem_toArray, List.getElem_cons_zero, List.getElem_cons_succ, List.setIfInBounds_toArray, List.set_cons_zero, List.set_cons_succ]
                refine wpAnyH_take (i := 6) (v := ?_) rfl (by kernel_rfl) (by kernel_rfl) (by kernel_rfl) (fun _ _ _ h => h) (Or.inl ⟨by rfl, ?_⟩) (by assumption) ?_
                rotate_left
                · (intro W hSw; obtain ⟨s0, s1, s2, s3, s4, s5, s6⟩ := hSw; go_simp; try with_reducible rfl)
                simp only [Act.put, List.getElem_toArray, List.getElem_cons_zero, List.getElem_cons_succ, List.setIfInBounds_toArray, List.set_cons_zero, List.set_cons_succ]
                refine wpAnyH_take (i := 7) (v := ?_) rfl (by kernel_rfl) (by kernel_rfl) (by kernel_rfl) (fun _ _ _ h => h) (Or.inl ⟨by rfl, ?_⟩) (by assumption) ?_
                rotate_left
                · (intro W hSw; obtain ⟨s0, s1, s2, s3, s4, s5, s6⟩ := hSw; go_simp; try with_reducible rfl)
                simp only [Act.put, List.getElem_toArray, List.getElem_cons_zero, List.getElem_cons_succ, List.setIfInBounds_toArray, List.set_cons_zero, List.set_cons_succ]
                refine wpAnyH_take (i := 8) (v := ?_) rfl (by kernel_rfl) (by kernel_rfl) (by kernel_rfl) (fun _ _ _ h => h) (Or.inl ⟨by rfl, ?_⟩) (by assumption) ?_
                rotate_left
                · (intro W hSw; obtain ⟨s0, s1, s2, s3, s4, s5, s6⟩ := hSw; go_simp; try with_reducible rfl)
                simp only [Act.put, List.getElem_toArray, List.getElem_cons_zero, List.getElem_cons_succ, List.setIfInBounds_toArray, List.set_cons_zero, List.set_cons_succ]
                refine wpAnyH_ready (rs := [11]) (by kernel_rfl) (by simp) ?_
                refine AllReadyH.cons rfl (fun K hK => ?_) AllReadyH.nil
                refine step_store_rowV rfl _ _ _ rfl _ #[.int .i64 0, .bool false, .int .u32 0, .int .u32 0, .slice none 0 0, .slice none 0 0, .slice none 0 0, .int .i64 0, .slice none 0 0] rfl rfl 30 zA9 st.a_ (at_infoM _ _ _ _ _ _ _ _ _) rfl (at_oneV _ _ _ _ _ _ _ _ _ _ _ _ _ _ _ _ _) ?_
                refine hK.out _ _ (m8_of HU.out.1 HU.out.2.1 (st.b1_ _)) (fun hHeld2 => ?_)
                clear hK K hHeld
                have hHeld := hHeld2
                clear hHeld2
                try simp only [Act.put, List.getElem_toArray, List.getElem_cons_zero, List.getElem_cons_succ]
                refine wpAnyH_ready (rs := [12]) (by kernel_rfl) (by simp) ?_
                refine AllReadyH.cons rfl (fun K hK => ?_) AllReadyH.nil
                refine step_store_rowV rfl _ _ _ rfl _ #[.int .i64 1, .int .i64 0, .int .i64 0, .slice none 0 0, .int .i64 0] rfl rfl 38 zV5 (st.v_ _) (vd_infoM _ _ _ _ _) rfl (vd_oneM _ _ _ _) ?_
                refine hK.out _ _ (m8_of HU.out.1 HU.out.2.1 (st.b2_ _ _)) (fun hHeld2 => ?_)
                clear hK K hHeld
                have hHeld := hHeld2
                clear hHeld2
                try simp only [Act.put, List.getElem_toArray, List.getElem_cons_zero, List.getElem_cons_succ]
                refine wpAnyH_done (by kernel_rfl) ?_ _
                refine NoPanic.normal ?_
                go_wp2_with fail
                go_meet
                exact RvSt.fin_ KeepX.true_ st _ _
            · go_simp
              replace st := st.vs_ KeepX.true_ (n := w4.heap.size + 1) (by simp)
              refine hK.out _ _ (m8_of HU.out.1 HU.out.2.1 st.1) (fun hHeld2 => ?_)
              clear hK K hHeld
              have hHeld := hHeld2
              clear hHeld2
              try simp only [Act.put, List.getElem_toArray, List.getElem_cons_zero, List.getElem_cons_succ, List.setIfInBounds_toArray, List.set_cons_zero, List.set_cons_succ]
              refine wpAnyH_ready (rs := [4]) (by kernel_rfl) (by simp) ?_
              refine AllReadyH.cons rfl (fun K hK => ?_) AllReadyH.nil
              go_simp
              go_at_call 15
              refine (HN.out _ st.1).mono ?_
              rintro e w6 ⟨j, rfl, hj, hrj, hb6⟩
              replace st := st.new_ hj hrj hb6
              clear hj hrj hb6
              refine hK.out _ _ (m8_of HU.out.1 HU.out.2.1 st.1) (fun hHeld2 => ?_)
              clear hK K hHeld
              have hHeld := hHeld2
              clear hHeld2
              try simp only [Act.put, List.getElem_toArray, List.getElem_cons_zero, List.getElem_cons_succ, List.setIfInBounds_toArray, List.set_cons_zero, List.set_cons_succ]
              refine wpAnyH_ready (rs := [5]) (by kernel_rfl) (by simp) ?_
              refine AllReadyH.cons rfl (fun K hK => ?_) AllReadyH.nil
              go_simp
              go_at_call 14
              refine (HR.out j _ st.1 st.le_ st.rdr_).mono ?_
              rintro e w8 ⟨rfl, R8, hX8⟩
              replace st := st.read_ R8 hX8
              clear R8 hX8
              refine hK.out _ _ (m8_of HU.out.1 HU.out.2.1 st.1) (fun hHeld2 => ?_)
              clear hK K hHeld
              have hHeld := hHeld2
              clear hHeld2
              try simp only [Act.put, List.getElem_toArray, List.getElem_cons_zero, List.getElem_cons_succ, List.setIfInBounds_toArray, List.set_cons_zero, List.set_cons_succ]
              refine wpAnyH_take (i := 6) (v := ?_) rfl (by kernel_rfl) (by kernel_rfl) (by kernel_rfl) (fun _ _ _ h => h) (Or.inl ⟨by rfl, ?_⟩) (by assumption) ?_
              rotate_left
              · (intro W hSw; obtain ⟨s0, s1, s2, s3, s4, s5, s6⟩ := hSw; go_simp; try with_reducible rfl)
              simp only [Act.put, List.getElem_toArray, List.getElem_cons_zero, List.getElem_cons_succ, List.setIfInBounds_toArray, List.set_cons_zero, List.set_cons_succ]
              refine wpAnyH_take (i := 7) (v := ?_) rfl (by kernel_rfl) (by kernel_rfl) (by kernel_rfl) (fun _ _ _ h => h) (Or.inl ⟨by rfl, ?_⟩) (by assumption) ?_
              rotate_left
              · (intro W hSw; obtain ⟨s0, s1, s2, s3, s4, s5, s6⟩ := hSw; go_simp; try with_reducible rfl)
              simp only [Act.put, List.getElem_toArray, List.getElem_cons_zero, List.getElem_cons_succ, List.setIfInBounds_toArray, List.set_cons_zero, List.set_cons_succ]
              refine wpAnyH_take (i := 8) (v := ?_) rfl (by kernel_rfl) (by kernel_rfl) (by kernel_rfl) (fun _ _ _ h => h) (Or.inl ⟨by rfl, ?_⟩) (by assumption) ?_
              rotate_left
              · (intro W hSw; obtain ⟨s0, s1, s2, s3, s4, s5, s6⟩ := hSw; go_simp; try with_reducible rfl)
              simp only [Act.put, List.getElem_toArray, List.getElem_cons_zero, List.getElem_cons_succ, List.setIfInBounds_toArray, List.set_cons_zero, List.set_cons_succ]
              refine wpAnyH_ready (rs := [11]) (by kernel_rfl) (by simp) ?_
              refine AllReadyH.cons rfl (fun K hK => ?_) AllReadyH.nil
              refine step_store_rowV rfl _ _ _ rfl _ #[.int .i64 0, .bool false, .int .u32 0, .int .u32 0, .slice none 0 0, .slice none 0 0, .slice none 0 0, .int .i64 0, .slice none 0 0] rfl rfl 30 zA9 st.a_ (at_infoM _ _ _ _ _ _ _ _ _) rfl (at_oneV _ _ _ _ _ _ _ _ _ _ _ _ _ _ _ _ _) ?_
              refine hK.out _ _ (m8_of HU.out.1 HU.out.2.1 (st.b1_ _)) (fun hHeld2 => ?_)
              clear hK K hHeld
              have hHeld := hHeld2
              clear hHeld2
              try simp only [Act.put, List.getElem_toArray, List.getElem_cons_zero, List.getElem_cons_succ]
              refine wpAnyH_ready (rs := [12]) (by kernel_rfl) (by simp) ?_
              refine AllReadyH.cons rfl (fun K hK => ?_) AllReadyH.nil
              refine step_store_rowV rfl _ _ _ rfl _ #[.int .i64 1, .int .i64 0, .int .i64 0, .slice none 0 0, .int .i64 0] rfl rfl 38 zV5 (st.v_ _) (vd_infoM _ _ _ _ _) rfl (vd_oneM _ _ _ _) ?_
              refine hK.out _ _ (m8_of HU.out.1 HU.out.2.1 (st.b2_ _ _)) (fun hHeld2 => ?_)
              clear hK K hHeld
              have hHeld := hHeld2
              clear hHeld2
              try simp only [Act.put, List.getElem_toArray, List.getElem_cons_zero, List.getElem_cons_succ]
              refine wpAnyH_done (by kernel_rfl) ?_ _
              refine NoPanic.normal ?_
              go_wp2_with fail
              go_meet
              exact RvSt.fin_ KeepX.true_ st _ _
          · go_simp
            replace st := st.vs_ KeepX.true_ (n := w4.heap.size) (by simp)
            refine hK.out _ _ (m8_of HU.out.1 HU.out.2.1 st.1) (fun hHeld2 => ?_)
            clear hK K hHeld
            have hHeld := hHeld2
            clear hHeld2
            try simp only [Act.put, List.getElem_toArray, List.getElem_cons_zero, List.getElem_cons_succ, List.setIfInBounds_toArray, List.set_cons_zero, List.set_cons_succ]
            refine wpAnyH_ready (rs := [4, 9]) (by kernel_rfl) (by simp) ?_
            refine AllReadyH.cons rfl (fun K hK => ?_) (AllReadyH.cons rfl (fun K hK => ?_) AllReadyH.nil)
            · go_simp
              go_at_call 15
              refine (HN.out _ st.1).mono ?_
              rintro e w6 ⟨j, rfl, hj, hrj, hb6⟩
              replace st := st.new_ hj hrj hb6
              clear hj hrj hb6
              refine hK.out _ _ (m8_of HU.out.1 HU.out.2.1 st.1) (fun hHeld2 => ?_)
              clear hK K hHeld
              have hHeld := hHeld2
              clear hHeld2
              try simp only [Act.put, List.getElem_toArray, List.getElem_cons_zero, List.getElem_cons_succ, List.setIfInBounds_toArray, List.set_cons_zero, List.set_cons_succ]
              refine wpAnyH_ready (rs := [5, 9]) (by kernel_rfl) (by simp) ?_
              refine AllReadyH.cons rfl (fun K hK => ?_) (AllReadyH.cons rfl (fun K hK => ?_) AllReadyH.nil)
              · go_simp
                go_at_call 14
                refine (HR.out j _ st.1 st.le_ st.rdr_).mono ?_
                rintro e w8 ⟨rfl, R8, hX8⟩
                replace st := st.read_ R8 hX8
                clear R8 hX8
                refine hK.out _ _ (m8_of HU.out.1 HU.out.2.1 st.1) (fun hHeld2 => ?_)
                clear hK K hHeld
                have hHeld := hHeld2
                clear hHeld2
                try simp only [Act.put, List.getElem_toArray, List.getElem_cons_zero, List.getElem_cons_succ, List.setIfInBounds_toArray, List.set_cons_zero, List.set_cons_succ]
                refine wpAnyH_take (i := 6) (v := ?_) rfl (by kernel_rfl) (by kernel_rfl) (by kernel_rfl) (fun _ _ _ h => h) (Or.inl ⟨by rfl, ?_⟩) (by assumption) ?_
                rotate_left
                · (intro W hSw; obtain ⟨s0, s1, s2, s3, s4, s5, s6⟩ := hSw; go_simp; try with_reducible rfl)
                simp only [Act.put, List.getElem_toArray, List.getElem_cons_zero, List.getElem_cons_succ, List.setIfInBounds_toArray, List.set_cons_zero, List.set_cons_succ]
                refine wpAnyH_take (i := 7) (v := ?_) rfl (by kernel_rfl) (by kernel_rfl) (by kernel_rfl) (fun _ _ _ h => h) (Or.inl ⟨by rfl, ?_⟩) (by assumption) ?_
                rotate_left
                · (intro W hSw; obtain ⟨s0, s1, s2, s3, s4, s5, s6⟩ := hSw; go_simp; try with_reducible rfl)
                simp only [Act.put, List.getElem_toArray, List.getElem_cons_zero, List.getElem_cons_succ, List.setIfInBounds_toArray, List.set_cons_zero, List.set_cons_succ]
                refine wpAnyH_take (i := 8) (v := ?_) rfl (by kernel_rfl) (by kernel_rfl) (by kernel_rfl) (fun _ _ _ h => h) (Or.inl ⟨by rfl, ?_⟩) (by assumption) ?_
                rotate_left
                · (intro W hSw; obtain ⟨s0, s1, s2, s3, s4, s5, s6⟩ := hSw; go_simp; try with_reducible rfl)
                simp only [Act.put, List.getElem_toArray, List.getElem_cons_zero, List.getElem_cons_succ, List.setIfInBounds_toArray, List.set_cons_zero, List.set_cons_succ]
                refine wpAnyH_ready (rs := [9]) (by kernel_rfl) (by simp) ?_
                refine AllReadyH.cons rfl (fun K hK => ?_) AllReadyH.nil
                go_simp
                replace st := st.as_ KeepX.true_ (n := w8.heap.size) (by simp)
                refine hK.out _ _ (m8_of HU.out.1 HU.out.2.1 st.1) (fun hHeld2 => ?_)
                clear hK K hHeld
                have hHeld := hHeld2
                clear hHeld2
                try simp only [Act.put, List.getElem_toArray, List.getElem_cons_zero, List.getElem_cons_succ, List.setIfInBounds_toArray, List.set_cons_zero, List.set_cons_succ]
                refine wpAnyH_ready (rs := [11]) (by kernel_rfl) (by simp) ?_
                refine AllReadyH.cons rfl (fun K hK => ?_) AllReadyH.nil
                refine step_store_rowV rfl _ _ _ rfl _ #[.int .i64 0, .bool false, .int .u32 0, .int .u32 0, .slice none 0 0, .slice none 0 0, .slice none 0 0, .int .i64 0, .slice none 0 0] rfl rfl 30 zA9 st.a_ (at_infoM _ _ _ _ _ _ _ _ _) rfl (at_oneV _ _ _ _ _ _ _ _ _ _ _ _ _ _ _ _ _) ?_
                refine hK.out _ _ (m8_of HU.out.1 HU.out.2.1 (st.b1_ _)) (fun hHeld2 => ?_)
                clear hK K hHeld
                have hHeld := hHeld2
                clear hHeld2
                try simp only [Act.put, List.getElem_toArray, List.getElem_cons_zero, List.getElem_cons_succ]
                refine wpAnyH_ready (rs := [12]) (by kernel_rfl) (by simp) ?_
                refine AllReadyH.cons rfl (fun K hK => ?_) AllReadyH.nil
                refine step_store_rowV rfl _ _ _ rfl _ #[.int .i64 1, .int .i64 0, .int .i64 0, .slice none 0 0, .int .i64 0] rfl rfl 38 zV5 (st.v_ _) (vd_infoM _ _ _ _ _) rfl (vd_oneM _ _ _ _) ?_
                refine hK.out _ _ (m8_of HU.out.1 HU.out.2.1 (st.b2_ _ _)) (fun hHeld2 => ?_)
                clear hK K hHeld
                have hHeld := hHeld2
                clear hHeld2
                try simp only [Act.put, List.getElem_toArray, List.getElem_cons_zero, List.getElem_cons_succ]
                refine wpAnyH_done (by kernel_rfl) ?_ _
                refine NoPanic.normal ?_
                go_wp2_with fail
                go_meet
                exact RvSt.fin_ KeepX.true_ st _ _
              · go_simp
                replace st := st.as_ KeepX.true_ (n := w6.heap.size) (by simp)
                refine hK.out _ _ (m8_of HU.out.1 HU.out.2.1 st.1) (fun hHeld2 => ?_)
                clear hK K hHeld
                have hHeld := hHeld2
                clear hHeld2
                try simp only [Act.put, List.getElem_toArray, List.getElem_cons_zero, List.getElem_cons_succ, List.setIfInBounds_toArray, List.set_cons_zero, List.set_cons_succ]
                refine wpAnyH_ready (rs := [5]) (by kernel_rfl) (by simp) ?_
                refine AllReadyH.cons rfl (fun K hK => ?_) AllReadyH.nil
                go_simp
                go_at_call 14
                refine (HR.out j _ st.1 st.le_ st.rdr_).mono ?_
                rintro e w8 ⟨rfl, R8, hX8⟩
                replace st := st.read_ R8 hX8
                clear R8 hX8
                refine hK.out _ _ (m8_of HU.out.1 HU.out.2.1 st.1) (fun hHeld2 => ?_)
                clear hK K hHeld
                have hHeld := hHeld2
                clear hHeld2
                try simp only [Act.put, List.getElem_toArray, List.getElem_cons_zero, List.getElem_cons_succ, List.setIfInBounds_toArray, List.set_cons_zero, List.set_cons_succ]
                refine wpAnyH_take (i := 6) (v := ?_) rfl (by kernel_rfl) (by kernel_rfl) (by kernel_rfl) (fun _ _ _ h => h) (Or.inl ⟨by rfl, ?_⟩) (by assumption) ?_
                rotate_left
                · (intro W hSw; obtain ⟨s0, s1, s2, s3, s4, s5, s6⟩ := hSw; go_simp; try with_reducible rfl)
                simp only [Act.put, List.getElem_toArray, List.getElem_cons_zero, List.getElem_cons_succ, List.setIfInBounds_toArray, List.set_cons_zero, List.set_cons_succ]
                refine wpAnyH_take (i := 7) (v := ?_) rfl (by kernel_rfl) (by kernel_rfl) (by kernel_rfl) (fun _ _ _ h => h) (Or.inl ⟨by rfl, ?_⟩) (by assumption) ?_
                rotate_left
                · (intro W hSw; obtain ⟨s0, s1, s2, s3, s4, s5, s6⟩ := hSw; go_simp; try with_reducible rfl)
                simp only [Act.put, List.getElem_toArray, List.getElem_cons_zero, List.getElem_cons_succ, List.setIfInBounds_toArray, List.set_cons_zero, List.set_cons_succ]
                refine wpAnyH_take (i := 8) (v := ?_) rfl (by kernel_rfl) (by kernel_rfl) (by kernel_rfl) (fun _ _ _ h => h) (Or.inl ⟨by rfl, ?_⟩) (by assumption) ?_
                rotate_left
                · (intro W hSw; obtain ⟨s0, s1, s2, s3, s4, s5, s6⟩ := hSw; go_simp; try with_reducible rfl)
                simp only [Act.put, List.getElem_toArray, List.getElem_cons_zero, List.getElem_cons_succ, List.setIfInBounds_toArray, List.set_cons_zero, List.set_cons_succ]
                refine wpAnyH_ready (rs := [11]) (by kernel_rfl) (by simp) ?_
                refine AllReadyH.cons rfl (fun K hK => ?_) AllReadyH.nil
                refine step_store_rowV rfl _ _ _ rfl _ #[.int .i64 0, .bool false, .int .u32 0, .int .u32 0, .slice none 0 0, .slice none 0 0, .slice none 0 0, .int .i64 0, .slice none 0 0] rfl rfl 30 zA9 st.a_ (at_infoM _ _ _ _ _ _ _ _ _) rfl (at_oneV _ _ _ _ _ _ _ _ _ _ _ _ _ _ _ _ _) ?_
                refine hK.out _ _ (m8_of HU.out.1 HU.out.2.1 (st.b1_ _)) (fun hHeld2 => ?_)
                clear hK K hHeld
                have hHeld := hHeld2
                clear hHeld2
                try simp only [Act.put, List.getElem_toArray, List.getElem_cons_zero, List.getElem_cons_succ]
                refine wpAnyH_ready (rs := [12]) (by kernel_rfl) (by simp) ?_
                refine AllReadyH.cons rfl (fun K hK => ?_) AllReadyH.nil
                refine step_store_rowV rfl _ _ _ rfl _ #[.int .i64 1, .int .i64 0, .int .i64 0, .slice none 0 0, .int .i64 0] rfl rfl 38 zV5 (st.v_ _) (vd_infoM _ _ _ _ _) rfl (vd_oneM _ _ _ _) ?_
                refine hK.out _ _ (m8_of HU.out.1 HU.out.2.1 (st.b2_ _ _)) (fun hHeld2 => ?_)
                clear hK K hHeld
                have hHeld := hHeld2
                clear hHeld2
                try simp only [Act.put, List.getElem_toArray, List.getElem_cons_zero, List.getElem_cons_succ]
                refine wpAnyH_done (by kernel_rfl) ?_ _
                refine NoPanic.normal ?_
                go_wp2_with fail
                go_meet
                exact RvSt.fin_ KeepX.true_ st _ _
            · go_simp
              replace st := st.as_ KeepX.true_ (n := w4.heap.size + 1) (by simp)
              refine hK.out _ _ (m8_of HU.out.1 HU.out.2.1 st.1) (fun hHeld2 => ?_)
              clear hK K hHeld
              have hHeld := hHeld2
              clear hHeld2
              try simp only [Act.put, List.getElem_toArray, List.getElem_cons_zero, List.getElem_cons_succ, List.setIfInBounds_toArray, List.set_cons_zero, List.set_cons_succ]
              refine wpAnyH_ready (rs := [4]) (by kernel_rfl) (by simp) ?_
              refine AllReadyH.cons rfl (fun K hK => ?_) AllReadyH.nil
              go_simp
              go_at_call 15
              refine (HN.out _ st.1).mono ?_
              rintro e w6 ⟨j, rfl, hj, hrj, hb6⟩
              replace st := st.new_ hj hrj hb6
              clear hj hrj hb6
              refine hK.out _ _ (m8_of HU.out.1 HU.out.2.1 st.1) (fun hHeld2 => ?_)
              clear hK K hHeld
              have hHeld := hHeld2
              clear hHeld2
              try simp only [Act.put, List.getElem_toArray, List.getElem_cons_zero, List.getElem_cons_succ, List.setIfInBounds_toArray, List.set_cons_zero, List.set_cons_succ]
              refine wpAnyH_ready (rs := [5]) (by kernel_rfl) (by simp) ?_
              refine AllReadyH.cons rfl (fun K hK => ?_) AllReadyH.nil
              go_simp
              go_at_call 14
              refine (HR.out j _ st.1 st.le_ st.rdr_).mono ?_
              rintro e w8 ⟨rfl, R8, hX8⟩
              replace st := st.read_ R8 hX8
              clear R8 hX8
              refine hK.out _ _ (m8_of HU.out.1 HU.out.2.1 st.1) (fun hHeld2 => ?_)
              clear hK K hHeld
              have hHeld := hHeld2
              clear hHeld2
              try simp only [Act.put, List.getElem_toArray, List.getElem_cons_zero, List.getElem_cons_succ, List.setIfInBounds_toArray, List.set_cons_zero, List.set_cons_succ]
              refine wpAnyH_take (i := 6) (v := ?_) rfl (by kernel_rfl) (by kernel_rfl) (by kernel_rfl) (fun _ _ _ h => h) (Or.inl ⟨by rfl, ?_⟩) (by assumption) ?_
              rotate_left
              · (intro W hSw; obtain ⟨s0, s1, s2, s3, s4, s5, s6⟩ := hSw; go_simp; try with_reducible rfl)
              simp only [Act.put, List.getElem_toArray, List.getElem_cons_zero, List.getElem_cons_succ, List.setIfInBounds_toArray, List.set_cons_zero, List.set_cons_succ]
              refine wpAnyH_take (i := 7) (v := ?_) rfl (by kernel_rfl) (by kernel_rfl) (by kernel_rfl) (fun _ _ _ h => h) (Or.inl ⟨by rfl, ?_⟩) (by assumption) ?_
              rotate_left
              · (intro W hSw; obtain ⟨s0, s1, s2, s3, s4, s5, s6⟩ := hSw; go_simp; try with_reducible rfl)
              simp only [Act.put, List.getElem_toArray, List.getElem_cons_zero, List.getElem_cons_succ, List.setIfInBounds_toArray, List.set_cons_zero, List.set_cons_succ]
              refine wpAnyH_take (i := 8) (v := ?_) rfl (by kernel_rfl) (by kernel_rfl) (by kernel_rfl) (fun _ _ _ h => h) (Or.inl ⟨by rfl, ?_⟩) (by assumption) ?_
              rotate_left
              · (intro W hSw; obtain ⟨s0, s1, s2, s3, s4, s5, s6⟩ := hSw; go_simp; try with_reducible rfl)
              simp only [Act.put, List.getElem_toArray, List.getElem_cons_zero, List.getElem_cons_succ, List.setIfInBounds_toArray, List.set_cons_zero, List.set_cons_succ]
              refine wpAnyH_ready (rs := [11]) (by kernel_rfl) (by simp) ?_
              refine AllReadyH.cons rfl (fun K hK => ?_) AllReadyH.nil
              refine step_store_rowV rfl _ _ _ rfl _ #[.int .i64 0, .bool false, .int .u32 0, .int .u32 0, .slice none 0 0, .slice none 0 0, .slice none 0 0, .int .i64 0, .slice none 0 0] rfl rfl 30 zA9 st.a_ (at_infoM _ _ _ _ _ _ _ _ _) rfl (at_oneV _ _ _ _ _ _ _ _ _ _ _ _ _ _ _ _ _) ?_
              refine hK.out _ _ (m8_of HU.out.1 HU.out.2.1 (st.b1_ _)) (fun hHeld2 => ?_)
              clear hK K hHeld
              have hHeld := hHeld2
              clear hHeld2
              try simp only [Act.put, List.getElem_toArray, List.getElem_cons_zero, List.getElem_cons_succ]
              refine wpAnyH_ready (rs := [12]) (by kernel_rfl) (by simp) ?_
              refine AllReadyH.cons rfl (fun K hK => ?_) AllReadyH.nil
              refine step_store_rowV rfl _ _ _ rfl _ #[.int .i64 1, .int .i64 0, .int .i64 0, .slice none 0 0, .int .i64 0] rfl rfl 38 zV5 (st.v_ _) (vd_infoM _ _ _ _ _) rfl (vd_oneM _ _ _ _) ?_
              refine hK.out _ _ (m8_of HU.out.1 HU.out.2.1 (st.b2_ _ _)) (fun hHeld2 => ?_)
              clear hK K hHeld
              have hHeld := hHeld2
              clear hHeld2
              try simp only [Act.put, List.getElem_toArray, List.getElem_cons_zero, List.getElem_cons_succ]
              refine wpAnyH_done (by kernel_rfl) ?_ _
              refine NoPanic.normal ?_
              go_wp2_with fail
              go_meet
              exact RvSt.fin_ KeepX.true_ st _ _
        case rest =>
          obtain ⟨g8, g9, rfl, rfl, p8, p9, hbx, _⟩ := hcut
          clear st HN
          have hFx := HF.out _ hbx
          have v2 := HU.out.1.step hbx
          have v3 := HU.out.2.1.step hbx
          have v5 := HU.out.2.2.step hbx
          have b6 := bl_trans b5 hbx
          clear HU HF HBy HR hbx hFw
          go_wp2_with fail
          refine (HAl.out _ hFx).mono ?_
          rintro e w6 ⟨rfl, hb6⟩
          replace p8 := p8.step hb6
          replace p9 := p9.step hb6
          replace v2 := v2.step hb6
          replace v3 := v3.step hb6
          replace v5 := v5.step hb6
          replace b6 := bl_trans b6 hb6
          obtain ⟨c0, c1, c2, c3, c4⟩ := vd_cells p9
          clear p9 hb6 HAl hF5 hFx
          go_wp2_with fail
          refine (vsame_same 1 0 0 0 none none 0 0 0 0 [] _ (Bytes.nil _ _ _) (Bytes.nil _ _ _)).mono ?_
          rintro e w7 ⟨rfl, hb7⟩
          replace p8 := p8.step hb7
          replace v2 := v2.step hb7
          replace v3 := v3.step hb7
          replace v5 := v5.step hb7
          replace b6 := bl_trans b6 hb7
          obtain ⟨c0, c1, c2, c3, c4, c5, c6, c7, c8⟩ := at_cells p8
          clear p8 hb7
          go_wp2_with fail
          refine (rsame12_zero _).mono ?_
          rintro e w8 ⟨rfl, hb8⟩
          replace v2 := v2.step hb8
          replace v3 := v3.step hb8
          replace v5 := v5.step hb8
          replace b6 := bl_trans b6 hb8
          obtain ⟨e0, e1, e2, e3, e4, e5⟩ := six_cells v2
          obtain ⟨d0, d1, d2, d3, d4, d5, d6, d7, d8⟩ := at_cells v3
          clear v2 hb8 c0 c1 c2 c3 c4 c5 c6 c7 c8
          go_wp2_with fail
          refine (HV0.out _ b6).mono ?_
          rintro e w9 ⟨rfl, hb9⟩
          replace v3 := v3.step hb9
          replace v5 := v5.step hb9
          replace b6 := bl_trans b6 hb9
          clear hb9 e0 e1 e2 e3 e4 e5 d0 d1 d2 d3 d4 d5 d6 d7 d8
          obtain ⟨e0, e1, e2, e3, e4, e5⟩ := six_cells v5
          obtain ⟨d0, d1, d2, d3, d4, d5, d6, d7, d8⟩ := at_cells v3
          clear v3 v5
          go_wp2_with fail
          refine (HV1.out _ b6).mono ?_
          rintro e w10 ⟨rfl, hb10⟩
          have B6 := Lib.hid (bl_trans b6 hb10)
          clear hb10 b6 e0 e1 e2 e3 e4 e5 d0 d1 d2 d3 d4 d5 d6 d7 d8
          go_wp2
          go_ret
          exact ⟨rfl, B6.out⟩
      · go_wp2_with fail
        refine (HAl.out _ hF5).mono ?_
        rintro e w5 ⟨rfl, hb5⟩
        have B3 := Lib.hid (bl_trans b5 hb5)
        go_wp2
        go_ret
        exact ⟨rfl, B3.out⟩
end Go.Proofs.YtmlmgjdjbpipcaaDoor

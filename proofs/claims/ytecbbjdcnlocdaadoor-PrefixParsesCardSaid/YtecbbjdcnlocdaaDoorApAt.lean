/- append that tells where the row lies afterwards; what a call has left alone -/
import Derived.Test.YtecbbjdcnlocdaaDoorStepG
import Derived.Maps.AppendAt
import Derived.Deep.RegionLaw
namespace Go.Proofs.YtecbbjdcnlocdaaDoor
open Go.RowKit

/-- Only blocks of which P holds may have changed, and what is new. -/
structure Rest (w w' : World) (P : Nat → Prop) : Prop where
  os : w'.os = w.os
  tape : w'.tape = w.tape
  output : w'.output = w.output
  size : w.heap.size ≤ w'.heap.size
  block : ∀ i, i < w.heap.size → ¬ P i → w'.heap[i]? = w.heap[i]?
theorem Rest.refl (w : World) (P : Nat → Prop) : Rest w w P := ⟨rfl, rfl, rfl, Nat.le_refl _, fun _ _ _ => rfl⟩
theorem Rest.trans {a b c : World} {P Q : Nat → Prop} (h : Rest a b P) (k : Rest b c Q) (hq : ∀ i, i < a.heap.size → Q i → P i) : Rest a c P :=
  ⟨k.os.trans h.os, k.tape.trans h.tape, k.output.trans h.output, Nat.le_trans h.size k.size, fun i hi hn => (k.block i (Nat.lt_of_lt_of_le hi h.size) (fun q => hn (hq i hi q))).trans (h.block i hi hn)⟩
theorem Rest.mono {a b : World} {P Q : Nat → Prop} (h : Rest a b P) (hq : ∀ i, P i → Q i) : Rest a b Q := ⟨h.os, h.tape, h.output, h.size, fun i hi hn => h.block i hi (fun p => hn (hq i p))⟩
theorem Rest.of_below {a b : World} (h : Below a.heap.size a b) (P : Nat → Prop) : Rest a b P := ⟨h.os, h.tape, h.output, h.size, fun i hi _ => h.block i hi⟩
theorem Rest.below {a b c : World} {P : Nat → Prop} (h : Rest a b P) (k : Below b.heap.size b c) : Rest a c P := h.trans (Rest.of_below k (fun _ => False)) (fun _ _ f => f.elim)
theorem Rest.of_grown {a b : World} {row : Option Nat} {P : Nat → Prop} (h : a.grownBy b row) (hp : ∀ j, row = some j → P j) : Rest a b P :=
  ⟨h.os, h.tape, h.output, h.size, fun i hi hn => h.block i hi (fun e => hn (hp i e.symm))⟩
theorem Rest.setCell (w : World) (p : Addr) (u : Value) : Rest w (w.setCell p u) (fun i => i = p.block) :=
  ⟨rfl, rfl, rfl, by simp [World.setCell], fun i _ hn => Below.heap_setCell w p u i hn⟩
theorem Rest.to_below {a b : World} {P : Nat → Prop} (h : Rest a b P) {B : Nat} (hB : B ≤ a.heap.size) (hp : ∀ i, i < B → ¬ P i) : Below B a b :=
  ⟨h.os, h.tape, h.output, h.size, fun i hi => h.block i (Nat.lt_of_lt_of_le hi hB) (hp i hi)⟩
theorem Rest.own {a b : World} {P : Nat → Prop} (h : Rest a b P) {g : Nat} {t : TypeId} {cs : Array Value} (o : Own a g t cs) (hp : ¬ P g) : Own b g t cs := (h.block g o.lt hp).trans o
theorem Bytes.rest {w w' : World} {P : Nat → Prop} (h : Rest w w' P) {B n : Nat} {A : Option Addr} {xs : List Int} (hx : Bytes w B A n xs) (hB : B ≤ w.heap.size) (hp : ∀ a, A = some a → ¬ P a.block) : Bytes w' B A n xs := by
  refine ⟨hx.1, hx.2.1, ?_⟩
  rcases hx.2.2 with h0 | ⟨b, o, hA, hb, hc⟩
  · exact .inl h0
  · exact .inr ⟨b, o, hA, hb, fun i v hv => (World.cell?_of_block (a := ⟨b, o + i, none⟩) (h.block b (by omega) (hp _ hA))).trans (hc i v hv)⟩
/-- Block j holds cells of type t. -/
def Typed (w : World) (j : Nat) (t : TypeId) : Prop := ∃ cs, w.heap[j]? = some (.cells cs t (0, 0))
theorem Typed.lt {w : World} {j : Nat} {t : TypeId} (h : Typed w j t) : j < w.heap.size := by
  obtain ⟨cs, h⟩ := h
  exact (Array.getElem?_eq_some_iff.1 h).1
theorem Typed.ne {w : World} {j k : Nat} {t u : TypeId} (h : Typed w j t) (h' : Typed w k u) (hn : t ≠ u) : j ≠ k := by
  rintro rfl
  obtain ⟨cs, h⟩ := h
  obtain ⟨cs', h'⟩ := h'
  rw [h] at h'
  injection h' with h'
  injection h' with _ h' _
  exact hn h'
theorem Own.typed {w : World} {g : Nat} {t : TypeId} {cs : Array Value} (h : Own w g t cs) : Typed w g t := ⟨cs, h⟩
theorem row_typed {w : World} {base : Nat} {e : TypeId} {size n : Nat} {v : Value} {xs : List Value} (h : w.ownsRow base e size v n xs) {j : Nat} (hj : v.ownBlock = some j) : Typed w j e ∧ base ≤ j := by
  rcases h.2 with ⟨rfl, _⟩ | ⟨g, cap, cur, rfl, hb, hg, _⟩
  · cases hj
  · cases hj
    exact ⟨⟨cur, hg⟩, hb⟩
theorem own_form {w : World} {base : Nat} {e : TypeId} {size n : Nat} {v : Value} {xs : List Value} (h : w.ownsRow base e size v n xs) : ∃ A c, v = .slice A n c := by
  rcases h.2 with ⟨rfl, rfl⟩ | ⟨g, cap, cur, rfl, _⟩
  · exact ⟨none, 0, rfl⟩
  · exact ⟨_, cap, rfl⟩
theorem Typed.rest {w w' : World} {P : Nat → Prop} {j : Nat} {t : TypeId} (h : Typed w j t) (k : Rest w w' P) (hp : ¬ P j) : Typed w' j t := by
  obtain ⟨cs, hc⟩ := h
  exact ⟨cs, (k.block j (Typed.lt ⟨cs, hc⟩) hp).trans hc⟩
theorem Typed.below {w w' : World} {j : Nat} {t : TypeId} (h : Typed w j t) (k : Below w.heap.size w w') : Typed w' j t := h.rest (Rest.of_below k (fun _ => False)) (fun f => f)
theorem row_rest {w w' : World} {P : Nat → Prop} {base : Nat} {e : TypeId} {size n : Nat} {v : Value} {xs : List Value} (h : w.ownsRow base e size v n xs) (k : Rest w w' P) (hp : ∀ j, v.ownBlock = some j → ¬ P j) : w'.ownsRow base e size v n xs := by
  refine ⟨h.1, ?_⟩
  rcases h.2 with h0 | ⟨g, cap, cur, rfl, hb, hg, h3⟩
  · exact .inl h0
  · exact .inr ⟨g, cap, cur, rfl, hb, (k.block g (Array.getElem?_eq_some_iff.1 hg).1 (hp g rfl)).trans hg, h3⟩
section
variable {P : Program} (w : World)
theorem run_append_at {base : Nat} {t ty e : TypeId} {size bytes : Nat} (hS : SliceOf P t e size bytes) (v : Value) (n : Nat) (xs : List Value) (hown : w.ownsRow base e size v n xs)
    (B : Nat) (A : Option Addr) (m c : Nat) (news : List Value) (hn : news.length = m * size) (hs : Shows w B A news) (h1c : ∀ u ∈ news, u.oneCell' = true)
    (h63 : n + m ≤ maxLen) (hbytes : (n + m) * bytes ≤ 140737488355328) (hbase : base ≤ w.heap.size) :
    ∃ v' w', (Builtin.append_ #[t, t] ty #[v, .slice A m c]).run P w = .ok v' w' ∧ w'.ownsRow base e size v' (n + m) (xs ++ news) ∧ w.grownBy w' v.ownBlock ∧ (v'.ownBlock = v.ownBlock ∨ v'.ownBlock = some w.heap.size) := by
  have hS0 := hS
  obtain ⟨ht, h0, i, z, hi, hz, hsz, hby, hzs⟩ := hS
  rcases A with _ | ad
  · obtain rfl := hs.none_
    obtain rfl : m = 0 := by
      rcases Nat.eq_zero_or_pos m with h | h
      · exact h
      · have := Nat.mul_pos h h0
        simp at hn
        omega
    exact ⟨v, w, run_append_of_none w hS0 v n xs hown c, by simpa using hown, World.grownBy.refl _ _, .inl rfl⟩
  · obtain ⟨v', w', h1, h2, h3, _, h5⟩ := run_append_own_at (P := P) w base t ty e i z size bytes ht hi hz hsz hby hzs h0 v n xs hown ad m c news hn hs.add h1c h63 hbytes hbase
    exact ⟨v', w', h1, h2, h3, h5⟩
variable {ops : Array Oper} {rest : List Oper} {o : Oper} {a : Act} {Q : Exit → Act → World → Prop}
theorem wpList_append_at (hg : o.guard = none) (s x : Operand) {t e : TypeId} {size bytes : Nat} (hop : o.op = Op.call { callee := Callee.builtin Builtin.append, args := #[s, x], argTypes := #[t, t] }) (hS : SliceOf P t e size bytes)
    (base : Nat) (v : Value) (n : Nat) (xs : List Value) (hv : a.eval s = v) (hown : w.ownsRow base e size v n xs)
    (B : Nat) (A : Option Addr) (m c : Nat) (news : List Value) (hx : a.eval x = .slice A m c) (hn : news.length = m * size) (hs : Shows w B A news) (h1c : ∀ u ∈ news, u.oneCell' = true)
    (h63 : n + m ≤ maxLen) (hbytes : (n + m) * bytes ≤ 140737488355328) (hbase : base ≤ w.heap.size)
    (hK : ∀ v' w', w'.ownsRow base e size v' (n + m) (xs ++ news) → w.grownBy w' v.ownBlock → (v'.ownBlock = v.ownBlock ∨ v'.ownBlock = some w.heap.size) → wpList P ops Q rest (a.put o.dst v') w') :
    wpList P ops Q (o :: rest) a w := by
  refine wpList_plain hg fun K hK' => ?_
  obtain ⟨v', w', hrun, r1, r2, r3⟩ := run_append_at (P := P) (ty := o.type) w hS v n xs hown B A m c news hn hs h1c h63 hbytes hbase
  unfold Oper.wp
  simp [execOp, hop, resolve, invoke, builtin, hv, hx, hrun, Result.andThen]
  exact hK' _ _ (hK v' w' r1 r2 r3)
theorem step_append_at {K : Act → World → Prop} {E : Prop}
    (hg : o.guard = none) (s x : Operand) {t e : TypeId} {size bytes : Nat} (hop : o.op = Op.call { callee := Callee.builtin Builtin.append, args := #[s, x], argTypes := #[t, t] }) (hS : SliceOf P t e size bytes)
    (base : Nat) (v : Value) (n : Nat) (xs : List Value) (hv : a.eval s = v) (hown : w.ownsRow base e size v n xs)
    (B : Nat) (A : Option Addr) (m c : Nat) (news : List Value) (hx : a.eval x = .slice A m c) (hn : news.length = m * size) (hs : Shows w B A news) (h1c : ∀ u ∈ news, u.oneCell' = true)
    (h63 : n + m ≤ maxLen) (hbytes : (n + m) * bytes ≤ 140737488355328) (hbase : base ≤ w.heap.size)
    (hK : ∀ v' w', w'.ownsRow base e size v' (n + m) (xs ++ news) → w.grownBy w' v.ownBlock → (v'.ownBlock = v.ownBlock ∨ v'.ownBlock = some w.heap.size) → K (a.put o.dst v') w') :
    if Region.wanted o (yielded ops a.tmps) = true then Oper.wp P o a w K Q else E := by
  have hw : Region.wanted o (yielded ops a.tmps) = true := by simp [Region.wanted, hg]
  rw [if_pos hw]
  obtain ⟨v', w', hrun, r1, r2, r3⟩ := run_append_at (P := P) (ty := o.type) w hS v n xs hown B A m c news hn hs h1c h63 hbytes hbase
  unfold Oper.wp
  simp [execOp, hop, resolve, invoke, builtin, hv, hx, hrun, Result.andThen]
  exact hK _ _ r1 r2 r3
end
end Go.Proofs.YtecbbjdcnlocdaaDoor

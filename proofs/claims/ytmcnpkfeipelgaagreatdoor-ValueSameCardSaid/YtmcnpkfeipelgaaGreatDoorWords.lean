/- Words for memory that the walks of this seat share: a slice that shows a list of cells, a slice of bytes, a block known whole. -/
import Derived.WalkKit
import Derived.Lib.Hide
import Derived.Deep.Draws
namespace Go.Proofs.YtmcnpkfeipelgaaGreatDoor
open Go.RowKit

/-- The slice value at A shows the cells xs (one cell each); all of them lie in a block below B. -/
def Shows (w : World) (B : Nat) (A : Option Addr) (xs : List Value) : Prop :=
  xs = [] ∨ ∃ b o, A = some ⟨b, o, none⟩ ∧ b < B ∧ ∀ i v, xs[i]? = some v → w.cell? ⟨b, o + i, none⟩ = some v

theorem Shows.nil (w : World) (B : Nat) (A : Option Addr) : Shows w B A [] := .inl rfl
theorem Shows.at_ {w : World} {B : Nat} {A : Option Addr} {xs : List Value} (h : Shows w B A xs) {k : Nat} {v : Value} (hk : xs[k]? = some v) :
    ∃ b o, A = some ⟨b, o, none⟩ ∧ b < B ∧ w.cell? ⟨b, o + k, none⟩ = some v := by
  rcases h with rfl | ⟨b, o, rfl, hb, hc⟩
  · simp at hk
  · exact ⟨b, o, rfl, hb, hc k v hk⟩
theorem Shows.keep {w w' : World} {B : Nat} {A : Option Addr} {xs : List Value} (h : Shows w B A xs) (hk : ∀ b o, b < B → w'.cell? ⟨b, o, none⟩ = w.cell? ⟨b, o, none⟩) : Shows w' B A xs := by
  rcases h with rfl | ⟨b, o, rfl, hb, hc⟩
  · exact .inl rfl
  · exact .inr ⟨b, o, rfl, hb, fun i v hv => (hk b _ hb).trans (hc i v hv)⟩
theorem Shows.more {w : World} {B B' : Nat} {A : Option Addr} {xs : List Value} (h : Shows w B A xs) (hB : B ≤ B') : Shows w B' A xs := by
  rcases h with rfl | ⟨b, o, rfl, hb, hc⟩
  · exact .inl rfl
  · exact .inr ⟨b, o, rfl, by omega, hc⟩
theorem Shows.below {w w' : World} {B : Nat} {A : Option Addr} {xs : List Value} (h : Shows w B A xs) (hb : Below B w w') : Shows w' B A xs :=
  h.keep fun b o hlt => hb.cell (p := ⟨b, o, none⟩) hlt

/-- Element k of a list of numbers (closed to simp). -/
def nth (xs : List Int) (k : Nat) : Int := xs.getD k 0
theorem nth_some {xs : List Int} {k : Nat} (h : k < xs.length) : xs[k]? = some (nth xs k) := by simp [nth, h]
theorem nth_mem {xs : List Int} {k : Nat} (h : k < xs.length) : nth xs k ∈ xs := List.mem_of_getElem? (nth_some h)
theorem take_nth {xs : List Int} {k : Nat} (h : k < xs.length) : xs.take (k + 1) = xs.take k ++ [nth xs k] := by
  rw [List.take_add_one, nth_some h]; rfl
theorem drop_nth {xs : List Int} {k : Nat} (h : k < xs.length) : xs.drop k = nth xs k :: xs.drop (k + 1) := by
  rw [List.drop_eq_getElem_cons h]; simp [nth, h]

/-- n bytes at A. -/
def Bytes (w : World) (B : Nat) (A : Option Addr) (n : Nat) (xs : List Int) : Prop :=
  n = xs.length ∧ (∀ x ∈ xs, 0 ≤ x ∧ x ≤ 255) ∧ Shows w B A (xs.map (Value.int .u8))

theorem Bytes.at_ {w : World} {B : Nat} {A : Option Addr} {n : Nat} {xs : List Int} (h : Bytes w B A n xs) {k : Nat} (hk : k < n) :
    ∃ b o, A = some ⟨b, o, none⟩ ∧ b < B ∧ w.cell? ⟨b, o + k, none⟩ = some (.int .u8 (nth xs k)) ∧ 0 ≤ nth xs k ∧ nth xs k ≤ 255 := by
  obtain ⟨hn, hr, hs⟩ := h
  have hk' : k < xs.length := by omega
  have e := nth_some hk'
  have e2 : (xs.map (Value.int .u8))[k]? = some (.int .u8 (nth xs k)) := by rw [List.getElem?_map, e]; rfl
  obtain ⟨b, o, hA, hb, hc⟩ := hs.at_ e2
  have := hr _ (List.mem_of_getElem? e)
  exact ⟨b, o, hA, hb, hc, this.1, this.2⟩

/-- A slice type's row of the table: type t is a slice of e, whose values have so many cells and bytes. -/
def SliceOf (P : Program) (t e : TypeId) (size bytes : Nat) : Prop :=
  P.underlying t = some (.slice e) ∧ 0 < size ∧ ∃ i z, P.info? e = some i ∧ i.zero = some z ∧ i.size = size ∧ i.bytes = bytes ∧ z.cells.size = size
theorem SliceOf.mk {P : Program} {t e : TypeId} {size bytes : Nat} {z : Value} (h : P.underlying t = some (.slice e)) (hi : (P.info? e).map (fun i => (i.zero, i.size, i.bytes)) = some (some z, size, bytes)) (hz : z.cells.size = size) (h0 : 0 < size) :
    SliceOf P t e size bytes := by
  obtain ⟨i, h1, h2, h3, h4⟩ := info_parts hi
  exact ⟨h, h0, i, z, h1, h2, h3, h4, hz⟩

theorem Shows.add {w : World} {B : Nat} {ad : Addr} {xs : List Value} (h : Shows w B (some ad) xs) : ∀ j u, xs[j]? = some u → w.cell? (ad.add j) = some u := by
  intro j u hu
  obtain ⟨b, o, hA, hb, hc⟩ := h.at_ hu
  obtain rfl := Option.some.inj hA
  rw [Addr.add_lit]; exact hc
theorem Shows.none_ {w : World} {B : Nat} {xs : List Value} (h : Shows w B none xs) : xs = [] := by
  rcases h with h | ⟨b, o, hA, _⟩
  · exact h
  · cases hA
theorem Shows.of_own {w : World} {base : Nat} {e : TypeId} {size n c : Nat} {A : Option Addr} {xs : List Value} (h : w.ownsRow base e size (.slice A n c) n xs) : Shows w w.heap.size A xs := by
  rcases h.2 with ⟨hA, hn⟩ | ⟨g, cap, cur, hA, hb, hg, _⟩
  · left
    have := h.1
    subst hn
    exact List.eq_nil_of_length_eq_zero (by simpa using this)
  · injection hA with hA _ _
    subst hA
    refine .inr ⟨g, 0, rfl, (Array.getElem?_eq_some_iff.1 hg).1, fun i v hv => ?_⟩
    have := h.cells (g := g) rfl i v hv
    rw [Addr.add_lit] at this
    simpa using this

section
variable {P : Program} (w : World)
theorem run_append_of_none {base : Nat} {t ty e : TypeId} {size bytes : Nat} (hS : SliceOf P t e size bytes) (v : Value) (n : Nat) (xs : List Value) (hown : w.ownsRow base e size v n xs) (c : Nat) :
    (Builtin.append_ #[t, t] ty #[v, .slice none 0 c]).run P w = .ok v w := by
  obtain ⟨ht, _, i, z, hi, _⟩ := hS
  rcases hown.2 with ⟨rfl, rfl⟩ | ⟨g, cap, cur, rfl, _, _, hnc, _⟩
  · simp [Builtin.append_, run_underlying ht, sizeOf, typeInfo, hi, Builtin.lenOf, Builtin.firstCells]
  · simp [Builtin.append_, run_underlying ht, sizeOf, typeInfo, hi, Builtin.lenOf, Builtin.firstCells, hnc, storeCells]

/-- append within the capacity, whatever the source. -/
theorem run_append_roomy {base : Nat} {t ty e : TypeId} {size bytes : Nat} (hS : SliceOf P t e size bytes) (g k cap : Nat) (xs : List Value) (hown : w.ownsRow base e size (.slice (some ⟨g, 0, none⟩) k cap) k xs)
    (B : Nat) (A : Option Addr) (m c : Nat) (news : List Value) (hn : news.length = m * size) (hs : Shows w B A news) (h1c : ∀ u ∈ news, u.oneCell' = true) (b1 : k + m ≤ cap) :
    ∃ w', (Builtin.append_ #[t, t] ty #[.slice (some ⟨g, 0, none⟩) k cap, .slice A m c]).run P w = .ok (.slice (some ⟨g, 0, none⟩) (k + m) cap) w' ∧ w'.ownsRow base e size (.slice (some ⟨g, 0, none⟩) (k + m) cap) (k + m) (xs ++ news) ∧ w.grownBy w' (some g) := by
  have hS0 := hS
  obtain ⟨ht, h0, i, z, hi, hz, hsz, hby, hzs⟩ := hS
  rcases A with _ | ad
  · obtain rfl := hs.none_
    obtain rfl : m = 0 := by
      rcases Nat.eq_zero_or_pos m with h | h
      · exact h
      · have := Nat.mul_pos h h0
        simp at hn
        omega
    exact ⟨w, run_append_of_none w hS0 _ k xs hown c, by simpa using hown, World.grownBy.refl _ _⟩
  · exact run_append_fits (P := P) w base t ty e i size ht hi hsz g k cap xs hown ad m c news hn hs.add h1c b1

/-- append that may grow, whatever the source. -/
theorem run_append_grow {base : Nat} {t ty e : TypeId} {size bytes : Nat} (hS : SliceOf P t e size bytes) (v : Value) (n : Nat) (xs : List Value) (hown : w.ownsRow base e size v n xs)
    (B : Nat) (A : Option Addr) (m c : Nat) (news : List Value) (hn : news.length = m * size) (hs : Shows w B A news) (h1c : ∀ u ∈ news, u.oneCell' = true)
    (h63 : n + m ≤ maxLen) (hbytes : (n + m) * bytes ≤ 140737488355328) (hbase : base ≤ w.heap.size) :
    ∃ v' w', (Builtin.append_ #[t, t] ty #[v, .slice A m c]).run P w = .ok v' w' ∧ w'.ownsRow base e size v' (n + m) (xs ++ news) ∧ w.grownBy w' v.ownBlock ∧ (v' = .slice none 0 0 ↔ v = .slice none 0 0 ∧ m = 0) := by
  have hS0 := hS
  obtain ⟨ht, h0, i, z, hi, hz, hsz, hby, hzs⟩ := hS
  rcases A with _ | ad
  · obtain rfl := hs.none_
    obtain rfl : m = 0 := by
      rcases Nat.eq_zero_or_pos m with h | h
      · exact h
      · have := Nat.mul_pos h h0
        simp at hn
        omega
    exact ⟨v, w, run_append_of_none w hS0 v n xs hown c, by simpa using hown, World.grownBy.refl _ _, by simp⟩
  · exact run_append_own (P := P) w base t ty e i z size bytes ht hi hz hsz hby hzs h0 v n xs hown ad m c news hn hs.add h1c h63 hbytes hbase

variable {ops : Array Oper} {rest : List Oper} {o : Oper} {a : Act} {Q : Exit → Act → World → Prop}
theorem wpList_append_roomy (hg : o.guard = none) (s x : Operand) {t e : TypeId} {size bytes : Nat} (hop : o.op = Op.call { callee := Callee.builtin Builtin.append, args := #[s, x], argTypes := #[t, t] }) (hS : SliceOf P t e size bytes)
    (base g k cap : Nat) (xs : List Value) (hv : a.eval s = .slice (some ⟨g, 0, none⟩) k cap) (hown : w.ownsRow base e size (.slice (some ⟨g, 0, none⟩) k cap) k xs)
    (B : Nat) (A : Option Addr) (m c : Nat) (news : List Value) (hx : a.eval x = .slice A m c) (hn : news.length = m * size) (hs : Shows w B A news) (h1c : ∀ u ∈ news, u.oneCell' = true) (b1 : k + m ≤ cap)
    (hK : ∀ w', w'.ownsRow base e size (.slice (some ⟨g, 0, none⟩) (k + m) cap) (k + m) (xs ++ news) → w.grownBy w' (some g) → wpList P ops Q rest (a.put o.dst (.slice (some ⟨g, 0, none⟩) (k + m) cap)) w') :
    wpList P ops Q (o :: rest) a w := by
  refine wpList_plain hg fun K hK' => ?_
  obtain ⟨w', hrun, r1, r2⟩ := run_append_roomy (P := P) (ty := o.type) w hS g k cap xs hown B A m c news hn hs h1c b1
  unfold Oper.wp
  simp [execOp, hop, resolve, invoke, builtin, hv, hx, hrun, Result.andThen]
  exact hK' _ _ (hK w' r1 r2)

theorem wpList_append_grow (hg : o.guard = none) (s x : Operand) {t e : TypeId} {size bytes : Nat} (hop : o.op = Op.call { callee := Callee.builtin Builtin.append, args := #[s, x], argTypes := #[t, t] }) (hS : SliceOf P t e size bytes)
    (base : Nat) (v : Value) (n : Nat) (xs : List Value) (hv : a.eval s = v) (hown : w.ownsRow base e size v n xs)
    (B : Nat) (A : Option Addr) (m c : Nat) (news : List Value) (hx : a.eval x = .slice A m c) (hn : news.length = m * size) (hs : Shows w B A news) (h1c : ∀ u ∈ news, u.oneCell' = true)
    (h63 : n + m ≤ maxLen) (hbytes : (n + m) * bytes ≤ 140737488355328) (hbase : base ≤ w.heap.size)
    (hK : ∀ v' w', w'.ownsRow base e size v' (n + m) (xs ++ news) → w.grownBy w' v.ownBlock → wpList P ops Q rest (a.put o.dst v') w') :
    wpList P ops Q (o :: rest) a w := by
  refine wpList_plain hg fun K hK' => ?_
  obtain ⟨v', w', hrun, r1, r2, _⟩ := run_append_grow (P := P) (ty := o.type) w hS v n xs hown B A m c news hn hs h1c h63 hbytes hbase
  unfold Oper.wp
  simp [execOp, hop, resolve, invoke, builtin, hv, hx, hrun, Result.andThen]
  exact hK' _ _ (hK v' w' r1 r2)

/-- make([]T, 0, n). -/
theorem wpList_make_empty (hg : o.guard = none) (l c : Operand) {t e : TypeId} {size bytes : Nat} (hop : o.op = Op.makeSlice t l c) (hS : SliceOf P t e size bytes)
    (base : Nat) (kl kc : IntKind) (C : Int) (n : Nat) (hl : a.eval l = .int kl 0) (hc : a.eval c = .int kc C) (hC : C = (n : Int)) (b2 : bytes * n ≤ 281474976710656) (b3 : n ≤ maxLen) (b4 : base ≤ w.heap.size)
    (hK : ∀ w', w'.ownsRow base e size (.slice (some ⟨w.heap.size, 0, none⟩) 0 n) 0 [] → w.grownBy w' none → wpList P ops Q rest (a.put o.dst (.slice (some ⟨w.heap.size, 0, none⟩) 0 n)) w') :
    wpList P ops Q (o :: rest) a w := by
  obtain ⟨ht, h0, i, z, hi, hz, hsz, hby, hzs⟩ := hS
  exact wpList_make_own w hg l c t hop base e i z size ht hi hz hsz kl kc C n hl hc hC (by rw [hby]; exact b2) b3 b4 hK
end

theorem ints1 {k : IntKind} {zs : List Int} : ∀ u ∈ zs.map (Value.int k), u.oneCell' = true := ints_oneCell k zs
end Go.Proofs.YtmcnpkfeipelgaaGreatDoor

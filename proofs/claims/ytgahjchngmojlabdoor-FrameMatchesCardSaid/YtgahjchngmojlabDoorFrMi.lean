/- FrameMatches: what is so between two operations -/
import Derived.Test.YtgahjchngmojlabDoorFrOp
import Derived.Test.YtgahjchngmojlabDoorFrNi
namespace Go.Proofs.YtgahjchngmojlabDoor
open Go.RowKit

/-- The framer at g and the reference's state in block b are both in state s. -/
def MI (w wr : World) (g b : Nat) (s : FS) (K : Option Addr) (kn kc : Nat) (kb : Option Nat) (B' : Nat) : Prop :=
  FrIs wr B' g s kb ∧ Own wr b 34 (rfa s K kn kc) ∧ BT wr wr.heap.size K kn s.kept ∧ NB kb K s.kept ∧ Below w.heap.size w wr ∧ w.heap.size ≤ g ∧ w.heap.size ≤ b ∧ 0 < w.heap.size
theorem mi_types : (34 : TypeId) ≠ 5 ∧ (34 : TypeId) ≠ 76 ∧ (34 : TypeId) ≠ 51 ∧ (51 : TypeId) ≠ 76 ∧ (51 : TypeId) ≠ 5 := by decide
theorem MI.below {w wr wr' : World} {g b B' kn kc : Nat} {s : FS} {K : Option Addr} {kb : Option Nat} (h : MI w wr g b s K kn kc kb B') (k : Below wr.heap.size wr wr') : MI w wr' g b s K kn kc kb B' := by
  obtain ⟨h1, h2, h3, h4, h5, h6, h7, h8⟩ := h
  exact ⟨h1.below k, h2.step k, (h3.below k (Nat.le_refl _)).more k.size, h4, bl_trans h5 k, h6, h7, h8⟩
/-- What a change of the reference's state leaves. -/
theorem FrIs.box {w w' : World} {B g b : Nat} {s : FS} {kb : Option Nat} {cs : Array Value} (h : FrIs w B g s kb) (o : Own w b 34 cs) (hb : 0 < b) (R : Rest w w' (fun i => i = b)) : FrIs w' B g s kb :=
  h.rest R (fun e => o.typed.ne (e ▸ h.typed) mi_types.2.1 rfl) (fun j _ _ ht e => o.typed.ne (e ▸ ht) mi_types.1 rfl) (fun e => by have e2 : 0 = b := e; omega)
theorem BT.box {w w' : World} {b n : Nat} {A : Option Addr} {xs : List Int} {cs : Array Value} (h : BT w w.heap.size A n xs) (o : Own w b 34 cs) (R : Rest w w' (fun i => i = b)) : BT w' w'.heap.size A n xs :=
  (h.rest R (fun _ _ ht e => o.typed.ne (e ▸ ht) mi_types.1 rfl) (Nat.le_refl _)).more R.size
theorem below_box {w wr wr' : World} {b : Nat} (h : Below w.heap.size w wr) (R : Rest wr wr' (fun i => i = b)) (hb : w.heap.size ≤ b) : Below w.heap.size w wr' :=
  h.trans (R.to_below h.size (fun i hi e => by have e2 : i = b := e; omega))
set_option maxHeartbeats 1600000 in
/-- A Feed on both sides. -/
theorem MI.feed {w w1 w2 : World} {g b B' kn kc : Nat} {s s' : FS} {q : List EvP} {K : Option Addr} {kb : Option Nat} {e1 : Ending} (h : MI w w1 g b s K kn kc kb B') (ho : OneX (ZF w1 s K) s' q w1 e1 w2) :
    ∃ (K' : Option Addr) (n' c' : Nat) (Aw : Option Addr) (c2 nw : Nat), e1 = .returned (.tuple #[.agg (rfa s' K' n' c'), .slice Aw nw c2]) ∧ Own w2 b 34 (rfa s K kn kc) ∧ b < w2.heap.size ∧ Below w1.heap.size w1 w2 ∧
      ∀ w3, Own w3 b 34 (rfa s' K' n' c') → Rest w2 w3 (fun i => i = b) → w3.heap.size = w2.heap.size → FrIs w3 B' g s kb ∧ Below w.heap.size w w3 ∧ w.heap.size ≤ B' ∧
        ∀ w4 B'' kb' L v, FeedR w3 w4 B' g kb s' q B'' kb' L v → MI w w4 g b s' K' n' c' kb' B'' ∧ ∃ Lw : List Ev, nw = Lw.length ∧ Evs w4 w4.heap.size Aw nw Lw ∧ L.map Ev.p = Lw.map Ev.p := by
  obtain ⟨h1, h2, h3, h4, h5, h6, h7, h8⟩ := h
  obtain ⟨K', n', c', Aw, c2, Lw, rfl, hbt, hZ, hLo, hLp, hrw, hOk, hb⟩ := ho
  have hf2 := h1.below hb
  have o2 := h2.step hb
  have hs := hb.size
  have hg1 := h1.typed.lt
  have hb1 := h2.lt
  have hkb := h1.kb
  refine ⟨K', n', c', Aw, c2, Lw.length, rfl, o2, o2.lt, hb, fun w3 o3 R3 hs3 => ?_⟩
  have hf3 := hf2.box o2 (by omega) R3
  have hl3 := below_box (bl_trans h5 hb) R3 h7
  refine ⟨hf3, hl3, by have := h1.size; omega, fun w4 B'' kb' L v hR => ?_⟩
  obtain ⟨hp, hrow, hev, hf4, hBB, R4, hkb4⟩ := hR
  have R := (R3.mono (fun i e => (Or.inl e : i = b ∨ Pk g kb i))).trans R4 (fun i _ e => Or.inr e)
  have hP : ∀ i, w1.heap.size ≤ i → ¬ (i = b ∨ Pk g kb i) := fun i hi e => by
    rcases e with e | e | e
    · omega
    · omega
    · have := (hkb i e).2.2
      omega
  have hnk : ∀ a, K' = some a → s'.kept ≠ [] → kb ≠ some a.block := fun a ha hne e => by
    rcases hZ with hZ | ⟨rfl, hk⟩
    · rcases hZ with hZ | hZ
      · exact hne hZ
      · have h1 := hZ a ha
        have h2 := (hkb _ e).2.2
        omega
    · rcases h4 with h4 | h4
      · exact hne (hk.trans h4)
      · exact h4 a ha e
  have hK4 : BT w4 w4.heap.size K' n' s'.kept := (hbt.rest2 R (fun a ha hne ht e => by
    rcases e with e | e | e
    · exact o2.typed.ne (e ▸ ht) mi_types.1 rfl
    · exact ht.ne hf2.typed (Ne.symm fr_types.1) e
    · exact hnk a ha hne e) (Nat.le_refl _)).more R.size
  have hNB : NB kb' K' s'.kept := by
    by_cases hne : s'.kept = []
    · exact .inl hne
    · refine .inr (fun a ha e => ?_)
      rcases hkb4 with e4 | e4
      · rw [e4] at e
        exact hnk a ha hne e
      · have h1 := e4 _ e
        rcases hbt.1.2.2 with h0 | ⟨bb, oo, hA, hlt, _⟩
        · exact hne (List.map_eq_nil_iff.1 h0)
        · rw [ha] at hA
          cases hA
          dsimp only at h1
          omega
  have o4 := R4.own o3 (fun e => by
    rcases e with e | e
    · exact o3.typed.ne (e ▸ hf3.typed) mi_types.2.1 rfl
    · exact o3.typed.ne (hf3.kb _ e).2.1 mi_types.1 rfl)
  refine ⟨⟨hf4, o4, hK4, hNB, hl3.trans (hf3.low R4 h6), h6, h7, h8⟩, Lw, rfl, ?_, by rw [hp, hLp]⟩
  exact own_evs (row_rest hrw R (fun j hj => hP j (row_typed hrw hj).2)) (fun x hx => ((hOk x hx).rest2 (hLo x hx) R hP (Nat.le_refl _)).more R.size)
/-- The options set on both sides. -/
theorem MI.set_ {w w1 w2 w3 : World} {g b B' kn kc : Nat} {s : FS} {K : Option Addr} {kb : Option Nat} {p : O6} (h : MI w w1 g b s K kn kc kb B') (hf : FrIs w2 B' g { s with o := p } kb) (R : Rest w1 w2 (fun i => i = g)) (o3 : Own w3 b 34 (rfa { s with o := p } K kn kc)) (R3 : Rest w2 w3 (fun i => i = b)) : MI w w3 g b { s with o := p } K kn kc kb B' := by
  obtain ⟨h1, h2, h3, h4, h5, h6, h7, h8⟩ := h
  have o2 := R.own h2 (fun e => h2.typed.ne (e ▸ h1.typed) mi_types.2.1 rfl)
  have h3' : BT w2 w2.heap.size K kn s.kept := (h3.rest R (fun i _ ht e => ht.ne (e ▸ h1.typed) (Ne.symm fr_types.1) rfl) (Nat.le_refl _)).more R.size
  exact ⟨hf.box o2 (by omega) R3, o3, h3'.box o2 R3, h4, below_box (below_box h5 R h6) R3 h7, h6, h7, h8⟩
theorem MI.own2 {w w1 w2 : World} {g b B' kn kc : Nat} {s : FS} {K : Option Addr} {kb : Option Nat} (h : MI w w1 g b s K kn kc kb B') (R : Rest w1 w2 (fun i => i = g)) : Own w2 b 34 (rfa s K kn kc) := by
  obtain ⟨h1, h2, h3, h4, h5, h6, h7, h8⟩ := h
  exact R.own h2 (fun e => h2.typed.ne (e ▸ h1.typed) mi_types.2.1 rfl)
/-- Both sides closed. -/
theorem MI.shut {w w1 w2 w3 : World} {g b B' B2 kn kc : Nat} {s : FS} {K : Option Addr} {kb kb2 : Option Nat} (h : MI w w1 g b s K kn kc kb B') (hf : FrIs w2 B2 g s.shut kb2) (R : Rest w1 w2 (fun i => i = g)) (o3 : Own w3 b 34 (rfa s.shut none 0 0)) (R3 : Rest w2 w3 (fun i => i = b)) : MI w w3 g b s.shut none 0 0 kb2 B2 := by
  have o2 := h.own2 R
  obtain ⟨h1, h2, h3, h4, h5, h6, h7, h8⟩ := h
  exact ⟨hf.box o2 (by omega) R3, o3, BT.nil _ _ _, .inl rfl, below_box (below_box h5 R h6) R3 h7, h6, h7, h8⟩
end Go.Proofs.YtgahjchngmojlabDoor

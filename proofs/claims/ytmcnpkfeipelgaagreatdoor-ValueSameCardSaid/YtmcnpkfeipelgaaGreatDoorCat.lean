/- octet.Cat -/
import Derived.Test.YtmcnpkfeipelgaaGreatDoorWords
import Derived.Test.YtmcnpkfeipelgaaGreatDoorRows
namespace Go.Proofs.YtmcnpkfeipelgaaGreatDoor
open Go.RowKit

set_option maxRecDepth 100000 in
theorem sl_bytes : SliceOf Tryz.prog 25 5 1 1 := SliceOf.mk Tryz.underlying25 (z := .int .u8 0) (by kernel_rfl) rfl (by decide)

/-- A slice of bytes as a value, with what it holds. -/
structure Part where
  a : Option Addr
  n : Nat
  c : Nat
  xs : List Int
def Part.v (p : Part) : Value := .slice p.a p.n p.c
def Part.ok (w : World) (B : Nat) (p : Part) : Prop := Bytes w B p.a p.n p.xs
def flat (ps : List Part) : List Int := ps.flatMap Part.xs
def pth (ps : List Part) (k : Nat) : Part := ps.getD k ⟨none, 0, 0, []⟩
theorem pth_some {ps : List Part} {k : Nat} (h : k < ps.length) : ps[k]? = some (pth ps k) := by simp [pth, h]
theorem pth_mem {ps : List Part} {k : Nat} (h : k < ps.length) : pth ps k ∈ ps := List.mem_of_getElem? (pth_some h)
theorem flat_take {ps : List Part} {k : Nat} (h : k < ps.length) : flat (ps.take (k + 1)) = flat (ps.take k) ++ (pth ps k).xs := by
  unfold flat
  rw [List.take_add_one, pth_some h]; simp
def Parts (w : World) (B : Nat) (A : Option Addr) (n : Nat) (ps : List Part) : Prop :=
  n = ps.length ∧ (∀ p ∈ ps, p.ok w B) ∧ Shows w B A (ps.map Part.v)
theorem Parts.at_ {w : World} {B : Nat} {A : Option Addr} {n : Nat} {ps : List Part} (h : Parts w B A n ps) {k : Nat} (hk : k < n) :
    ∃ b o, A = some ⟨b, o, none⟩ ∧ b < B ∧ w.cell? ⟨b, o + k, none⟩ = some (.slice (pth ps k).a (pth ps k).n (pth ps k).c) ∧ Bytes w B (pth ps k).a (pth ps k).n (pth ps k).xs := by
  obtain ⟨hn, hp, hs⟩ := h
  have hk' : k < ps.length := by omega
  have e2 : (ps.map Part.v)[k]? = some (.slice (pth ps k).a (pth ps k).n (pth ps k).c) := by rw [List.getElem?_map, pth_some hk']; rfl
  obtain ⟨b, o, hA, hb, hc⟩ := hs.at_ e2
  exact ⟨b, o, hA, hb, hc, hp _ (pth_mem hk')⟩
theorem flat_len_take (ps : List Part) (k : Nat) : (flat (ps.take k)).length ≤ (flat ps).length := by
  have : flat ps = flat (ps.take k) ++ flat (ps.drop k) := by unfold flat; rw [← List.flatMap_append, List.take_append_drop]
  rw [this, List.length_append]; omega
theorem Parts.below {w w' : World} {B : Nat} {A : Option Addr} {n : Nat} {ps : List Part} (h : Parts w B A n ps) (hb : Below B w w') : Parts w' B A n ps :=
  ⟨h.1, fun p hp => ⟨(h.2.1 p hp).1, (h.2.1 p hp).2.1, (h.2.1 p hp).2.2.below hb⟩, h.2.2.below hb⟩

def lenTo (ps : List Part) (k : Nat) : Nat := (flat (ps.take k)).length
theorem lenTo_succ {ps : List Part} {w : World} {B k : Nat} (h : k < ps.length) (hp : ∀ p ∈ ps, p.ok w B) : lenTo ps (k + 1) = lenTo ps k + (pth ps k).n := by
  unfold lenTo; rw [flat_take h, List.length_append, (hp _ (pth_mem h)).1]
theorem lenTo_le (ps : List Part) (k : Nat) : lenTo ps k ≤ (flat ps).length := flat_len_take ps k
theorem lenTo_all (ps : List Part) : lenTo ps ps.length = (flat ps).length := by unfold lenTo; rw [List.take_length]

set_option maxRecDepth 100000 in
set_option maxHeartbeats 400000 in
theorem cat_any (A : Option Addr) (n c : Nat) (ps : List Part) (w : World) (hx : Parts w w.heap.size A n ps) (hn : n ≤ 1000000000) (hl : (flat ps).length ≤ 1000000000) :
    Calls Tryz.prog 38 #[.slice A n c] w fun e w' =>
      e = .returned (.slice (some ⟨w.heap.size, 0, none⟩) (flat ps).length (flat ps).length) ∧
      w'.ownsRow w.heap.size 5 1 (.slice (some ⟨w.heap.size, 0, none⟩) (flat ps).length (flat ps).length) (flat ps).length ((flat ps).map (Value.int .u8)) ∧ Below w.heap.size w w' := by
  have HN := Lib.hid hx.1
  go_enter Tryz.func38, Tryz.ntmps38
  go_wp2
  go_loop [3, 5, 11] (fun s _ i => ∃ k : Nat, k ≤ n ∧ i = .int .i64 k ∧ s = .int .i64 (lenTo ps k)) (fun _ _ i => n - (intOf i).toNat)
  case atStart => exact ⟨0, Nat.zero_le _, rfl, rfl⟩
  case round =>
    obtain ⟨k, hk, rfl, rfl⟩ := hrel
    have h1 := lenTo_le ps k
    have h2 := lenTo_le ps (k + 1)
    by_cases hlt : k < n
    · have hs := lenTo_succ (HN.out ▸ hlt) hx.2.1
      have h3 : lenTo ps k + (pth ps k).n ≤ 1000000000 := by omega
      have HS := Lib.hid hs
      clear hs
      obtain ⟨b, o, rfl, hb, hc, hB⟩ := hx.at_ hlt
      clear hB h2
      go_wp2
      go_round
      case rel => exact ⟨k + 1, by omega, by go_num, by rw [HS.out]; go_num⟩
      case measure => simp [intOf]; omega
    · have e : lenTo ps k = (flat ps).length := by
        have := HN.out
        rw [show k = ps.length by omega, lenTo_all]
      have HE := Lib.hid e
      clear e h2
      go_wp2_with (at_make; refine wpList_make_empty _ rfl _ _ rfl sl_bytes w.heap.size _ _ _ (lenTo ps k) rfl rfl rfl (by omega) (by unfold maxLen; omega) (Nat.le_refl _) ?_; intro w0 hown0 hgrow0)
      have hb0 : Below w.heap.size w w0 := (Below.refl _ _).grown hgrow0 (Nat.le_refl _) (fun k h => by cases h)
      clear hgrow0
      go_loopw [6, 8, 24] (fun v _ i wr => ∃ j : Nat, j ≤ n ∧ i = .int .i64 j ∧ v = .slice (some ⟨w.heap.size, 0, none⟩) (lenTo ps j) (lenTo ps k) ∧
        wr.ownsRow w.heap.size 5 1 (.slice (some ⟨w.heap.size, 0, none⟩) (lenTo ps j) (lenTo ps k)) (lenTo ps j) ((flat (ps.take j)).map (Value.int .u8)) ∧ Below w.heap.size w wr) (fun _ _ i _ => n - (intOf i).toNat)
      case atStart => exact ⟨0, Nat.zero_le _, rfl, rfl, hown0, hb0⟩
      case round =>
        obtain ⟨j, hj, rfl, rfl, hown, hb⟩ := hrel
        clear hown0 hb0
        have h1 := lenTo_le ps j
        have h2 := lenTo_le ps (j + 1)
        by_cases hlt : j < n
        · have hjl : j < ps.length := HN.out ▸ hlt
          have hs := lenTo_succ hjl hx.2.1
          have h4 : lenTo ps j + (pth ps j).n ≤ lenTo ps k := by rw [HE.out]; omega
          have HS := Lib.hid hs
          clear hs
          obtain ⟨bb, o, rfl, hbb, hc, hB⟩ := (hx.below hb).at_ hlt
          have hBs := hB.2.2
          have hBn := Lib.hid hB.1
          clear hB
          go_wp2_with (at_builtin; refine wpList_append_roomy _ rfl _ _ rfl sl_bytes w.heap.size _ (lenTo ps j) (lenTo ps k) _ rfl hown w.heap.size _ _ _ _ rfl (by have := hBn.out; simp; omega) hBs ints1 h4 ?_; intro w1 hown1 hgrow1)
          go_roundw
          case rel =>
            refine ⟨j + 1, by omega, by go_num, by rw [HS.out], ?_, hb.grown hgrow1 hb.size (fun k hk => by cases hk; exact Nat.le_refl _)⟩
            rw [HS.out, flat_take hjl, List.map_append]
            exact hown1
          case measure => simp [intOf]; omega
        · have e2 : lenTo ps j = (flat ps).length := by rw [show j = ps.length by have := HN.out; omega, lenTo_all]
          have e3 : flat (ps.take j) = flat ps := by rw [show j = ps.length by have := HN.out; omega, List.take_length]
          have HF := Lib.hid (And.intro e2 e3)
          clear e2 e3
          go_wp2
          go_ret
          obtain ⟨f1, f2⟩ := HF.out
          have f3 := HE.out
          rw [f1, f2, f3] at hown
          exact ⟨by show Ending.returned (.slice _ (lenTo ps j) (lenTo ps k)) = _; rw [f1, f3], hown, hb⟩
end Go.Proofs.YtmcnpkfeipelgaaGreatDoor

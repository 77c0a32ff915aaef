/- peerageref03.Read: what its loop wants -/
import Derived.Test.YteoegejbaahlpaaQread
import Derived.Test.YteoegejbaahlpaaNm
import Derived.Deep.Upon
import Derived.Lib.LazyBuf
namespace Go.Proofs.Yteoegejbaahlpaa
open Go.RowKit

def setMany (cs : Array Value) : Nat → List Value → Array Value
  | _, [] => cs
  | o, v :: r => setMany (cs.setIfInBounds o v) (o + 1) r
theorem Own.setCells {g : Nat} {t : TypeId} : ∀ (vs : List Value) (o : Nat) (w : World) (cs : Array Value), Own w g t cs → Own (w.setCells g o vs) g t (setMany cs o vs)
  | [], _, _, _, h => h
  | v :: r, o, w, cs, h => Own.setCells r (o + 1) (w.setCell ⟨g, o, none⟩ v) (cs.setIfInBounds o v) (h.set_ o v)
theorem setMany_rt (p : Int) {f l : Int} {a : List Int} (h : a.length = 16) : setMany (rt ⟨p, 0, 0, zero16⟩) 1 (pfx f l a).toList = rt ⟨p, f, l, a⟩ := by
  obtain ⟨x0, x1, x2, x3, x4, x5, x6, x7, x8, x9, x10, x11, x12, x13, x14, x15, rfl⟩ := list16 h
  kernel_rfl
theorem Own.setMid {w : World} {g : Nat} {t : TypeId} {p f l : Int} {a : List Int} (h : Own w g t (rt ⟨p, 0, 0, zero16⟩)) (ha : a.length = 16) : Own (w.setCells g 1 (pfx f l a).toList) g t (rt ⟨p, f, l, a⟩) := by
  have := Own.setCells (pfx f l a).toList 1 w _ h
  rwa [setMany_rt p ha] at this
theorem Own.farCells {w : World} {g b o : Nat} {t : TypeId} {cs : Array Value} {vs : List Value} (h : Own w g t cs) (hb : g ≠ b) : Own (w.setCells b o vs) g t cs := h.keep (World.heap_setCells_other w b o vs h.lt hb)
theorem Own.there {w : World} {g o n : Nat} {t : TypeId} {cs : Array Value} (h : Own w g t cs) (hn : o + n ≤ cs.size) : w.there g o n := fun j hj => by
  have hlt : o + j < cs.size := by omega
  refine ⟨?_, h.frozen _⟩
  rw [h.cell (i := o + j) (v := cs[o + j]) (Array.getElem?_eq_getElem hlt)]; rfl
set_option maxRecDepth 100000 in
theorem rread_any (f : Int) (A : Option Addr) (n c : Nat) (xs : List Int) (p : Nat) (w : World) (hx : Bytes w w.heap.size A n xs) (hc : n ≤ c) (hn : n ≤ 100000000) (hp : p ≤ 100000000) :
    Calls Try.prog 64 #[.int .i64 f, .agg #[.slice A n c, .int .i64 p]] w fun e w' => RReadTo f A n xs p e ∧ Below w.heap.size w w' := by
  match xs, hx with
  | [], hx => exact rread_nil f A n c p w hx.1
  | x :: ys, hx =>
    by_cases h1 : lenOk f x = true
    · by_cases h2 : (sizeOfBits x).toNat ≤ ys.length
      · exact rread_yes f A n c x ys p w hx hc hn hp h1 h2
      · exact rread_short f A n c x ys p w hx hc hn hp h1 (by omega)
    · exact rread_bad f A n c x ys p w hx hc hn hp (by simpa using h1)
/-- The reference's reader in block g of the world wr: behind the first p of the bytes xs, which lie below B. -/
def RefR (B : Nat) (wr : World) (g : Nat) (n p : Nat) (xs : List Int) : Prop :=
  ∃ A c, Own wr g 64 #[.slice A (n - p) c, .int .i64 p] ∧ n - p ≤ c ∧ Bytes wr B A (n - p) (xs.drop p)
end Go.Proofs.Yteoegejbaahlpaa

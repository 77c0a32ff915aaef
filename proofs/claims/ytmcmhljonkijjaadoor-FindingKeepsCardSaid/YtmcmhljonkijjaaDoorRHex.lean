/- peerageref11.Hex -/
import Derived.Test.YtmcmhljonkijjaaDoorHex
namespace Go.Proofs.YtmcmhljonkijjaaDoor
open Go.RowKit Go.Sort

theorem ba_two (L : List UInt8) (a b : UInt8) : (⟨L.toArray⟩ ++ ⟨#[a]⟩ ++ ⟨#[b]⟩ : ByteArray) = ⟨(L ++ [a, b]).toArray⟩ := by
  rw [show (⟨#[a]⟩ : ByteArray) = ⟨[a].toArray⟩ from rfl, show (⟨#[b]⟩ : ByteArray) = ⟨[b].toArray⟩ from rfl, ba_append, ba_append, List.append_assoc]
  rfl
theorem hexL_size (l : List UInt8) : (ByteArray.mk l.toArray).size = l.length := by simp [ByteArray.size]
end Go.Proofs.YtmcmhljonkijjaaDoor

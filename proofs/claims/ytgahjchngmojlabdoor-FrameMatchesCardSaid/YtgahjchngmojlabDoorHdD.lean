/- peerageref04.Bytes -/
import Derived.Test.YtgahjchngmojlabDoorHdC
import Derived.Test.YtgahjchngmojlabDoorRef1
namespace Go.Proofs.YtgahjchngmojlabDoor
open Go.RowKit

theorem three8 (a b c : Int) : ∀ u ∈ [Value.int .u8 a, Value.int .u8 b, Value.int .u8 c], u.oneCell' = true := by
  intro u hu
  simp at hu
  rcases hu with rfl | rfl | rfl <;> rfl
theorem hForm_eq {n k : Int} (h0 : 0 ≤ n) (h1 : n ≤ 65535) : (hForm n k).map (Value.int .u8) = (List.replicate 16 (255 : Int)).map (Value.int .u8) ++ [.int .u8 (n / 256), .int .u8 (n % 256), .int .u8 k] := by
  unfold hForm
  rw [show (2 : Int).toNat = 2 from rfl, digitsOf_2, show n / 256 % 256 = n / 256 by omega]
  simp
end Go.Proofs.YtgahjchngmojlabDoor

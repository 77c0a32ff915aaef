/- A world for the witness of a row that lists utf8's two tables -/
import Derived.Test.YtmcmhljonkijjaaDoorWords
import Derived.Test.YtmcmhljonkijjaaDoorRows
import Derived.Lib.LaidU8
import Derived.Lib.DecodeN
import Derived.LaidMore
import Derived.SevenTiedAt
import Derived.Stop.Joined
namespace Go.Proofs.YtmcmhljonkijjaaDoor
open Go.ChangeShapes Go.WideShapes Go.RowKit

/-- The settled world, utf8's two tables holding what they are. -/
noncomputable def pinWorld (os : Os) : World :=
  let w0 := World.doorLaid Tryd.prog 0 os
  let put (h : Array Obj) (g : Nat) (cs : Array Value) : Array Obj := h.modify g fun
    | .cells _ t frozen => .cells cs t frozen
    | o => o
  { w0 with heap := put (put w0.heap 5 (Lib.firstTab.map fun z => Value.int .u8 z).toArray) 6 ((List.range 16).flatMap fun i => [Value.int .u8 (Lib.accLo i), Value.int .u8 (Lib.accHi i)]).toArray }
set_option maxRecDepth 100000 in
theorem pin_met (os : Os) (args : Array Value) : laidMetH Tryd.prog Rows.optionParsesRow.laid ((pinWorld os).forCall (fun _ _ => 0) ⟨#[], args, []⟩).memory :=
  laidMetH_of_parts3 (fuel := 8) (laidMet_of_run' 8 (by kernel_rfl) (by kernel_rfl)) (by kernel_rfl) (by kernel_rfl)
set_option maxRecDepth 100000 in
theorem pin_shaped (os : Os) (args : Array Value) : ((pinWorld os).forCall (fun _ _ => 0) ⟨#[], args, []⟩).Shaped Tryd.prog := World.shaped_of_RefB (by kernel_rfl) (by kernel_rfl)
end Go.Proofs.YtmcmhljonkijjaaDoor

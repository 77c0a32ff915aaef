/- Struct arguments opened to their cells -/
import Derived.Test.YtecbbjdcnlocdaaDoorLeaf
import Derived.Lib.SmallJoins
namespace Go.Proofs.YtecbbjdcnlocdaaDoor
open Go.ChangeShapes Go.WideShapes Go.ChangeAt Go.RowKit Go.Deep

theorem arr3 {C : Array Value} {x y z : Value} (h : C.size = 3) (h0 : C.toList[0]? = some x) (h1 : C.toList[1]? = some y) (h2 : C.toList[2]? = some z) : C = #[x, y, z] := by
  obtain ⟨l⟩ := C
  match l, h, h0, h1, h2 with
  | [a, b, c], _, h0, h1, h2 =>
    simp at h0 h1 h2
    subst h0 h1 h2
    rfl
theorem arr6 {C : Array Value} {x y z u v t : Value} (h : C.size = 6) (h0 : C.toList[0]? = some x) (h1 : C.toList[1]? = some y) (h2 : C.toList[2]? = some z) (h3 : C.toList[3]? = some u) (h4 : C.toList[4]? = some v) (h5 : C.toList[5]? = some t) : C = #[x, y, z, u, v, t] := by
  obtain ⟨l⟩ := C
  match l, h, h0, h1, h2, h3, h4, h5 with
  | [a, b, c, d, e, f], _, h0, h1, h2, h3, h4, h5 =>
    simp at h0 h1 h2 h3 h4 h5
    subst h0 h1 h2 h3 h4 h5
    rfl
end Go.Proofs.YtecbbjdcnlocdaaDoor

/-
  Texts Hd of the proof.
-/
import Derived.ProofKit
import Derived.WalkKit

namespace Go.Proofs.YtipjmmhlfmahbaaGreatDoor
open Go.ChangeShapes Go.WideShapes Go.ChangeAt Go.RowKit
set_option linter.unusedVariables false
set_option linter.unusedSimpArgs false

theorem hide {p : Prop} (h : p) : Hid p := h
end Go.Proofs.YtipjmmhlfmahbaaGreatDoor

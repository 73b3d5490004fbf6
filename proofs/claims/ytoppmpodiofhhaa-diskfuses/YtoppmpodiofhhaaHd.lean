/-
  A fact that is kept from the walk, and given back. No program in sight.
-/
import Derived.WalkKit
import Derived.ProofKit
namespace Go.Proofs.Ytoppmpodiofhhaa
open Go.ChangeShapes Go.WideShapes Go.ChangeAt Go.RowKit
set_option linter.unusedVariables false
set_option linter.unusedSimpArgs false

theorem hide {p : Prop} (h : p) : Hid p := h
end Go.Proofs.Ytoppmpodiofhhaa

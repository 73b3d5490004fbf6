/-
  The reference's sum, bit by bit.
-/
import Derived.Test.YtdjpigjllienoaaDoorRefNum
import Derived.Deep.DeepCutAuto
namespace Go.Proofs.YtdjpigjllienoaaDoor
open Go.ChangeShapes Go.WideShapes Go.ChangeAt Go.RowKit
set_option linter.unusedVariables false
set_option linter.unusedSimpArgs false

end Go.Proofs.YtdjpigjllienoaaDoor
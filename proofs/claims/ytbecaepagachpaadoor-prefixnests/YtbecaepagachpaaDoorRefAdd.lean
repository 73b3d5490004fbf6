/-
  The reference's sum, bit by bit.
-/
import Derived.Test.YtbecaepagachpaaDoorRefNum
import Derived.Deep.DeepCutAuto
namespace Go.Proofs.YtbecaepagachpaaDoor
open Go.ChangeShapes Go.WideShapes Go.ChangeAt Go.RowKit
set_option linter.unusedVariables false
set_option linter.unusedSimpArgs false

end Go.Proofs.YtbecaepagachpaaDoor
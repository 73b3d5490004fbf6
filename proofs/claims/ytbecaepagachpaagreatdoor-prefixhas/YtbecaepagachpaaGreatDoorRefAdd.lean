/-
  The reference's sum, bit by bit.
-/
import Derived.Test.YtbecaepagachpaaGreatDoorRefNum
import Derived.Deep.DeepCutAuto
namespace Go.Proofs.YtbecaepagachpaaGreatDoor
open Go.ChangeShapes Go.WideShapes Go.ChangeAt Go.RowKit
set_option linter.unusedVariables false
set_option linter.unusedSimpArgs false

end Go.Proofs.YtbecaepagachpaaGreatDoor
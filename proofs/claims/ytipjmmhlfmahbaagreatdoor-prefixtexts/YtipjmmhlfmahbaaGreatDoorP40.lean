/-
  Texts APa of the proof.
-/
import Derived.Test.YtipjmmhlfmahbaaGreatDoorP31
import Derived.Test.YtipjmmhlfmahbaaGreatDoorP21
import Derived.Test.YtipjmmhlfmahbaaGreatDoorP39

namespace Go.Proofs.YtipjmmhlfmahbaaGreatDoor
open Go.ChangeShapes Go.WideShapes Go.ChangeAt Go.RowKit
set_option linter.unusedVariables false
set_option linter.unusedSimpArgs false

/-- Parse of the reference. -/
theorem rparse_c (s : ByteArray) (hs : s.size ≤ 1000) (w : World) :
    Calls Tryz.prog 18 #[.string s] w fun e w' => RPRet s.data.toList w e w' := by
  cases hc : colonF s.data.toList
  · exact rparse_short s hs hc w
  · exact rparse_long s hs hc w

end Go.Proofs.YtipjmmhlfmahbaaGreatDoor

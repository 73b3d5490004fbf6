/-
  Texts BmT of the proof.
-/
import Derived.Deep.RegionHeld
import Derived.Laws.CopyOwn
import Derived.Laws.CopyRow
import Derived.Test.YtighdocmncbdnaaGreatDoorQNil16

namespace Go.Proofs.YtighdocmncbdnaaGreatDoor
open Go.ChangeShapes Go.WideShapes Go.ChangeAt Go.RowKit
set_option linter.unusedVariables false
set_option linter.unusedSimpArgs false

theorem But.put (h i : Nat) (v : Value) (W : World) : But [h] W.heap.size W (W.setCell ⟨h, i, none⟩ v) :=
  ⟨rfl, rfl, rfl, by simp, fun k _ hn => Deep.blk_setCell_other _ ⟨h, i, none⟩ _ k (by simpa using hn)⟩

end Go.Proofs.YtighdocmncbdnaaGreatDoor

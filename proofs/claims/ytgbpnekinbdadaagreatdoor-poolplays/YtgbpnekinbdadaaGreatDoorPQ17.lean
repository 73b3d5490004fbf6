/-
  Texts PoDoor of the proof.
-/
import Derived.Test.YtgbpnekinbdadaaGreatDoorPQ16
import Derived.Test.YtgbpnekinbdadaaGreatDoorPQ11

namespace Go.Proofs.YtgbpnekinbdadaaGreatDoor
open Go.ChangeShapes Go.WideShapes Go.ChangeAt Go.RowKit
set_option linter.unusedVariables false

theorem tab_is : tabNums Rows.laid_math_bits_deBruijn64tab = Lib.deBruijn64tab.map (fun n : Nat => (n : Int)) := by kernel_rfl

theorem TB_of {W : World} (h : laidMetH Tryz.prog laid5 W) : TB W := by
 rw [MakeChecks.laidMetH_plain _ _ _ (by kernel_rfl)] at h
 have h1 := h.tail
 have d64 : Lib.TabIs Tryz.prog W "math/bits.deBruijn64tab" .u8 (tabNums Rows.laid_math_bits_deBruijn64tab) :=
  Lib.tabIs_of_head (g := 2) (t := 191) (e := 5) (n := 64) (by kernel_rfl) (by kernel_rfl) Tryz.underlying191 Tryz.underlying5 (by kernel_rfl) (by kernel_rfl) h1
 rw [tab_is] at d64
 intro j hj
 refine (World.var?_cell (g := 2) (by kernel_rfl) d64 j).trans ?_
 simp [List.getD_eq_getElem?_getD, hj]
end Go.Proofs.YtgbpnekinbdadaaGreatDoor

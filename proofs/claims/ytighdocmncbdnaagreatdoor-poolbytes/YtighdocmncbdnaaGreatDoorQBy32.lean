/-
  Texts Bits of the proof.
-/
import Derived.Deep.DeepCutAuto
import Derived.Test.YtighdocmncbdnaaGreatDoorQBy2
import Derived.Test.YtighdocmncbdnaaGreatDoorQBy5

namespace Go.Proofs.YtighdocmncbdnaaGreatDoor
open Go.ChangeShapes Go.WideShapes Go.ChangeAt Go.RowKit
set_option linter.unusedVariables false
set_option linter.unusedSimpArgs false

/-- Block g holds the first n bits of a, one a cell. -/
def BitRow (w : World) (g n a : Nat) : Prop := g < w.heap.size ∧ ∀ i, i < n → w.cell? ⟨g, i, none⟩ = some (.int .i64 ((bitN a i : Nat) : Int))

theorem BitRow.below {W w1 : World} {g n a : Nat} (x : BitRow W g n a) (hb : Below W.heap.size W w1) : BitRow w1 g n a :=
  ⟨Nat.lt_of_lt_of_le x.1 hb.size, fun i hi => (hb.cell (p := ⟨g, i, none⟩) x.1).trans (x.2 i hi)⟩

theorem BitRow.alloc {W : World} {g n a : Nat} (x : BitRow W g n a) (o : Obj) : BitRow (W.alloc o) g n a :=
  ⟨by have := x.1; simp; omega, fun i hi => (World.cell?_alloc_lt _ _ _ x.1).trans (x.2 i hi)⟩

theorem BitRow.drew {W : World} {g n a : Nat} (x : BitRow W g n a) : BitRow W.drew g n a := x

end Go.Proofs.YtighdocmncbdnaaGreatDoor

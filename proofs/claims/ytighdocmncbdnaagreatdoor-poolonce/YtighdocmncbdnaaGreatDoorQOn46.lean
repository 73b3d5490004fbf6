/-
  Texts BmB of the proof.
-/
import Derived.Laws.BytesArg
import Derived.Test.YtighdocmncbdnaaGreatDoorQOn41

namespace Go.Proofs.YtighdocmncbdnaaGreatDoor
open Go.ChangeShapes Go.WideShapes Go.ChangeAt Go.RowKit
set_option linter.unusedVariables false
set_option linter.unusedSimpArgs false

/-- Block d holds L bytes. -/
def RowU (W : World) (d L : Nat) (h : Nat → Nat) : Prop := Blk W d ((List.range L).map (fun i => Value.int .u8 (h i : Int))).toArray 5

theorem RowU.get {W : World} {d L : Nat} {h : Nat → Nat} (k : RowU W d L h) {i : Nat} (hi : i < L) : W.cell? ⟨d, i, none⟩ = some (.int .u8 (h i : Int)) := by
  rw [Blk.cell k i]
  simp [hi]

theorem RowU.put {W : World} {d L : Nat} {h h' : Nat → Nat} (k : RowU W d L h) (i : Nat) {y : Int} (hy : y = (h' i : Int)) (ho : ∀ p, p < L → p ≠ i → h p = h' p) : RowU (W.setCell ⟨d, i, none⟩ (.int .u8 y)) d L h' := by
  subst hy
  have e : ((List.range L).map (fun i => Value.int .u8 (h i : Int))).toArray.setIfInBounds i (.int .u8 (h' i : Int)) = ((List.range L).map (fun i => Value.int .u8 (h' i : Int))).toArray := by
    apply Array.ext'
    simp only [Array.toList_setIfInBounds]
    apply List.ext_getElem?
    intro p
    rw [List.getElem?_set]
    by_cases hp : i = p
    · subst hp
      by_cases hi : i < L <;> simp [hi]
    · rw [if_neg hp]
      by_cases hi : p < L
      · simp [hi, ho p hi (Ne.symm hp)]
      · simp [hi]
  unfold RowU
  rw [← e]
  exact Blk.put k i _

end Go.Proofs.YtighdocmncbdnaaGreatDoor

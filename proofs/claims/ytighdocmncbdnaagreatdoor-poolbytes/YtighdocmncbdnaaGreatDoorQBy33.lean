/-
  Texts Ref3 of the proof.
-/
import Derived.Deep.DeepCutAuto
import Derived.Deep.Onto
import Derived.Test.YtighdocmncbdnaaGreatDoorQBy21
import Derived.Test.YtighdocmncbdnaaGreatDoorQBy32
import Derived.Test.YtighdocmncbdnaaGreatDoorQBy1
import Derived.Test.YtighdocmncbdnaaGreatDoorQBy19

namespace Go.Proofs.YtighdocmncbdnaaGreatDoor
open Go.ChangeShapes Go.WideShapes Go.ChangeAt Go.RowKit
set_option linter.unusedVariables false
set_option linter.unusedSimpArgs false

/-- A row of noughts and ones that may be written to. -/
def Rw (w : World) (g W : Nat) (f : Nat → Nat) : Prop := g < w.heap.size ∧ (∀ i, i < W → w.cell? ⟨g, i, none⟩ = some (.int .i64 ((f i : Nat) : Int))) ∧ ∀ i, w.frozen? ⟨g, i, none⟩ = false

theorem Rw.below {W w1 : World} {g n : Nat} {f : Nat → Nat} (x : Rw W g n f) (hb : Below W.heap.size W w1) : Rw w1 g n f :=
  ⟨Nat.lt_of_lt_of_le x.1 hb.size, fun i h => ((bcell hb).1 g i x.1).trans (x.2.1 i h), fun i => ((bcell hb).2 g i x.1).trans (x.2.2 i)⟩

theorem Rw.alloc {W : World} {g n : Nat} {f : Nat → Nat} (x : Rw W g n f) (o : Obj) : Rw (W.alloc o) g n f := x.below ((Below.refl _ _).alloc (Nat.le_refl _) _)

theorem Rw.drew {W : World} {g n : Nat} {f : Nat → Nat} (x : Rw W g n f) : Rw W.drew g n f := x

end Go.Proofs.YtighdocmncbdnaaGreatDoor

namespace Go.Proofs.YtighdocmncbdnaaGreatDoor
open Go.ChangeShapes Go.WideShapes Go.ChangeAt Go.RowKit
set_option linter.unusedVariables false
set_option linter.unusedSimpArgs false

end Go.Proofs.YtighdocmncbdnaaGreatDoor

namespace Go.Proofs.YtighdocmncbdnaaGreatDoor
open Go.ChangeShapes Go.WideShapes Go.ChangeAt Go.RowKit
set_option linter.unusedVariables false
set_option linter.unusedSimpArgs false

theorem Rw.put {w : World} {g n m t : Nat} {f : Nat → Nat} (x : Rw w g n f) (hm : m < n) : Rw (w.setCell ⟨g, m, none⟩ (.int .i64 ((t : Nat) : Int))) g n (fun i => if i = m then t else f i) := by
  have c := x.2.1 m hm
  refine ⟨by simpa using x.1, fun i hi => ?_, fun i => ?_⟩
  · by_cases e : i = m
    · subst e
      rw [World.cell?_setCell_same' _ _ _ (by rw [c]; rfl)]
      simp
    · rw [World.cell?_setCell_other _ _ _ _ (by simp <;> omega), x.2.1 i hi]
      simp [e]
  · have := x.2.2 i
    simpa using this

/-- What Filled keeps. -/
def FK (w : World) (v : Bool) (h l : Int) (wr : World) : Prop :=
  Blk wr w.heap.size #[.bool v, .int .u64 h, .int .u64 l] 26 ∧ Blk wr (w.heap.size + 1) #[.bool false, .int .u64 0, .int .u64 0] 26 ∧ Below w.heap.size w wr

theorem FK.below {w W w1 : World} {v : Bool} {h l : Int} (s : FK w v h l W) (hb : Below W.heap.size W w1) : FK w v h l w1 := ⟨s.1.below hb, s.2.1.below hb, s.2.2.trans (hb.mono s.2.2.size)⟩

theorem FK.put {w W : World} {v : Bool} {h l : Int} (s : FK w v h l W) {g i : Nat} (hg : w.heap.size + 2 ≤ g) (u : Value) : FK w v h l (W.setCell ⟨g, i, none⟩ u) := ⟨s.1.far (by omega) _ _, s.2.1.far (by omega) _ _, s.2.2.setCell (by show _ ≤ g; omega) _⟩

end Go.Proofs.YtighdocmncbdnaaGreatDoor

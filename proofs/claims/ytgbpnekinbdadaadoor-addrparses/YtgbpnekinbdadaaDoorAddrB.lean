/-
  What Plus and Minus of package addr return, for every address and every number.
-/
import Derived.Test.YtgbpnekinbdadaaDoorAddrA
namespace Go.Proofs.YtgbpnekinbdadaaDoor
open Go.ChangeShapes Go.WideShapes Go.ChangeAt Go.RowKit
set_option linter.unusedVariables false
set_option linter.unusedSimpArgs false

/-- What Plus answers: the address u, h, l, and the number c of what went wrong. -/
def PlusIs (v : Bool) (a n : Nat) (u : Bool) (h l c : Int) : Prop :=
  (okA v a = false ∧ u = false ∧ h = 0 ∧ l = 0 ∧ c = 1) ∨
  (okA v a = true ∧ ¬ (a + n < 340282366920938463463374607431768211456 ∧ okA v (a + n) = true) ∧ u = false ∧ h = 0 ∧ l = 0 ∧ c = 11) ∨
  (okA v a = true ∧ a + n < 340282366920938463463374607431768211456 ∧ okA v (a + n) = true ∧ u = v ∧ IsNum h l (a + n) ∧ c = 0)

/-- What Minus answers. -/
def MinusIs (v u : Bool) (a b : Nat) (h l c : Int) : Prop :=
  (¬ (okA v a = true ∧ okA u b = true ∧ v = u) ∧ h = 0 ∧ l = 0 ∧ c = 1) ∨
  ((okA v a = true ∧ okA u b = true ∧ v = u) ∧ a < b ∧ h = 0 ∧ l = 0 ∧ c = 11) ∨
  ((okA v a = true ∧ okA u b = true ∧ v = u) ∧ b ≤ a ∧ IsNum h l (a - b) ∧ c = 0)

theorem plusIs_ex (v : Bool) (a n : Nat) : ∃ u h l c, PlusIs v a n u h l c := by
  cases h1 : okA v a
  · exact ⟨_, _, _, _, Or.inl ⟨h1, rfl, rfl, rfl, rfl⟩⟩
  · by_cases h2 : a + n < 340282366920938463463374607431768211456 ∧ okA v (a + n) = true
    · obtain ⟨h, l, hh⟩ := IsNum.ex h2.1
      exact ⟨_, _, _, _, Or.inr (Or.inr ⟨h1, h2.1, h2.2, rfl, hh, rfl⟩)⟩
    · exact ⟨_, _, _, _, Or.inr (Or.inl ⟨h1, h2, rfl, rfl, rfl, rfl⟩)⟩

theorem minusIs_ex (v u : Bool) {a b : Nat} (ha : a < 340282366920938463463374607431768211456) : ∃ h l c, MinusIs v u a b h l c := by
  by_cases h1 : okA v a = true ∧ okA u b = true ∧ v = u
  · by_cases h2 : a < b
    · exact ⟨_, _, _, Or.inr (Or.inl ⟨h1, h2, rfl, rfl, rfl⟩)⟩
    · obtain ⟨h, l, hh⟩ := IsNum.ex (n := a - b) (by omega)
      exact ⟨_, _, _, Or.inr (Or.inr ⟨h1, by omega, hh, rfl⟩)⟩
  · exact ⟨_, _, _, Or.inl ⟨h1, rfl, rfl, rfl⟩⟩

end Go.Proofs.YtgbpnekinbdadaaDoor
/-
  The reference's Len and Shift.
-/
import Derived.Test.YtbecaepagachpaaGreatDoorRefNum
namespace Go.Proofs.YtbecaepagachpaaGreatDoor
open Go.ChangeShapes Go.WideShapes Go.ChangeAt Go.RowKit
set_option linter.unusedVariables false
set_option linter.unusedSimpArgs false

theorem bitLen_up (a k : Nat) : Go.bitLen (a % 2 ^ (k + 1)) = if bitN a k = 1 then k + 1 else Go.bitLen (a % 2 ^ k) := by
  have b := bitN_le a k
  have m := Nat.mod_lt a (pow_pos2 k)
  rw [mod_up]
  by_cases h : bitN a k = 1
  · rw [if_pos h, h, Nat.mul_one]
    obtain ⟨x, y⟩ := Go.bitLen_spec (a % 2 ^ k + 2 ^ k)
    have p := pow_pos2 k
    exact len_uniq (y (by omega)) x (by rw [Nat.add_sub_cancel]; omega) (by rw [Nat.pow_succ]; omega)
  · rw [if_neg h, show bitN a k = 0 by omega, Nat.mul_zero, Nat.add_zero]

theorem bitN_shl (a k i : Nat) : bitN (a * 2 ^ k) i = if k ≤ i then bitN a (i - k) else 0 := by
  unfold bitN
  by_cases h : k ≤ i
  · rw [if_pos h]
    obtain ⟨d, rfl⟩ : ∃ d, i = k + d := ⟨i - k, by omega⟩
    rw [Nat.pow_add, Nat.mul_comm a, Nat.mul_div_mul_left _ _ (pow_pos2 k), Nat.add_sub_cancel_left]
  · rw [if_neg h]
    obtain ⟨d, rfl⟩ : ∃ d, k = i + (d + 1) := ⟨k - i - 1, by omega⟩
    rw [Nat.pow_add, Nat.mul_left_comm, Nat.mul_div_cancel_left _ (pow_pos2 i), Nat.pow_succ, ← Nat.mul_assoc]
    omega

end Go.Proofs.YtbecaepagachpaaGreatDoor
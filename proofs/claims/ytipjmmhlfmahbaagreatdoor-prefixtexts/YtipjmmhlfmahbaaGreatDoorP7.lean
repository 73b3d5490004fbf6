/-
  Texts TextMath of the proof.
-/
import Derived.Laws.BytesArg
import Derived.Test.YtipjmmhlfmahbaaGreatDoorP2

namespace Go.Proofs.YtipjmmhlfmahbaaGreatDoor
set_option linter.unusedVariables false

/-- Byte i, as a number. -/
def byteN (s : ByteArray) (i : Nat) : Nat := (s.data.toList.getD i 0).toNat

theorem byteN_get (s : ByteArray) (i : Nat) (h : i < s.size) : s[i].toNat = byteN s i := by
  unfold byteN
  have h' : i < s.data.toList.length := by simpa using h
  rw [List.getD_eq_getElem?_getD, List.getElem?_eq_getElem h']
  rfl

/-- It has the form that Print gives to a number. -/
def Printed (s : ByteArray) : Prop := 0 < s.size ∧ ¬ (1 < s.size ∧ byteN s 0 = 48) ∧ ∀ i, i < s.size → 48 ≤ byteN s i ∧ byteN s i ≤ 57

/-- The number of the first k digits. -/
def valN (s : ByteArray) : Nat → Nat
  | 0 => 0
  | k + 1 => 10 * valN s k + (byteN s k - 48)

theorem valN_mono (s : ByteArray) {k n : Nat} (h : k ≤ n) : valN s k ≤ valN s n := by
  induction n with
  | zero => obtain rfl : k = 0 := by omega
            exact Nat.le_refl _
  | succ n ih =>
    by_cases e : k = n + 1
    · subst e; exact Nat.le_refl _
    · have := ih (by omega)
      simp only [valN]; omega

end Go.Proofs.YtipjmmhlfmahbaaGreatDoor

/-
  strings.Cut at a separator, as a plain function; the texts of short addresses.
-/
import Derived.Test.YtgbpnekinbdadaaDoorHex
import Derived.Lib.IndexMore
namespace Go.Proofs.YtgbpnekinbdadaaDoor
open Go.ChangeShapes Go.WideShapes Go.ChangeAt Go.RowKit
set_option linter.unusedVariables false
set_option linter.unusedSimpArgs false

/-- A text cut at the first place where sep stands. -/
def cutG (sep : List UInt8) : List UInt8 → List UInt8 × List UInt8 × Bool
  | [] => ([], [], false)
  | b :: l => if sep.isPrefixOf (b :: l) then ([], (b :: l).drop sep.length, true) else (b :: (cutG sep l).1, (cutG sep l).2.1, (cutG sep l).2.2)

theorem cutG_eq (sep : List UInt8) (hs : sep ≠ []) : ∀ l, Lib.cut l sep = cutG sep l
  | [] => by
    have : Lib.index [] sep = -1 := by
      unfold Lib.index
      cases sep with
      | nil => exact absurd rfl hs
      | cons _ _ => rfl
    unfold Lib.cut cutG
    rw [this]; rfl
  | b :: l => by
    have ih := cutG_eq sep hs l
    have g := Lib.index_ge l sep
    unfold cutG
    by_cases hp : sep.isPrefixOf (b :: l) = true
    · have : Lib.index (b :: l) sep = 0 := by rw [Lib.index, if_pos hp]
      rw [if_pos hp]
      unfold Lib.cut
      rw [this]
      simp
    · rw [if_neg hp, ← ih]
      by_cases hi : Lib.index l sep = -1
      · have : Lib.index (b :: l) sep = -1 := by rw [Lib.index, if_neg hp, if_pos (by simp [hi])]
        unfold Lib.cut
        rw [this, hi]
        simp
      · have e : Lib.index (b :: l) sep = Lib.index l sep + 1 := by rw [Lib.index, if_neg hp, if_neg (by simp [hi])]
        unfold Lib.cut
        rw [e, if_pos (by omega), if_pos (by omega)]
        have h0 : 0 ≤ Lib.index l sep := by omega
        obtain ⟨k, hk⟩ := Int.eq_ofNat_of_zero_le h0
        rw [hk]
        have e2 : ((k : Int) + 1).toNat = k + 1 := by omega
        rw [e2, Int.toNat_natCast]
        simp [Nat.add_right_comm]

theorem cutG_len (sep : List UInt8) (hs : sep ≠ []) : ∀ l, (cutG sep l).1.length ≤ l.length ∧ (cutG sep l).2.1.length ≤ l.length ∧ ((cutG sep l).2.2 = true → (cutG sep l).2.1.length < l.length)
  | [] => by simp [cutG]
  | b :: l => by
    have ih := cutG_len sep hs l
    unfold cutG
    split
    · have : 1 ≤ sep.length := by
        cases sep with
        | nil => exact absurd rfl hs
        | cons _ _ => simp
      refine ⟨by simp, ?_, fun _ => ?_⟩ <;> (simp only [List.length_drop, List.length_cons]; omega)
    · simp only [List.length_cons]
      exact ⟨by omega, by omega, fun h => by have := ih.2.2 h; omega⟩

/-- strings.Cut, as the plain function says. -/
theorem cut_c (s : ByteArray) (sep : ByteArray) (hsep : sep.data.toList ≠ []) (hs : s.size ≤ 1000000) (w : World) (hL : LW w) :
    Calls Tryd.prog 44 #[.string s, .string sep] w fun e w' => e = .returned (.tuple #[.string ⟨(cutG sep.data.toList s.data.toList).1.toArray⟩, .string ⟨(cutG sep.data.toList s.data.toList).2.1.toArray⟩, .bool (cutG sep.data.toList s.data.toList).2.2]) ∧ Below w.heap.size w w' := by
  obtain ⟨m, hm⟩ := hL.ml
  refine (Tryd.strings_Cut s sep m w (by omega) hm).mono ?_
  rintro e w' ⟨rfl, n, rfl⟩
  rw [cutG_eq _ hsep]
  exact ⟨rfl, below_drewN (Below.refl _ _) _⟩

def printedDec (s : ByteArray) : Decidable (Printed s) := by unfold Printed; exact inferInstance

/-- The number of a decimal text below 256. -/
def decV (l : List UInt8) : Option Nat := @ite (Option Nat) (Printed ⟨l.toArray⟩ ∧ valN ⟨l.toArray⟩ l.length < 256) (@instDecidableAnd _ _ (printedDec _) (Nat.decLt _ _)) (some (valN ⟨l.toArray⟩ l.length)) none

/-- Numbers with a dot between, k of them behind the first, behind the number n. -/
def shortF : Nat → Nat → List UInt8 → Option Nat
  | 0, n, l => if (cutG [46] l).2.2 = true then none else match decV (cutG [46] l).1 with
    | some v => some (n * 256 + v)
    | none => none
  | k + 1, n, l => if (cutG [46] l).2.2 = true then match decV (cutG [46] l).1 with
    | some v => shortF k (n * 256 + v) (cutG [46] l).2.1
    | none => none
    else none

/-- What is still to be read when k of the four are. -/
def shR (k n : Nat) (l : List UInt8) : Option Nat := if k < 4 then shortF (3 - k) n l else some n

theorem shR_step {k n v : Nat} {l : List UInt8} (hk : k < 4) (hd : decV (cutG [46] l).1 = some v) (hm : (cutG [46] l).2.2 = decide (k ≠ 3)) : shR k n l = shR (k + 1) (n * 256 + v) (cutG [46] l).2.1 := by
  have : k = 0 ∨ k = 1 ∨ k = 2 ∨ k = 3 := by omega
  rcases this with rfl | rfl | rfl | rfl <;> simp [shR, shortF, hd, hm]

theorem shR_none {k n : Nat} {l : List UInt8} (hk : k < 4) (h : decV (cutG [46] l).1 = none ∨ (cutG [46] l).2.2 = decide (k = 3)) : shR k n l = none := by
  have : k = 0 ∨ k = 1 ∨ k = 2 ∨ k = 3 := by omega
  rcases h with h | h
  · rcases this with rfl | rfl | rfl | rfl <;> simp [shR, shortF, h]
  · rcases this with rfl | rfl | rfl | rfl <;> simp [shR, shortF, h]

theorem valN_ge (s : ByteArray) (hp : Printed s) : ∀ k, 1 ≤ k → k ≤ s.size → 1 < s.size → 10 ^ (k - 1) ≤ valN s k
  | 0, h, _, _ => by omega
  | 1, _, h1, h2 => by
    have b := hp.2.2 0 (by omega)
    have n0 : byteN s 0 ≠ 48 := fun c => hp.2.1 ⟨h2, c⟩
    simp [valN]; omega
  | k + 2, _, h1, h2 => by
    have ih := valN_ge s hp (k + 1) (by omega) (by omega) h2
    rw [show k + 2 - 1 = (k + 1 - 1) + 1 by omega, Nat.pow_succ]
    rw [show valN s (k + 2) = 10 * valN s (k + 1) + (byteN s (k + 1) - 48) from rfl]
    omega
end Go.Proofs.YtgbpnekinbdadaaDoor

/-
  Texts BmT of the proof.
-/
import Derived.Deep.RegionHeld
import Derived.Test.YtgbpnekinbdadaaGreatDoorPQ36

namespace Go.Proofs.YtgbpnekinbdadaaGreatDoor
open Go.ChangeShapes Go.WideShapes Go.ChangeAt Go.RowKit
set_option linter.unusedVariables false
set_option linter.unusedSimpArgs false

/-- What Put answers, and leaves; Drop. -/
def putV (n : Nat) (f : Nat → Bool) (i : Int) : Int := if 0 ≤ i ∧ i < n then (if f i.toNat then 14 else 0) else 1

def putF (n : Nat) (f : Nat → Bool) (i : Int) : Nat → Bool := if 0 ≤ i ∧ i < n then upd f i.toNat true else f

def dropV (n : Nat) (f : Nat → Bool) (i : Int) : Int := if 0 ≤ i ∧ i < n then (if f i.toNat then 0 else 7) else 1

def dropF (n : Nat) (f : Nat → Bool) (i : Int) : Nat → Bool := if 0 ≤ i ∧ i < n then upd f i.toNat false else f

theorem put_any (a g n : Nat) (f : Nat → Bool) (i : Int) (W : World) (H : MapB W a g n f) : Calls Tryz.prog 93 #[.pointer (some ⟨a, 0, none⟩), .int .i64 i] W fun e W' => e = .returned (.int .i64 (putV n f i)) ∧ MapB W' a g n (putF n f i) ∧ But [g] W.heap.size W W' := by
 unfold putV putF
 by_cases hi : 0 ≤ i ∧ i < n
 ·rw [if_pos hi, if_pos hi]
  obtain ⟨j, rfl⟩ := Int.eq_ofNat_of_zero_le hi.1
  rw [Int.toNat_natCast]
  cases hf : f j
  ·first
    | exact put_new a g n j f (by omega) hf W H
    | exact put_same a g n j f (by omega) hf W H
  ·first
    | exact put_new a g n j f (by omega) hf W H
    | exact put_same a g n j f (by omega) hf W H
 ·rw [if_neg hi, if_neg hi]
  obtain ⟨ws, hm, _⟩ := H.is
  refine (put_bad a g n i hi W _ hm.head).mono ?_
  rintro e W' ⟨rfl, hb⟩
  exact ⟨rfl, H.below hb, But.of hb (Nat.le_refl _)⟩

theorem drop_any (a g n : Nat) (f : Nat → Bool) (i : Int) (W : World) (H : MapB W a g n f) : Calls Tryz.prog 99 #[.pointer (some ⟨a, 0, none⟩), .int .i64 i] W fun e W' => e = .returned (.int .i64 (dropV n f i)) ∧ MapB W' a g n (dropF n f i) ∧ But [g] W.heap.size W W' := by
 unfold dropV dropF
 by_cases hi : 0 ≤ i ∧ i < n
 ·rw [if_pos hi, if_pos hi]
  obtain ⟨j, rfl⟩ := Int.eq_ofNat_of_zero_le hi.1
  rw [Int.toNat_natCast]
  cases hf : f j
  ·first
    | exact drop_new a g n j f (by omega) hf W H
    | exact drop_same a g n j f (by omega) hf W H
  ·first
    | exact drop_new a g n j f (by omega) hf W H
    | exact drop_same a g n j f (by omega) hf W H
 ·rw [if_neg hi, if_neg hi]
  obtain ⟨ws, hm, _⟩ := H.is
  refine (drop_bad a g n i hi W _ hm.head).mono ?_
  rintro e W' ⟨rfl, hb⟩
  exact ⟨rfl, H.below hb, But.of hb (Nat.le_refl _)⟩

end Go.Proofs.YtgbpnekinbdadaaGreatDoor

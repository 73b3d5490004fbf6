/-
  Texts PoM of the proof.
-/
import Derived.Test.YtighdocmncbdnaaGreatDoorQOn41
import Derived.Test.YtighdocmncbdnaaGreatDoorQOn39

namespace Go.Proofs.YtighdocmncbdnaaGreatDoor
open Go.ChangeShapes Go.WideShapes Go.ChangeAt Go.RowKit
set_option linter.unusedVariables false
set_option linter.unusedSimpArgs false

/-- How many addresses a pool of a prefix looks after; 0: it may not be. -/
def szP (v : Bool) (n : Nat) (b : Int) : Nat := if okP v n b = true then (if behindP v b ≤ 16 then 2 ^ behindP v b else 65536) else 0

/-- Is the last one kept? -/
def lkP (v : Bool) (b : Int) : Bool := !v && decide (behindP v b ≤ 16)

/-- Which are kept. -/
def kpF (lk : Bool) (N : Nat) : Nat → Bool := fun p => decide (p = 0) || (lk && decide (p = N - 1))

theorem szP_le {v : Bool} {n : Nat} {b : Int} : szP v n b ≤ 65536 := by
  unfold szP
  split
  · split
    · rename_i h
      have := Nat.pow_le_pow_right (n := 2) (by decide) h
      rw [show (2 : Nat) ^ 16 = 65536 by decide] at this
      exact this
    · omega
  · omega

theorem szP_ok {v : Bool} {n : Nat} {b : Int} (h : 0 < szP v n b) : okP v n b = true := by
  unfold szP at h
  split at h
  · assumption
  · omega

theorem szP_pow {v : Bool} {n : Nat} {b : Int} : szP v n b ≤ 2 ^ behindP v b := by
  unfold szP
  split
  · split
    · exact Nat.le_refl _
    · rename_i h
      have := Nat.pow_le_pow_right (n := 2) (by decide) (show 17 ≤ behindP v b by omega)
      rw [show (2 : Nat) ^ 17 = 131072 by decide] at this
      omega
  · exact Nat.zero_le _

/-- The last one of a pool is the prefix's last one. -/
theorem last_host {n : Nat} {b : Int} (ok : okP false n b = true) (h0 : 0 < szP false n b) : (n + (szP false n b - 1) = lastN false n b) ↔ lkP false b = true := by
  unfold lkP lastN
  have p := szP_pow (v := false) (n := n) (b := b)
  simp only [Bool.not_false, Bool.true_and, decide_eq_true_eq]
  constructor
  · intro e
    apply Classical.byContradiction
    intro c
    have : szP false n b = 65536 := by unfold szP; rw [if_pos ok, if_neg c]
    have q := Nat.pow_le_pow_right (n := 2) (by decide) (show 17 ≤ behindP false b by omega)
    rw [show (2 : Nat) ^ 17 = 131072 by decide] at q
    omega
  · intro e
    have : szP false n b = 2 ^ behindP false b := by unfold szP; rw [if_pos ok, if_pos e]
    omega

/-- The host of a number is an address of the prefix. -/
theorem host_blk {v : Bool} {n : Nat} {b : Int} {i : Nat} {W : Int} (hW : widthA v = W) (ok : okP v n b = true) (hi : i < szP v n b) : cutB v n b W = true ∧ i < 2 ^ (W - b).toNat ∧ blkN v n W i = n + i := by
  obtain ⟨_, b0, b1⟩ := fitsB_parts (okP_parts ok).1
  have p := szP_pow (v := v) (n := n) (b := b)
  refine ⟨?_, ?_, ?_⟩
  · unfold cutB
    rw [ok, decide_eq_true (by omega : b ≤ W), decide_eq_true (by omega : W ≤ widthA v)]
    rfl
  · have : behindP v b = (W - b).toNat := by unfold behindP; rw [hW]
    rw [← this]
    omega
  · have z : behindP v W = 0 := by unfold behindP; omega
    unfold blkN
    rw [z]
    omega

theorem host_lt {v : Bool} {n : Nat} {b : Int} {i : Nat} (hn : n < 340282366920938463463374607431768211456) (ok : okP v n b = true) (hi : i < szP v n b) : n + i < 340282366920938463463374607431768211456 ∧ n + i ≤ lastN v n b := by
  have p := szP_pow (v := v) (n := n) (b := b)
  have l := (lastN_small ok hn).1
  unfold lastN at *
  omega

theorem host_has {v : Bool} {n : Nat} {b : Int} {i : Nat} (hn : n < 340282366920938463463374607431768211456) (ok : okP v n b = true) (hi : i < szP v n b) : hasB v n b v (n + i) = true :=
  (has_ends ok hn).2 ⟨by omega, (host_lt hn ok hi).2⟩

end Go.Proofs.YtighdocmncbdnaaGreatDoor

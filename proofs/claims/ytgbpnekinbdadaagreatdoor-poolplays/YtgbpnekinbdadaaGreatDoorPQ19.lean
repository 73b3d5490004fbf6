/-
  Texts Nests, Pfx8, CarveM of the proof.
-/
import Derived.Deep.DeepCutAuto
import Derived.Test.YtgbpnekinbdadaaGreatDoorPQ7
import Derived.Test.YtgbpnekinbdadaaGreatDoorPQ18
import Derived.Test.YtgbpnekinbdadaaGreatDoorPQ2

namespace Go.Proofs.YtgbpnekinbdadaaGreatDoor
open Go.ChangeShapes Go.WideShapes Go.ChangeAt Go.RowKit
set_option linter.unusedVariables false
set_option linter.unusedSimpArgs false

theorem ofN_mod (v : Bool) (a : Nat) (b : Int) : ofN v a b % 2 ^ behindP v b = 0 := Nat.mul_mod_left _ _

theorem okA_le {v : Bool} {a c : Nat} (h : okA v a = true) (hc : c ≤ a) : okA v c = true := by
 cases v
 ·simp [okA] at *; omega
 ·rfl

theorem has_parts {v : Bool} {n : Nat} {b : Int} {u : Bool} {a : Nat} (h : hasB v n b u a = true) : v = u ∧ fitsB v a b = true ∧ n = ofN v a b := by
 simp only [hasB, Bool.and_eq_true, decide_eq_true_eq] at h
 obtain ⟨⟨h1, rfl⟩, h3⟩ := h
 exact ⟨rfl, h1, h3⟩

theorem has_ok {v : Bool} {n : Nat} {b : Int} {u : Bool} {a : Nat} (h : hasB v n b u a = true) : okP v n b = true := by
 obtain ⟨rfl, h1, rfl⟩ := has_parts h
 obtain ⟨k1, k2, k3⟩ := fitsB_parts h1
 simp only [okP, fitsB, Bool.and_eq_true, decide_eq_true_eq]
 exact ⟨⟨⟨okA_le k1 (ofN_le _ _ _), k2⟩, k3⟩, ofN_mod _ _ _⟩



theorem cmpI_le {x y : Int} : cmpI x y ≤ 0 ↔ x ≤ y := by
 unfold cmpI
 split
 ·constructor <;> omega
 ·split <;> constructor <;> omega

/-- What lies between the ends is its own. -/
theorem between_has {v : Bool} {n : Nat} {b : Int} {s : Bool} {a : Nat} (hk : okP v n b = true) : hasB v n b s a = (okA s a && decide (cmpA v s n a ≤ 0) && decide (cmpA s v a (lastN v n b) ≤ 0)) := by
 obtain ⟨hf, hm⟩ := okP_parts hk
 obtain ⟨ho, h0, h1⟩ := fitsB_parts hf
 by_cases e : v = s
 ·subst e
  unfold hasB fitsB cmpA
  rw [Bool.eq_iff_iff]
  simp only [Bool.and_eq_true, decide_eq_true_eq, if_true, cmpI_le, and_true]
  unfold ofN lastN
  have p := pow_pos2 (behindP v b)
  generalize 2 ^ behindP v b = d at *
  obtain ⟨q, rfl⟩ := Nat.dvd_of_mod_eq_zero hm
  have md := Nat.div_add_mod a d
  have ml := Nat.mod_lt a p
  constructor
  ·rintro ⟨⟨⟨h2, _⟩, _⟩, h5⟩
   have h6 : d * q = d * (a / d) := by rw [h5, Nat.mul_comm]
   exact ⟨⟨h2, Int.ofNat_le.2 (by omega)⟩, Int.ofNat_le.2 (by omega)⟩
  ·rintro ⟨⟨h2, h3⟩, h4⟩
   refine ⟨⟨⟨h2, h0⟩, h1⟩, ?_⟩
   have h3' := Int.ofNat_le.1 h3
   have h4' := Int.ofNat_le.1 h4
   have l1 : q ≤ a / d := by rw [Nat.le_div_iff_mul_le p, Nat.mul_comm]; exact h3'
   have l2 : a / d < q + 1 := by
    rw [Nat.div_lt_iff_lt_mul p, Nat.add_mul, Nat.one_mul, Nat.mul_comm]; omega
   rw [show a / d = q by omega, Nat.mul_comm]
 ·have hx : hasB v n b s a = false := by
   unfold hasB; rw [decide_eq_false e]; simp
  rw [hx]
  unfold cmpA
  rw [if_neg e, if_neg (Ne.symm e)]
  cases v <;> cases s <;> simp at *



/-- May it be cut into blocks of k bits? -/
def cutB (v : Bool) (n : Nat) (b k : Int) : Bool := okP v n b && decide (b ≤ k) && decide (k ≤ widthA v)

/-- The block of the number i. -/
def blkN (v : Bool) (n : Nat) (k : Int) (i : Nat) : Nat := n + i * 2 ^ behindP v k

/-- The number of the block that has a. -/
def numN (v : Bool) (n : Nat) (k : Int) (a : Nat) : Nat := (a - n) / 2 ^ behindP v k

theorem cutB_parts {v : Bool} {n : Nat} {b k : Int} (h : cutB v n b k = true) : okP v n b = true ∧ 0 ≤ b ∧ b ≤ k ∧ k ≤ widthA v ∧ behindP v b = behindP v k + (k - b).toNat := by
 simp only [cutB, Bool.and_eq_true, decide_eq_true_eq] at h
 obtain ⟨⟨h1, h2⟩, h3⟩ := h
 obtain ⟨_, h0, _⟩ := fitsB_parts (okP_parts h1).1
 exact ⟨h1, h0, h2, h3, by unfold behindP; omega⟩

theorem len_iff {i k : Nat} : Go.bitLen i ≤ k ↔ i < 2 ^ k := by
 constructor
 ·intro h
  exact Nat.lt_of_lt_of_le (Go.bitLen_spec i).1 (Nat.pow_le_pow_right (by decide) h)
 ·exact bitLen_le_of_lt

theorem blk_small {v : Bool} {n i : Nat} {b k : Int} (h : cutB v n b k = true) (hi : i < 2 ^ (k - b).toNat) : i * 2 ^ behindP v k + 2 ^ behindP v k ≤ 2 ^ behindP v b := by
 obtain ⟨_, _, _, _, e⟩ := cutB_parts h
 rw [e, Nat.pow_add, Nat.mul_comm (2 ^ behindP v k)]
 have := Nat.mul_le_mul_right (2 ^ behindP v k) (show i + 1 ≤ 2 ^ (k - b).toNat from hi)
 rw [Nat.add_mul, Nat.one_mul] at this
 exact this

theorem mod_cut {v : Bool} {n : Nat} {b k : Int} (h : cutB v n b k = true) : n % 2 ^ behindP v k = 0 := by
 obtain ⟨h1, _, h2, _, e⟩ := cutB_parts h
 have hm := (okP_parts h1).2
 rw [e, Nat.pow_add] at hm
 exact Nat.mod_eq_zero_of_dvd (Nat.dvd_trans ⟨_, rfl⟩ (Nat.dvd_of_mod_eq_zero hm))

theorem blk_mod {v : Bool} {n : Nat} {b k : Int} (h : cutB v n b k = true) (i : Nat) : blkN v n k i % 2 ^ behindP v k = 0 := by
 unfold blkN
 rw [Nat.add_mul_mod_self_right]
 exact mod_cut h

theorem blk_last {v : Bool} {n i : Nat} {b k : Int} (h : cutB v n b k = true) (hi : i < 2 ^ (k - b).toNat) : lastN v (blkN v n k i) k ≤ lastN v n b := by
 have s := blk_small h hi
 have p := pow_pos2 (behindP v k)
 unfold lastN blkN
 omega

theorem blk_ok {v : Bool} {n i : Nat} {b k : Int} (h : cutB v n b k = true) (hn : n < 340282366920938463463374607431768211456) (hi : i < 2 ^ (k - b).toNat) : okP v (blkN v n k i) k = true ∧ blkN v n k i < 340282366920938463463374607431768211456 := by
 obtain ⟨h1, h0, h2, h3, e⟩ := cutB_parts h
 have l := blk_last h hi
 obtain ⟨s1, s2⟩ := lastN_small h1 hn
 have p := pow_pos2 (behindP v k)
 have le : blkN v n k i ≤ lastN v (blkN v n k i) k := by unfold lastN; omega
 refine ⟨?_, by omega⟩
 unfold okP fitsB
 rw [okA_le s2 (Nat.le_trans le l), decide_eq_true (show 0 ≤ k by omega), decide_eq_true h3, decide_eq_true (blk_mod h i)]
 rfl

theorem blk_or {v : Bool} {n i : Nat} {b k : Int} (h : cutB v n b k = true) (hi : i < 2 ^ (k - b).toNat) : n ||| (i * 2 ^ behindP v k % 340282366920938463463374607431768211456) = blkN v n k i := by
 obtain ⟨h1, h0, h2, h3, e⟩ := cutB_parts h
 have s := blk_small h hi
 have p := pow_pos2 (behindP v k)
 have q := Nat.pow_le_pow_right (n := 2) (by decide) (behindP_le (v := v) h0)
 rw [show (2 : Nat) ^ 128 = 340282366920938463463374607431768211456 by decide] at q
 rw [Nat.mod_eq_of_lt (by omega)]
 obtain ⟨m, hm⟩ := Nat.dvd_of_mod_eq_zero (okP_parts h1).2
 unfold blkN
 rw [hm, or_add _ _ _ (by omega)]

theorem has_ends {v : Bool} {n : Nat} {b : Int} {a : Nat} (hk : okP v n b = true) (hn : n < 340282366920938463463374607431768211456) : hasB v n b v a = true ↔ (n ≤ a ∧ a ≤ lastN v n b) := by
 rw [between_has hk]
 unfold cmpA
 simp only [if_true, Bool.and_eq_true, decide_eq_true_eq, cmpI_le]
 constructor
 ·rintro ⟨⟨_, h1⟩, h2⟩
  exact ⟨Int.ofNat_le.1 h1, Int.ofNat_le.1 h2⟩
 ·rintro ⟨h1, h2⟩
  exact ⟨⟨okA_le (lastN_small hk hn).2 h2, Int.ofNat_le.2 h1⟩, Int.ofNat_le.2 h2⟩



end Go.Proofs.YtgbpnekinbdadaaGreatDoor

/-
  Numbers as rows of bits, plainly.
-/
import Derived.Test.YtgbpnekinbdadaaDoorMath
namespace Go.Proofs.YtgbpnekinbdadaaDoor

/-- The bit worth 2^j. -/
def bitN (a j : Nat) : Nat := a / 2 ^ j % 2
theorem bitN_le (a j : Nat) : bitN a j ≤ 1 := by unfold bitN; omega

/-- The first k bits, the lowest one first. -/
def bitsL (a : Nat) : Nat → List Int
  | 0 => []
  | k + 1 => bitsL a k ++ [((bitN a k : Nat) : Int)]

theorem bitsL_length (a : Nat) : ∀ k, (bitsL a k).length = k
  | 0 => rfl
  | k + 1 => by simp [bitsL, bitsL_length a k]

theorem bitsL_getD (a : Nat) : ∀ (k i : Nat), i < k → (bitsL a k).getD i 0 = (bitN a i : Nat)
  | k + 1, i, h => by
    rw [bitsL, List.getD_eq_getElem?_getD]
    by_cases c : i < k
    · rw [List.getElem?_append_left (by rw [bitsL_length]; exact c), ← List.getD_eq_getElem?_getD, bitsL_getD a k i c]
    · obtain rfl : i = k := by omega
      rw [List.getElem?_append_right (by rw [bitsL_length]; omega), bitsL_length]
      simp

/-- The words of a number have its bits. -/
theorem bitN_low {H L j : Nat} (hj : j < 64) : bitN (H * 18446744073709551616 + L) j = bitN L j := by
  unfold bitN
  have e := pow_split j (by omega)
  rw [← e, ← Nat.mul_assoc, Nat.mul_comm (H * 2 ^ j), Nat.mul_comm H, ← Nat.mul_assoc, Nat.mul_comm _ (2 ^ j), Nat.mul_assoc, Nat.mul_add_div (pow_pos2 j)]
  obtain ⟨q, hq⟩ : ∃ q, 2 ^ (64 - j) = 2 * q := ⟨2 ^ (63 - j), by rw [← Nat.pow_succ']; congr 1; omega⟩
  rw [hq, Nat.mul_assoc]
  omega

theorem bitN_high {H L j : Nat} (hL : L < 18446744073709551616) (hj : 64 ≤ j) : bitN (H * 18446744073709551616 + L) j = bitN H (j - 64) := by
  unfold bitN
  rw [shr_hi_nat H L j hj hL]

theorem bitsL_low {H L : Nat} : ∀ k, k ≤ 64 → bitsL (H * 18446744073709551616 + L) k = bitsL L k
  | 0, _ => rfl
  | k + 1, h => by rw [bitsL, bitsL, bitsL_low k (by omega), bitN_low (by omega)]

theorem bitsL_high {H L : Nat} (hL : L < 18446744073709551616) : ∀ k, k ≤ 64 → bitsL (H * 18446744073709551616 + L) (64 + k) = bitsL L 64 ++ bitsL H k
  | 0, _ => by simp [bitsL_low 64 (by omega), show bitsL H 0 = [] from rfl]
  | k + 1, h => by
    have e : bitsL H (k + 1) = bitsL H k ++ [((bitN H k : Nat) : Int)] := rfl
    rw [← Nat.add_assoc, bitsL, bitsL_high hL k (by omega), bitN_high hL (by omega), e, List.append_assoc, show 64 + k - 64 = k by omega]

/-- What is carried into bit k when a and b are added. -/
def carry (a b k : Nat) : Nat := (a % 2 ^ k + b % 2 ^ k) / 2 ^ k
theorem carry_zero (a b : Nat) : carry a b 0 = 0 := by unfold carry; simp [Nat.mod_one]

theorem mod_up (a k : Nat) : a % 2 ^ (k + 1) = a % 2 ^ k + 2 ^ k * bitN a k := by
  unfold bitN; rw [Nat.pow_succ, Nat.mod_mul]

theorem carry_le (a b k : Nat) : carry a b k ≤ 1 := by
  unfold carry
  have p := pow_pos2 k
  have h1 := Nat.mod_lt a p
  have h2 := Nat.mod_lt b p
  apply Nat.lt_succ_iff.1
  rw [Nat.div_lt_iff_lt_mul p]
  omega

theorem carry_up (a b k : Nat) : carry a b (k + 1) = (bitN a k + bitN b k + carry a b k) / 2 := by
  have p := pow_pos2 k
  unfold carry
  rw [mod_up, mod_up, Nat.pow_succ, ← Nat.div_div_eq_div_mul]
  have : a % 2 ^ k + 2 ^ k * bitN a k + (b % 2 ^ k + 2 ^ k * bitN b k) = 2 ^ k * (bitN a k + bitN b k) + (a % 2 ^ k + b % 2 ^ k) := by
    rw [Nat.mul_add]; omega
  rw [this, Nat.mul_add_div p]

theorem bitN_add (a b k : Nat) : bitN (a + b) k = (bitN a k + bitN b k + carry a b k) % 2 := by
  have p := pow_pos2 k
  have e : (a + b) / 2 ^ k = a / 2 ^ k + b / 2 ^ k + carry a b k := by
    unfold carry
    have h1 := Nat.div_add_mod a (2 ^ k)
    have h2 := Nat.div_add_mod b (2 ^ k)
    have : a + b = 2 ^ k * (a / 2 ^ k + b / 2 ^ k) + (a % 2 ^ k + b % 2 ^ k) := by rw [Nat.mul_add]; omega
    rw [this, Nat.mul_add_div p]
  unfold bitN
  rw [e]
  omega

theorem bitN_mod (n m k : Nat) (h : k < m) : bitN (n % 2 ^ m) k = bitN n k := by
  unfold bitN
  obtain ⟨d, rfl⟩ : ∃ d, m = k + (d + 1) := ⟨m - k - 1, by omega⟩
  rw [Nat.pow_add, Nat.mod_mul_right_div_self, Nat.pow_succ, Nat.mul_comm, Nat.mod_mul_right_mod]

/-- What is borrowed from bit k when b is taken from a. -/
def borrow (a b k : Nat) : Nat := if a % 2 ^ k < b % 2 ^ k then 1 else 0
theorem borrow_zero (a b : Nat) : borrow a b 0 = 0 := by unfold borrow; simp [Nat.mod_one]
theorem borrow_le (a b k : Nat) : borrow a b k ≤ 1 := by unfold borrow; split <;> omega

theorem borrow_up (a b k : Nat) : borrow a b (k + 1) = if bitN a k < bitN b k + borrow a b k then 1 else 0 := by
  have p := pow_pos2 k
  have h1 := Nat.mod_lt a p
  have h2 := Nat.mod_lt b p
  have a1 := bitN_le a k
  have b1 := bitN_le b k
  unfold borrow
  rw [mod_up, mod_up]
  generalize a % 2 ^ k = A at *
  generalize b % 2 ^ k = B at *
  generalize 2 ^ k = q at *
  rcases (by omega : bitN a k = 0 ∨ bitN a k = 1) with x | x <;> rcases (by omega : bitN b k = 0 ∨ bitN b k = 1) with y | y <;> rw [x, y]
  all_goals
    by_cases h : A < B
    all_goals
      simp only [h, if_true, if_false, Nat.mul_zero, Nat.mul_one, Nat.add_zero]
      first | rfl | (split <;> first | rfl | omega) | (split <;> split <;> first | rfl | omega)

theorem sub_div (a b k : Nat) (hk : k ≤ 128) (hb : b < 340282366920938463463374607431768211456) :
    (a + 340282366920938463463374607431768211456 - b) / 2 ^ k = a / 2 ^ k + 2 ^ (128 - k) - b / 2 ^ k - borrow a b k := by
  have p := pow_pos2 k
  have e : 2 ^ k * 2 ^ (128 - k) = 340282366920938463463374607431768211456 := by rw [← Nat.pow_add, show k + (128 - k) = 128 by omega]
  have h1 := Nat.div_add_mod a (2 ^ k)
  have h2 := Nat.div_add_mod b (2 ^ k)
  have l1 := Nat.mod_lt a p
  have l2 := Nat.mod_lt b p
  have lb : b / 2 ^ k < 2 ^ (128 - k) := by rw [Nat.div_lt_iff_lt_mul p, Nat.mul_comm, e]; exact hb
  unfold borrow
  rw [← e]
  generalize a % 2 ^ k = A at *
  generalize b % 2 ^ k = B at *
  generalize a / 2 ^ k = x at *
  generalize b / 2 ^ k = y at *
  generalize 2 ^ (128 - k) = q at *
  generalize 2 ^ k = r at *
  obtain ⟨z, rfl⟩ : ∃ z, q = y + 1 + z := ⟨q - y - 1, by omega⟩
  by_cases h : A < B
  · rw [if_pos h]
    have : a + r * (y + 1 + z) - b = r * (x + z) + (r + A - B) := by
      rw [← h1, ← h2, Nat.mul_add, Nat.mul_add, Nat.mul_add, Nat.mul_one]; omega
    rw [this, Nat.mul_add_div p, Nat.div_eq_of_lt (by omega)]
    omega
  · rw [if_neg h]
    have : a + r * (y + 1 + z) - b = r * (x + 1 + z) + (A - B) := by
      rw [← h1, ← h2, Nat.mul_add, Nat.mul_add, Nat.mul_add, Nat.mul_add, Nat.mul_one]; omega
    rw [this, Nat.mul_add_div p, Nat.div_eq_of_lt (by omega)]
    omega

/-- The bits of the difference. -/
theorem bitN_sub (a b k : Nat) (hk : k < 128) (hb : b < 340282366920938463463374607431768211456) :
    ((bitN (a + 340282366920938463463374607431768211456 - b) k : Nat) : Int) = if bitN a k < bitN b k + borrow a b k then (bitN a k : Int) - bitN b k - borrow a b k + 2 else (bitN a k : Int) - bitN b k - borrow a b k := by
  have h := sub_div a b k (by omega) hb
  have p := pow_pos2 k
  have e : 2 ^ k * 2 ^ (128 - k) = 340282366920938463463374607431768211456 := by rw [← Nat.pow_add, show k + (128 - k) = 128 by omega]
  have lb : b / 2 ^ k < 2 ^ (128 - k) := by rw [Nat.div_lt_iff_lt_mul p, Nat.mul_comm, e]; exact hb
  obtain ⟨q, hq⟩ : ∃ q, 2 ^ (128 - k) = 2 * q := ⟨2 ^ (127 - k), by rw [← Nat.pow_succ']; congr 1; omega⟩
  have b1 := borrow_le a b k
  unfold bitN
  rw [h, hq]
  rw [hq] at lb
  generalize a / 2 ^ k = x at *
  generalize b / 2 ^ k = y at *
  generalize borrow a b k = z at *
  split <;> omega

end Go.Proofs.YtgbpnekinbdadaaDoor

/-
  Plain facts on long division by two digits of 32 bits.
-/
import Derived.Test.YtegbbankbcojkaaMath
namespace Go.Proofs.Ytegbbankbcojkaa
set_option linter.unusedVariables false

theorem mul_pow_split (y p q : Int) (h : y = p * 4294967296 + q) (a : Int) : a * y = a * p * 4294967296 + a * q := by
  rw [h, Int.mul_add, Int.mul_assoc]

/-- While the test of the loop holds, the digit is too great. -/
theorem digit_big {p q y U d a r : Int} (hy : y = p * 4294967296 + q) (q0 : 0 ≤ q) (q1 : q < 4294967296) (p0 : 2147483648 ≤ p)
    (u1 : U < y) (d1 : d < 4294967296) (e : U = a * p + r) (t : 4294967296 ≤ a ∨ 4294967296 * r + d < a * q) : U * 4294967296 + d < a * y := by
  rcases t with t | t
  · have : 4294967296 * y ≤ a * y := Int.mul_le_mul_of_nonneg_right t (by omega)
    omega
  · rw [mul_pow_split y p q hy a]
    generalize a * p = x at *
    generalize a * q = z at *
    omega

/-- Where the loop ends, the digit is not too great. -/
theorem digit_fits {p q y U d a r : Int} (hy : y = p * 4294967296 + q) (q0 : 0 ≤ q) (q1 : q < 4294967296) (d0 : 0 ≤ d) (a0 : 0 ≤ a) (e : U = a * p + r)
    (t : a ≤ 4294967296 ∧ 4294967296 ≤ r ∨ a * q ≤ 4294967296 * r + d) : a * y ≤ U * 4294967296 + d := by
  rw [mul_pow_split y p q hy a]
  rcases t with ⟨t, s⟩ | t
  · have : a * q ≤ 4294967296 * q := Int.mul_le_mul_of_nonneg_right t q0
    generalize a * p = x at *
    generalize a * q = z at *
    omega
  · generalize a * p = x at *
    generalize a * q = z at *
    omega

theorem quot_of {n y a : Int} (y0 : 0 < y) (h1 : a * y ≤ n) (h2 : n < (a + 1) * y) : n / y = a ∧ n % y = n - a * y := by
  have e : n = (n - a * y) + a * y := by omega
  have l : n - a * y < y := by rw [Int.add_mul] at h2; omega
  have d : n / y = a := by
    rw [e, Int.add_mul_ediv_right _ _ (by omega), Int.ediv_eq_zero_of_lt (by omega) l]; omega
  refine ⟨d, ?_⟩
  rw [Int.emod_def, d, Int.mul_comm y a]

theorem digit_lt {x y U d : Int} (h : x * y ≤ U * 4294967296 + d) (u1 : U < y) (d1 : d < 4294967296) (y0 : 0 < y) : x < 4294967296 := by
  apply Int.not_le.1
  intro c
  have : 4294967296 * y ≤ x * y := Int.mul_le_mul_of_nonneg_right c (by omega)
  omega

theorem digit_pos {x y U d : Int} (h : U * 4294967296 + d < x * y) (u0 : 0 ≤ U) (d0 : 0 ≤ d) (y0 : 0 < y) : 1 ≤ x := by
  apply Int.not_lt.1
  intro c
  have : x * y ≤ 0 * y := Int.mul_le_mul_of_nonneg_right (by omega) (by omega)
  omega

theorem prod_fits {x q : Int} (x0 : 0 ≤ x) (x1 : x < 4294967296) (q0 : 0 ≤ q) (q1 : q < 4294967296) : 0 ≤ x * q ∧ x * q < 18446744073709551616 := by
  refine ⟨Int.mul_nonneg x0 q0, ?_⟩
  have : x * q ≤ 4294967295 * 4294967295 := Int.mul_le_mul (by omega) (by omega) q0 (by omega)
  omega

/-- The first guess: not too small, at most two too great. -/
theorem guess {p q y U d : Int} (hy : y = p * 4294967296 + q) (q0 : 0 ≤ q) (q1 : q < 4294967296) (p0 : 2147483648 ≤ p) (u0 : 0 ≤ U)
    (u1 : U < y) (d0 : 0 ≤ d) (d1 : d < 4294967296) : 0 ≤ U / p ∧ U / p ≤ 4294967297 ∧ U = U / p * p + (U - U / p * p) ∧ 0 ≤ U - U / p * p ∧ U - U / p * p < p ∧ U * 4294967296 + d < (U / p + 1) * y := by
  have a : U / p * p ≤ U := Int.ediv_mul_le _ (by omega)
  have b : U < U / p * p + p := by
    have := Int.lt_ediv_add_one_mul_self U (by omega : 0 < p)
    rw [Int.add_mul] at this; omega
  have c : 0 ≤ U / p := Int.ediv_nonneg u0 (by omega)
  have g : U / p ≤ 4294967297 := by
    apply Int.lt_add_one_iff.1
    apply (Int.ediv_lt_iff_lt_mul (by omega)).2
    omega
  refine ⟨c, g, by omega, by omega, by omega, ?_⟩
  rw [mul_pow_split y p q hy]
  have : (U / p + 1) * p = U / p * p + p := by rw [Int.add_mul]; omega
  rw [this]
  have : 0 ≤ (U / p + 1) * q := Int.mul_nonneg (by omega) q0
  generalize U / p * p = x at *
  generalize (U / p + 1) * q = z at *
  omega

/-- The divisor shifted so that its highest bit is one, the dividend shifted as far. -/
theorem prep {H L y s : Nat} (hL : L < 18446744073709551616) (h1 : H < y) (hs : s < 64) (b0 : 9223372036854775808 ≤ y * 2 ^ s) (b1 : y * 2 ^ s < 18446744073709551616) :
    ((H * 2 ^ s % 18446744073709551616) ||| (L / 2 ^ (64 - s))) * 18446744073709551616 + L * 2 ^ s % 18446744073709551616 = (H * 18446744073709551616 + L) * 2 ^ s ∧
    ((H * 2 ^ s % 18446744073709551616) ||| (L / 2 ^ (64 - s))) < y * 2 ^ s := by
  have e := shl_nat H L s hL hs
  have lt : (H * 18446744073709551616 + L) * 2 ^ s < y * 2 ^ s * 18446744073709551616 := by
    rw [Nat.mul_right_comm]
    apply Nat.mul_lt_mul_of_pos_right _ (pow_pos2 s)
    have : (H + 1) * 18446744073709551616 ≤ y * 18446744073709551616 := Nat.mul_le_mul_right _ h1
    omega
  rw [Nat.mod_eq_of_lt (by omega)] at e
  have r : L * 2 ^ s % 18446744073709551616 < 18446744073709551616 := Nat.mod_lt _ (by decide)
  refine ⟨e.symm, ?_⟩
  rw [e] at lt
  generalize (H * 2 ^ s % 18446744073709551616) ||| (L / 2 ^ (64 - s)) = u at *
  generalize y * 2 ^ s = z at *
  omega

/-- What is left, shifted back. -/
theorem back {n y s : Nat} (y0 : 0 < y) {q r : Nat} (h : n * 2 ^ s = q * (y * 2 ^ s) + r) (hr : r < y * 2 ^ s) : n / y = q ∧ n % y = r / 2 ^ s := by
  have p := pow_pos2 s
  have e : r = (n * 2 ^ s - q * y * 2 ^ s) := by rw [← Nat.mul_assoc] at h; omega
  have m : r = (n - q * y) * 2 ^ s := by rw [e, Nat.sub_mul]
  have d : r / 2 ^ s = n - q * y := by rw [m, Nat.mul_div_cancel _ p]
  have le : q * y ≤ n := by
    rw [← Nat.mul_assoc] at h
    exact Nat.le_of_mul_le_mul_right (by omega : q * y * 2 ^ s ≤ n * 2 ^ s) p
  have lt : n - q * y < y := by
    rw [m] at hr; exact Nat.lt_of_mul_lt_mul_right hr
  have hn : n = (n - q * y) + q * y := by omega
  have hq : n / y = q := by
    rw [hn, Nat.add_mul_div_right _ _ y0, Nat.div_eq_of_lt lt]; omega
  refine ⟨hq, ?_⟩
  rw [d, Nat.mod_eq_sub_mul_div, hq, Nat.mul_comm]

end Go.Proofs.Ytegbbankbcojkaa

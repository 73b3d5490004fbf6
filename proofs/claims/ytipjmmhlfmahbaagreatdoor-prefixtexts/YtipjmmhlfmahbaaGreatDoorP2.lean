/-
  Texts Math, Dec, BitMath of the proof.
-/

namespace Go.Proofs.YtipjmmhlfmahbaaGreatDoor

/-- Two words h, l that are the number n. -/
structure IsNum (h l : Int) (n : Nat) : Prop where
  h0 : 0 ≤ h
  h1 : h < 18446744073709551616
  l0 : 0 ≤ l
  l1 : l < 18446744073709551616
  eq : h * 18446744073709551616 + l = (n : Int)

theorem IsNum.lt {h l : Int} {n : Nat} (x : IsNum h l n) : n < 340282366920938463463374607431768211456 := by
  have := x.h0; have := x.h1; have := x.l0; have := x.l1; have := x.eq; omega

theorem IsNum.uniq {h l h' l' : Int} {n : Nat} (x : IsNum h l n) (y : IsNum h' l' n) : h = h' ∧ l = l' := by
  have := x.h0; have := x.h1; have := x.l0; have := x.l1; have := x.eq
  have := y.h0; have := y.h1; have := y.l0; have := y.l1; have := y.eq
  omega

theorem IsNum.cast {h l : Int} {n m : Nat} (x : IsNum h l n) (e : n = m) : IsNum h l m := e ▸ x

theorem IsNum.mk' {h l : Int} (h0 : 0 ≤ h) (h1 : h < 18446744073709551616) (l0 : 0 ≤ l) (l1 : l < 18446744073709551616) : IsNum h l (h * 18446744073709551616 + l).toNat :=
  ⟨h0, h1, l0, l1, by omega⟩

theorem IsNum.nat {h l : Int} {n : Nat} (x : IsNum h l n) : ∃ H L : Nat, h = H ∧ l = L ∧ H < 18446744073709551616 ∧ L < 18446744073709551616 ∧ n = H * 18446744073709551616 + L := by
  refine ⟨h.toNat, l.toNat, ?_⟩
  have := x.h0; have := x.h1; have := x.l0; have := x.l1; have := x.eq; omega

theorem IsNum.ofNat {H L : Nat} (h : H < 18446744073709551616) (l : L < 18446744073709551616) : IsNum (H : Int) (L : Int) (H * 18446744073709551616 + L) :=
  ⟨by omega, by omega, by omega, by omega, by omega⟩

/-- The powers p and q of 2 whose product is 2^64. -/
theorem pow_split (k : Nat) (hk : k ≤ 64) : 2 ^ k * 2 ^ (64 - k) = 18446744073709551616 := by
  rw [← Nat.pow_add, show k + (64 - k) = 64 by omega]

theorem pow_pos2 (k : Nat) : 0 < 2 ^ k := Nat.pow_pos (by decide)

/-- A row of low noughts, or-ed with what fits there, is the sum. -/
theorem or_add (k s u : Nat) (hu : u < 2 ^ k) : (2 ^ k * s) ||| u = 2 ^ k * s + u := (Nat.two_pow_add_eq_or_of_lt hu s).symm

theorem mulmod (x k : Nat) (hk : k ≤ 64) : x * 2 ^ k % 18446744073709551616 = 2 ^ k * (x % 2 ^ (64 - k)) := by
  rw [← pow_split k hk, Nat.mul_comm x, Nat.mul_mod_mul_left]

/-- The lower word of a shift to the left, and what it carries. -/
theorem shl_word (l k : Nat) (hk : k ≤ 64) : l * 2 ^ k = l / 2 ^ (64 - k) * 18446744073709551616 + l * 2 ^ k % 18446744073709551616 := by
  rw [mulmod l k hk, ← pow_split k hk]
  have h := Nat.div_add_mod l (2 ^ (64 - k))
  generalize l / 2 ^ (64 - k) = u at *
  generalize l % 2 ^ (64 - k) = v at *
  generalize 2 ^ (64 - k) = q at *
  generalize 2 ^ k = p at *
  subst h
  rw [Nat.add_mul, Nat.mul_comm q u, Nat.mul_assoc, Nat.mul_comm q p, Nat.mul_comm v p]

theorem shl_carry_lt (l k : Nat) (hl : l < 18446744073709551616) (hk : k ≤ 64) : l / 2 ^ (64 - k) < 2 ^ k := by
  rw [Nat.div_lt_iff_lt_mul (pow_pos2 _), pow_split k hk]; exact hl

theorem shl_nat (H L k : Nat) (hl : L < 18446744073709551616) (hk : k < 64) :
    (H * 18446744073709551616 + L) * 2 ^ k % 340282366920938463463374607431768211456 = ((H * 2 ^ k % 18446744073709551616) ||| (L / 2 ^ (64 - k))) * 18446744073709551616 + L * 2 ^ k % 18446744073709551616 := by
  have c := shl_carry_lt L k hl (by omega)
  rw [mulmod H k (by omega), or_add k _ _ c]
  have e1 := shl_word L k (by omega)
  have e2 := shl_word H k (by omega)
  rw [mulmod H k (by omega)] at e2
  have c2 : 2 ^ k * (H % 2 ^ (64 - k)) + L / 2 ^ (64 - k) < 18446744073709551616 := by
    rw [← pow_split k (by omega)]
    have m := Nat.mod_lt H (pow_pos2 (64 - k))
    have : 2 ^ k * (H % 2 ^ (64 - k)) + 2 ^ k ≤ 2 ^ k * 2 ^ (64 - k) := by
      rw [← Nat.mul_succ]; exact Nat.mul_le_mul_left _ m
    omega
  have r : L * 2 ^ k % 18446744073709551616 < 18446744073709551616 := Nat.mod_lt _ (by decide)
  rw [Nat.add_mul, Nat.mul_right_comm, e2, e1]
  generalize 2 ^ k * (H % 2 ^ (64 - k)) = x at *
  generalize L * 2 ^ k % 18446744073709551616 = y at *
  generalize L / 2 ^ (64 - k) = z at *
  generalize H / 2 ^ (64 - k) = v at *
  omega

theorem shl_hi_nat (H L k : Nat) (hk : 64 ≤ k) :
    (H * 18446744073709551616 + L) * 2 ^ k % 340282366920938463463374607431768211456 = (L * 2 ^ (k - 64) % 18446744073709551616) * 18446744073709551616 := by
  have e : 2 ^ k = 2 ^ (k - 64) * 18446744073709551616 := by
    rw [show (18446744073709551616 : Nat) = 2 ^ 64 by decide, ← Nat.pow_add, show k - 64 + 64 = k by omega]
  rw [e]
  generalize 2 ^ (k - 64) = p
  have : (H * 18446744073709551616 + L) * (p * 18446744073709551616) = H * p * 340282366920938463463374607431768211456 + L * p * 18446744073709551616 := by
    rw [Nat.add_mul, ← Nat.mul_assoc L p, ← Nat.mul_assoc, Nat.mul_right_comm H]
    omega
  rw [this]
  generalize L * p = y
  generalize H * p = x
  omega

theorem shr_nat (H L k : Nat) (hk : k < 64) (hl : L < 18446744073709551616) :
    (H * 18446744073709551616 + L) / 2 ^ k = H / 2 ^ k * 18446744073709551616 + ((L / 2 ^ k) ||| (H * 2 ^ (64 - k) % 18446744073709551616)) := by
  have e := pow_split k (by omega)
  have m := mulmod H (64 - k) (by omega)
  rw [show 64 - (64 - k) = k by omega] at m
  have c : L / 2 ^ k < 2 ^ (64 - k) := by
    rw [Nat.div_lt_iff_lt_mul (pow_pos2 _), Nat.mul_comm, e]; exact hl
  rw [Nat.or_comm, m, or_add _ _ _ c]
  have h := Nat.div_add_mod H (2 ^ k)
  have pp := pow_pos2 k
  generalize H / 2 ^ k = s at *
  generalize H % 2 ^ k = t at *
  generalize 2 ^ (64 - k) = q at *
  generalize 2 ^ k = p at *
  have : H * 18446744073709551616 + L = p * (s * 18446744073709551616 + q * t) + L := by
    rw [← h, ← e]
    simp only [Nat.mul_add, Nat.add_mul]
    ac_rfl
  rw [this, Nat.mul_add_div pp, Nat.add_assoc]

theorem shr_hi_nat (H L k : Nat) (hk : 64 ≤ k) (hl : L < 18446744073709551616) : (H * 18446744073709551616 + L) / 2 ^ k = H / 2 ^ (k - 64) := by
  have e : 2 ^ k = 18446744073709551616 * 2 ^ (k - 64) := by
    rw [show (18446744073709551616 : Nat) = 2 ^ 64 by decide, ← Nat.pow_add, show 64 + (k - 64) = k by omega]
  rw [e, ← Nat.div_div_eq_div_mul]
  congr 1
  omega

end Go.Proofs.YtipjmmhlfmahbaaGreatDoor

namespace Go.Proofs.YtipjmmhlfmahbaaGreatDoor

/-- n has j digits. -/
structure IsDec (n j : Nat) : Prop where
  pos : 1 ≤ j
  lt : n < 10 ^ j
  ge : 1 < j → 10 ^ (j - 1) ≤ n

theorem IsDec.uniq {n j k : Nat} (a : IsDec n j) (b : IsDec n k) : j = k := by
  have aux : ∀ {j k : Nat}, IsDec n j → IsDec n k → j ≤ k := by
    intro j k a b
    apply Nat.not_lt.1
    intro h
    have h1 := a.ge (by have := b.pos; omega)
    have h2 := b.lt
    have h3 : 10 ^ k ≤ 10 ^ (j - 1) := Nat.pow_le_pow_right (by decide) (by omega)
    omega
  exact Nat.le_antisymm (aux a b) (aux b a)

theorem IsDec.le {n j : Nat} (a : IsDec n j) (h : n < 340282366920938463463374607431768211456) : j ≤ 39 := by
  apply Nat.not_lt.1
  intro c
  have h1 := a.ge (by omega)
  have h3 : 10 ^ 39 ≤ 10 ^ (j - 1) := Nat.pow_le_pow_right (by decide) (by omega)
  have : (10 : Nat) ^ 39 = 1000000000000000000000000000000000000000 := by decide
  omega

end Go.Proofs.YtipjmmhlfmahbaaGreatDoor

namespace Go.Proofs.YtipjmmhlfmahbaaGreatDoor

/-- The bit worth 2^j. -/
def bitN (a j : Nat) : Nat := a / 2 ^ j % 2

theorem bitN_le (a j : Nat) : bitN a j ≤ 1 := by unfold bitN; omega

/-- The first k bits, the lowest one first. -/
def bitsL (a : Nat) : Nat → List Int
  | 0 => []
  | k + 1 => bitsL a k ++ [((bitN a k : Nat) : Int)]

theorem bitsL_length (a : Nat) : ∀ k, (bitsL a k).length = k
  | 0 => rfl
  | k + 1 => by simp [bitsL, bitsL_length a k]

theorem bitsL_getD (a : Nat) : ∀ (k i : Nat), i < k → (bitsL a k).getD i 0 = (bitN a i : Nat)
  | k + 1, i, h => by
    rw [bitsL, List.getD_eq_getElem?_getD]
    by_cases c : i < k
    · rw [List.getElem?_append_left (by rw [bitsL_length]; exact c), ← List.getD_eq_getElem?_getD, bitsL_getD a k i c]
    · obtain rfl : i = k := by omega
      rw [List.getElem?_append_right (by rw [bitsL_length]; omega), bitsL_length]
      simp

/-- The words of a number have its bits. -/
theorem bitN_low {H L j : Nat} (hj : j < 64) : bitN (H * 18446744073709551616 + L) j = bitN L j := by
  unfold bitN
  have e := pow_split j (by omega)
  rw [← e, ← Nat.mul_assoc, Nat.mul_comm (H * 2 ^ j), Nat.mul_comm H, ← Nat.mul_assoc, Nat.mul_comm _ (2 ^ j), Nat.mul_assoc, Nat.mul_add_div (pow_pos2 j)]
  obtain ⟨q, hq⟩ : ∃ q, 2 ^ (64 - j) = 2 * q := ⟨2 ^ (63 - j), by rw [← Nat.pow_succ']; congr 1; omega⟩
  rw [hq, Nat.mul_assoc]
  omega

theorem bitN_high {H L j : Nat} (hL : L < 18446744073709551616) (hj : 64 ≤ j) : bitN (H * 18446744073709551616 + L) j = bitN H (j - 64) := by
  unfold bitN
  rw [shr_hi_nat H L j hj hL]

theorem bitsL_low {H L : Nat} : ∀ k, k ≤ 64 → bitsL (H * 18446744073709551616 + L) k = bitsL L k
  | 0, _ => rfl
  | k + 1, h => by rw [bitsL, bitsL, bitsL_low k (by omega), bitN_low (by omega)]

theorem bitsL_high {H L : Nat} (hL : L < 18446744073709551616) : ∀ k, k ≤ 64 → bitsL (H * 18446744073709551616 + L) (64 + k) = bitsL L 64 ++ bitsL H k
  | 0, _ => by simp [bitsL_low 64 (by omega), show bitsL H 0 = [] from rfl]
  | k + 1, h => by
    have e : bitsL H (k + 1) = bitsL H k ++ [((bitN H k : Nat) : Int)] := rfl
    rw [← Nat.add_assoc, bitsL, bitsL_high hL k (by omega), bitN_high hL (by omega), e, List.append_assoc, show 64 + k - 64 = k by omega]

end Go.Proofs.YtipjmmhlfmahbaaGreatDoor

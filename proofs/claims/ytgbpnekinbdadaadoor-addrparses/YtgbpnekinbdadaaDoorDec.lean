/-
  Decimal digits, plainly.
-/
namespace Go.Proofs.YtgbpnekinbdadaaDoor

/-- The last j digits of n, as bytes, the highest one first. -/
def lowD (n : Nat) : Nat → List Int
  | 0 => []
  | j + 1 => ((48 + n / 10 ^ j % 10 : Nat) : Int) :: lowD n j

theorem lowD_length (n : Nat) : ∀ j, (lowD n j).length = j
  | 0 => rfl
  | j + 1 => by simp [lowD, lowD_length n j]

/-- n has j digits. -/
structure IsDec (n j : Nat) : Prop where
  pos : 1 ≤ j
  lt : n < 10 ^ j
  ge : 1 < j → 10 ^ (j - 1) ≤ n

theorem IsDec.uniq {n j k : Nat} (a : IsDec n j) (b : IsDec n k) : j = k := by
  have aux : ∀ {j k : Nat}, IsDec n j → IsDec n k → j ≤ k := by
    intro j k a b
    apply Nat.not_lt.1
    intro h
    have h1 := a.ge (by have := b.pos; omega)
    have h2 := b.lt
    have h3 : 10 ^ k ≤ 10 ^ (j - 1) := Nat.pow_le_pow_right (by decide) (by omega)
    omega
  exact Nat.le_antisymm (aux a b) (aux b a)

theorem IsDec.le {n j : Nat} (a : IsDec n j) (h : n < 340282366920938463463374607431768211456) : j ≤ 39 := by
  apply Nat.not_lt.1
  intro c
  have h1 := a.ge (by omega)
  have h3 : 10 ^ 39 ≤ 10 ^ (j - 1) := Nat.pow_le_pow_right (by decide) (by omega)
  have : (10 : Nat) ^ 39 = 1000000000000000000000000000000000000000 := by decide
  omega

end Go.Proofs.YtgbpnekinbdadaaDoor

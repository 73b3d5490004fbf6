/-
  The next bit that is not one, bytes of bits: plain facts. No program in sight.
-/
import Derived.Test.YtkfglbmhpdcfpaaDoorBm4
namespace Go.Proofs.YtkfglbmhpdcfpaaDoor
open Go.RowKit
set_option linter.unusedVariables false
set_option linter.unusedSimpArgs false

theorem hide {p : Prop} (h : p) : Hid p := h

/-- The first of k numbers from a on that is not one. -/
def seek (f : Nat → Bool) : Nat → Nat → Option Nat
  | _, 0 => none
  | a, k + 1 => if f a then seek f (a + 1) k else some a

theorem seek_none {f : Nat → Bool} : ∀ {k a : Nat}, (∀ p, a ≤ p → p < a + k → f p = true) → seek f a k = none
  | 0, _, _ => rfl
  | k + 1, a, h => by
    simp only [seek]
    rw [if_pos (h a (by omega) (by omega))]
    exact seek_none (fun p h1 h2 => h p (by omega) (by omega))

theorem seek_some {f : Nat → Bool} : ∀ {k a p : Nat}, a ≤ p → p < a + k → f p = false → (∀ q, a ≤ q → q < p → f q = true) → seek f a k = some p
  | 0, a, p, h1, h2, _, _ => by omega
  | k + 1, a, p, h1, h2, h3, h4 => by
    simp only [seek]
    by_cases e : a = p
    · subst e; rw [if_neg (by simp [h3])]
    · rw [if_pos (h4 a (by omega) (by omega))]
      exact seek_some (by omega) (by omega) h3 (fun q h5 h6 => h4 q (by omega) h6)

theorem seek_is {f : Nat → Bool} : ∀ {k a p : Nat}, seek f a k = some p → a ≤ p ∧ p < a + k ∧ f p = false
  | 0, a, p, h => by simp [seek] at h
  | k + 1, a, p, h => by
    simp only [seek] at h
    by_cases e : f a
    · rw [if_pos e] at h
      have := seek_is h
      exact ⟨by omega, by omega, this.2.2⟩
    · rw [if_neg e] at h
      obtain rfl := Option.some.inj h
      exact ⟨by omega, by omega, by simpa using e⟩

theorem seek_all {f : Nat → Bool} : ∀ {k a : Nat}, seek f a k = none → ∀ p, a ≤ p → p < a + k → f p = true
  | 0, a, _, p, h1, h2 => by omega
  | k + 1, a, h, p, h1, h2 => by
    simp only [seek] at h
    by_cases e : f a
    · rw [if_pos e] at h
      by_cases ep : p = a
      · subst ep; exact e
      · exact seek_all h p (by omega) (by omega)
    · rw [if_neg e] at h; cases h

/-- The next one that isn't one, from s on, round once. -/
def nextF (f : Nat → Bool) (n s : Nat) : Option Nat :=
  match seek f s (n - s) with
  | some p => some p
  | none => seek f 0 s

def nxP (f : Nat → Bool) (n s : Nat) : Nat := (nextF f n s).getD 0
def nxB (f : Nat → Bool) (n s : Nat) : Bool := (nextF f n s).isSome

theorem nextF_is {f : Nat → Bool} {n s p : Nat} (hs : s < n) (h : nextF f n s = some p) : p < n ∧ f p = false := by
  unfold nextF at h
  split at h
  · rename_i q e
    obtain rfl := Option.some.inj h
    have := seek_is e
    exact ⟨by omega, this.2.2⟩
  · have := seek_is h
    exact ⟨by omega, this.2.2⟩

theorem nextF_none {f : Nat → Bool} {n s : Nat} (hs : s < n) (h : nextF f n s = none) : ∀ p, p < n → f p = true := by
  unfold nextF at h
  split at h
  · cases h
  · rename_i e
    intro p hp
    by_cases hq : s ≤ p
    · exact seek_all e p hq (by omega)
    · exact seek_all h p (by omega) (by omega)

/-- The reference's way: one by one, round once. -/
theorem nextF_round {f : Nat → Bool} {n s k i : Nat} (hs : s < n) (hk : k < n) (hi : i = (s + k) % n) (h0 : ∀ j, j < k → f ((s + j) % n) = true) (h1 : f i = false) : nextF f n s = some i := by
  have md : ∀ j, j < n → (s + j) % n = if s + j < n then s + j else s + j - n := fun j hj => by
    split
    · rename_i h; exact Nat.mod_eq_of_lt h
    · rename_i h
      rw [Nat.mod_eq_sub_mod (by omega), Nat.mod_eq_of_lt (by omega)]
  rw [md k hk] at hi
  unfold nextF
  by_cases h : s + k < n
  · rw [if_pos h] at hi
    subst hi
    rw [seek_some (p := s + k) (by omega) (by omega) h1 (fun q h2 h3 => ?_)]
    have := h0 (q - s) (by omega)
    rw [md _ (by omega), if_pos (by omega)] at this
    rw [show s + (q - s) = q by omega] at this
    exact this
  · rw [if_neg h] at hi
    subst hi
    rw [seek_none (f := f) (k := n - s) (a := s) (fun q h2 h3 => ?_)]
    · show seek f 0 s = _
      refine seek_some (by omega) (by omega) h1 (fun q h2 h3 => ?_)
      have := h0 (q + n - s) (by omega)
      rw [md _ (by omega), if_neg (by omega)] at this
      rw [show s + (q + n - s) - n = q by omega] at this
      exact this
    · have := h0 (q - s) (by omega)
      rw [md _ (by omega), if_pos (by omega)] at this
      rw [show s + (q - s) = q by omega] at this
      exact this

theorem nextF_full {f : Nat → Bool} {n s : Nat} (hs : s < n) (h0 : ∀ j, j < n → f ((s + j) % n) = true) : nextF f n s = none := by
  have all : ∀ p, p < n → f p = true := fun p hp => by
    by_cases h : s ≤ p
    · have := h0 (p - s) (by omega)
      rw [show s + (p - s) = p by omega, Nat.mod_eq_of_lt hp] at this
      exact this
    · have := h0 (p + n - s) (by omega)
      rw [show s + (p + n - s) = p + n by omega, Nat.add_mod_right, Nat.mod_eq_of_lt hp] at this
      exact this
  unfold nextF
  rw [seek_none (fun p h1 h2 => all p (by omega))]
  exact seek_none (fun p h1 h2 => all p (by omega))

/-- k bits from b on, as a number. -/
def bsum (f : Nat → Bool) (b : Nat) : Nat → Nat
  | 0 => 0
  | k + 1 => bsum f b k + (if f (b + k) then 2 ^ k else 0)

theorem bsum_lt (f : Nat → Bool) (b : Nat) : ∀ k, bsum f b k < 2 ^ k
  | 0 => by simp [bsum]
  | k + 1 => by
    have := bsum_lt f b k
    simp only [bsum]
    rw [Nat.pow_succ]
    split <;> omega

theorem bsum_bit (f : Nat → Bool) (b : Nat) : ∀ k j, (bsum f b k).testBit j = (decide (j < k) && f (b + j))
  | 0, j => by simp [bsum]
  | k + 1, j => by
    have lt := bsum_lt f b k
    have ih := bsum_bit f b k j
    have e : bsum f b (k + 1) = 2 ^ k * (if f (b + k) then 1 else 0) + bsum f b k := by
      simp only [bsum]; split <;> omega
    rw [e, Nat.testBit_two_pow_mul_add _ lt]
    by_cases h : j < k
    · rw [if_pos h, ih]
      simp [h, show j < k + 1 by omega]
    · rw [if_neg h]
      by_cases h2 : j = k
      · subst h2
        cases f (b + j) <;> simp
      · have : ¬ j < k + 1 := by omega
        simp [this]
        split
        · exact Nat.testBit_lt_two_pow (by
            have : 2 ^ 1 ≤ 2 ^ (j - k) := Nat.pow_le_pow_right (by decide) (by omega)
            omega)
        · simp

theorem bsum_congr {f g : Nat → Bool} {b : Nat} : ∀ {k : Nat}, (∀ j, j < k → f (b + j) = g (b + j)) → bsum f b k = bsum g b k
  | 0, _ => rfl
  | k + 1, h => by simp only [bsum]; rw [bsum_congr (fun j hj => h j (by omega)), h k (by omega)]

/-- A byte of a word. -/
theorem word_byte {f : Nat → Bool} {x i r : Nat} (hx : ∀ j, j < 64 → x.testBit j = f (64 * i + j)) (hr : r < 8) : x / 2 ^ (8 * r) % 256 = bsum f (8 * (8 * i + r)) 8 := by
  apply Nat.eq_of_testBit_eq
  intro j
  rw [show (256 : Nat) = 2 ^ 8 from rfl, Nat.testBit_mod_two_pow, Nat.testBit_div_two_pow, bsum_bit]
  by_cases h : j < 8
  · simp only [h, decide_true, Bool.true_and]
    rw [hx _ (by omega)]
    congr 1; omega
  · simp [h]

theorem cnt_full {p : Nat → Bool} : ∀ {n : Nat}, cnt p n = n ↔ ∀ k, k < n → p k = true
  | 0 => by simp [cnt]
  | n + 1 => by
    have ih := cnt_full (p := p) (n := n)
    have le := cnt_le p n
    simp only [cnt]
    constructor
    · intro h
      have h1 : p n = true := by
        cases e : p n
        · rw [e] at h; simp at h; omega
        · rfl
      rw [h1] at h
      intro k hk
      by_cases e : k = n
      · rw [e]; exact h1
      · exact ih.1 (by simp at h; omega) k (by omega)
    · intro h
      rw [ih.2 (fun k hk => h k (by omega)), h n (by omega)]
      rfl

end Go.Proofs.YtkfglbmhpdcfpaaDoor

/-
  Plain facts on the fewest prefixes that have the addresses from one to another one. No program in sight.
-/
import Derived.Test.YtmhnfgfdggjdhaaGreatDoorMath
namespace Go.Proofs.YtmhnfgfdggjdhaaGreatDoor
set_option linter.unusedVariables false
set_option linter.unusedSimpArgs false

/-- The widest prefixes (a first address, how many bits stand behind) within the one from n on with k bits behind that have no address but those from a to z. -/
def spL (a z : Nat) : Nat → Nat → List (Nat × Nat)
  | 0, n => if n < a ∨ z < n then [] else [(n, 0)]
  | k + 1, n => if n + (2 ^ (k + 1) - 1) < a ∨ z < n then [] else if a ≤ n ∧ n + (2 ^ (k + 1) - 1) ≤ z then [(n, k + 1)] else spL a z k n ++ spL a z k (n + 2 ^ k)

/-- One behind the other from s up to t. -/
def Tiles : Nat → Nat → List (Nat × Nat) → Prop
  | s, t, [] => s = t
  | s, t, p :: r => p.1 = s ∧ Tiles (p.1 + 2 ^ p.2) t r

theorem Tiles.append {m t : Nat} {r : List (Nat × Nat)} (h2 : Tiles m t r) : ∀ {s : Nat} {l : List (Nat × Nat)}, Tiles s m l → Tiles s t (l ++ r)
  | s, [], h => by
    obtain rfl : s = m := h
    exact h2
  | s, p :: l, h => ⟨h.1, Tiles.append h2 h.2⟩

theorem sp_none {a z : Nat} : ∀ {k n : Nat}, (n + (2 ^ k - 1) < a ∨ z < n) → spL a z k n = []
  | 0, n, h => by
    rw [spL, if_pos]
    simpa using h
  | k + 1, n, h => by rw [spL, if_pos h]

theorem sp_all {a z : Nat} : ∀ {k n : Nat}, a ≤ n → n + (2 ^ k - 1) ≤ z → spL a z k n = [(n, k)]
  | 0, n, h1, h2 => by
    rw [spL, if_neg]
    simp at h2
    omega
  | k + 1, n, h1, h2 => by
    have p := pow_pos2 (k + 1)
    rw [spL, if_neg (by omega), if_pos ⟨h1, h2⟩]

theorem sp_part {a z k n : Nat} (h1 : ¬ (n + (2 ^ (k + 1) - 1) < a ∨ z < n)) (h2 : ¬ (a ≤ n ∧ n + (2 ^ (k + 1) - 1) ≤ z)) : spL a z (k + 1) n = spL a z k n ++ spL a z k (n + 2 ^ k) := by
  rw [spL, if_neg h1, if_neg h2]

theorem sp_tiles {a z : Nat} : ∀ {k n : Nat}, ¬ (n + (2 ^ k - 1) < a ∨ z < n) → a ≤ z → Tiles (max a n) (min (z + 1) (n + 2 ^ k)) (spL a z k n)
  | 0, n, h, haz => by
    simp at h
    rw [sp_all (by omega) (by simp; omega)]
    exact ⟨by show n = max a n; omega, by show n + 2 ^ 0 = min (z + 1) (n + 2 ^ 0); simp; omega⟩
  | k + 1, n, h, haz => by
    have p := pow_pos2 k
    have e : 2 ^ (k + 1) = 2 ^ k + 2 ^ k := by rw [Nat.pow_succ]; omega
    by_cases h2 : a ≤ n ∧ n + (2 ^ (k + 1) - 1) ≤ z
    · rw [sp_all h2.1 h2.2]
      exact ⟨by show n = max a n; omega, by show n + 2 ^ (k + 1) = min (z + 1) (n + 2 ^ (k + 1)); omega⟩
    · rw [sp_part h h2]
      by_cases c1 : n + (2 ^ k - 1) < a
      · rw [sp_none (k := k) (n := n) (Or.inl c1), List.nil_append]
        have r := sp_tiles (k := k) (n := n + 2 ^ k) (a := a) (z := z) (by omega) haz
        rw [show max a n = max a (n + 2 ^ k) by omega, show min (z + 1) (n + 2 ^ (k + 1)) = min (z + 1) (n + 2 ^ k + 2 ^ k) by omega]
        exact r
      · have l := sp_tiles (k := k) (n := n) (a := a) (z := z) (by omega) haz
        by_cases c2 : z < n + 2 ^ k
        · rw [sp_none (k := k) (n := n + 2 ^ k) (Or.inr c2), List.append_nil]
          rw [show min (z + 1) (n + 2 ^ (k + 1)) = min (z + 1) (n + 2 ^ k) by omega]
          exact l
        · have r := sp_tiles (k := k) (n := n + 2 ^ k) (a := a) (z := z) (by omega) haz
          rw [show min (z + 1) (n + 2 ^ k) = max a (n + 2 ^ k) by omega] at l
          rw [show min (z + 1) (n + 2 ^ (k + 1)) = min (z + 1) (n + 2 ^ k + 2 ^ k) by omega]
          exact Tiles.append r l

/-- Those that begin at its first address, but not to its last one, are k at most. -/
theorem sp_left {a z : Nat} : ∀ {k n : Nat}, a ≤ n → z < n + (2 ^ k - 1) → (spL a z k n).length ≤ k
  | 0, n, h1, h2 => by
    rw [sp_none (Or.inr (by simpa using h2))]
    simp
  | k + 1, n, h1, h2 => by
    have p := pow_pos2 k
    have e : 2 ^ (k + 1) = 2 ^ k + 2 ^ k := by rw [Nat.pow_succ]; omega
    by_cases c : n + (2 ^ (k + 1) - 1) < a ∨ z < n
    · rw [sp_none c]; simp
    · rw [sp_part c (by omega), List.length_append]
      by_cases d : z < n + (2 ^ k - 1)
      · have l := sp_left (k := k) (n := n) h1 d
        rw [sp_none (k := k) (n := n + 2 ^ k) (Or.inr (by omega))]
        simp; omega
      · rw [sp_all (k := k) (n := n) h1 (by omega)]
        by_cases f : z < n + 2 ^ k
        · rw [sp_none (k := k) (n := n + 2 ^ k) (Or.inr f)]; simp
        · have r := sp_left (k := k) (n := n + 2 ^ k) (a := a) (z := z) (by omega) (by omega)
          simp; omega

theorem sp_right {a z : Nat} : ∀ {k n : Nat}, n < a → n + (2 ^ k - 1) ≤ z → (spL a z k n).length ≤ k
  | 0, n, h1, h2 => by
    rw [sp_none (Or.inl (by simpa using h1))]
    simp
  | k + 1, n, h1, h2 => by
    have p := pow_pos2 k
    have e : 2 ^ (k + 1) = 2 ^ k + 2 ^ k := by rw [Nat.pow_succ]; omega
    by_cases c : n + (2 ^ (k + 1) - 1) < a ∨ z < n
    · rw [sp_none c]; simp
    · rw [sp_part c (by omega), List.length_append]
      by_cases d : n + 2 ^ k < a
      · have r := sp_right (k := k) (n := n + 2 ^ k) (a := a) (z := z) d (by omega)
        rw [sp_none (k := k) (n := n) (Or.inl (by omega))]
        simp; omega
      · rw [sp_all (k := k) (n := n + 2 ^ k) (by omega) (by omega)]
        have r := sp_right (k := k) (n := n) (a := a) (z := z) h1 (by omega)
        simp; omega

/-- Twice as many as there are bits behind, at most. -/
theorem sp_length {a z : Nat} : ∀ {k n : Nat}, (spL a z k n).length ≤ max 1 (2 * k)
  | 0, n => by
    rw [spL]; split <;> simp
  | k + 1, n => by
    have p := pow_pos2 k
    have e : 2 ^ (k + 1) = 2 ^ k + 2 ^ k := by rw [Nat.pow_succ]; omega
    by_cases c : n + (2 ^ (k + 1) - 1) < a ∨ z < n
    · rw [sp_none c]; simp
    · by_cases d : a ≤ n ∧ n + (2 ^ (k + 1) - 1) ≤ z
      · rw [sp_all d.1 d.2]; simp; omega
      · rw [sp_part c d, List.length_append]
        by_cases f : n + (2 ^ k - 1) < a
        · have r := sp_length (k := k) (n := n + 2 ^ k) (a := a) (z := z)
          rw [sp_none (k := k) (n := n) (Or.inl f)]
          simp; omega
        · by_cases g : z < n + 2 ^ k
          · have r := sp_length (k := k) (n := n) (a := a) (z := z)
            rw [sp_none (k := k) (n := n + 2 ^ k) (Or.inr g)]
            simp; omega
          · have l : (spL a z k n).length ≤ max 1 k := by
              by_cases x : a ≤ n
              · rw [sp_all x (by omega)]; simp; omega
              · have := sp_right (k := k) (n := n) (a := a) (z := z) (by omega) (by omega)
                omega
            have r : (spL a z k (n + 2 ^ k)).length ≤ max 1 k := by
              by_cases x : n + 2 ^ k + (2 ^ k - 1) ≤ z
              · rw [sp_all (by omega) x]; simp; omega
              · have := sp_left (k := k) (n := n + 2 ^ k) (a := a) (z := z) (by omega) (by omega)
                omega
            omega

/-- Each of them is a prefix within, all of whose addresses are between; the next wider one's are not. -/
def SpIs (a z K N : Nat) (p : Nat × Nat) : Prop :=
  p.2 ≤ K ∧ p.1 % 2 ^ p.2 = 0 ∧ N ≤ p.1 ∧ p.1 + 2 ^ p.2 ≤ N + 2 ^ K ∧ a ≤ p.1 ∧ p.1 + 2 ^ p.2 ≤ z + 1 ∧ (p.2 = K ∨ (p.2 < K ∧ ¬ (a ≤ p.1 / 2 ^ (p.2 + 1) * 2 ^ (p.2 + 1) ∧ p.1 / 2 ^ (p.2 + 1) * 2 ^ (p.2 + 1) + 2 ^ (p.2 + 1) ≤ z + 1)))

theorem sp_each {a z : Nat} : ∀ {k n : Nat}, n % 2 ^ k = 0 → ∀ p ∈ spL a z k n, SpIs a z k n p
  | 0, n, hn, p, hp => by
    rw [spL] at hp
    split at hp
    · simp at hp
    · obtain rfl : p = (n, 0) := by simpa using hp
      exact ⟨Nat.le_refl _, hn, Nat.le_refl _, Nat.le_refl _, by show a ≤ n; omega, by show n + 2 ^ 0 ≤ z + 1; simp; omega, Or.inl rfl⟩
  | k + 1, n, hn, p, hp => by
    have q := pow_pos2 k
    have e : 2 ^ (k + 1) = 2 ^ k + 2 ^ k := by rw [Nat.pow_succ]; omega
    by_cases c : n + (2 ^ (k + 1) - 1) < a ∨ z < n
    · rw [sp_none c] at hp; simp at hp
    · by_cases d : a ≤ n ∧ n + (2 ^ (k + 1) - 1) ≤ z
      · rw [sp_all d.1 d.2] at hp
        obtain rfl : p = (n, k + 1) := by simpa using hp
        exact ⟨Nat.le_refl _, hn, Nat.le_refl _, Nat.le_refl _, d.1, by show n + 2 ^ (k + 1) ≤ z + 1; omega, Or.inl rfl⟩
      · rw [sp_part c d, List.mem_append] at hp
        have low : n % 2 ^ k = 0 := Nat.mod_eq_zero_of_dvd (Nat.dvd_trans ⟨2, Nat.pow_succ ..⟩ (Nat.dvd_of_mod_eq_zero hn))
        have high : (n + 2 ^ k) % 2 ^ k = 0 := by rw [Nat.add_mod_right]; exact low
        obtain ⟨j, hj⟩ := Nat.dvd_of_mod_eq_zero hn
        rcases hp with hp | hp
        · obtain ⟨h1, h2, h3, h4, h5, h6, h7⟩ := sp_each (k := k) low p hp
          refine ⟨by omega, h2, h3, by omega, h5, h6, Or.inr ⟨by omega, ?_⟩⟩
          rcases h7 with h7 | ⟨_, h7⟩
          · have f : p.1 = n := by rw [h7] at h4; omega
            rw [h7, f, hj, Nat.mul_div_cancel_left _ (by omega), Nat.mul_comm, ← hj]
            omega
          · exact h7
        · obtain ⟨h1, h2, h3, h4, h5, h6, h7⟩ := sp_each (k := k) high p hp
          refine ⟨by omega, h2, by omega, by omega, h5, h6, Or.inr ⟨by omega, ?_⟩⟩
          rcases h7 with h7 | ⟨_, h7⟩
          · have f : p.1 = n + 2 ^ k := by rw [h7] at h4; omega
            have g : (n + 2 ^ k) / 2 ^ (k + 1) = j := by
              rw [hj, Nat.mul_add_div (by omega), Nat.div_eq_of_lt (by omega), Nat.add_zero]
            rw [h7, f, g, Nat.mul_comm, ← hj]
            omega
          · exact h7
end Go.Proofs.YtmhnfgfdggjdhaaGreatDoor

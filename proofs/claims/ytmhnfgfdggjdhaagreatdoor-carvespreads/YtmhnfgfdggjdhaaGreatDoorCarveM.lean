/-
  Plain facts on a prefix's blocks: numbers, spans, spreads. No program in sight.
  Plain facts on the fewest prefixes that have the addresses from one to another one. No program in sight.
-/
import Derived.Test.YtmhnfgfdggjdhaaGreatDoorPfx8
import Derived.Test.YtmhnfgfdggjdhaaGreatDoorMath
namespace Go.Proofs.YtmhnfgfdggjdhaaGreatDoor
open Go.ChangeShapes Go.WideShapes Go.ChangeAt Go.RowKit
set_option linter.unusedVariables false
set_option linter.unusedSimpArgs false

/-- May it be cut into blocks of k bits? -/
def cutB (v : Bool) (n : Nat) (b k : Int) : Bool := okP v n b && decide (b ≤ k) && decide (k ≤ widthA v)

/-- The block of the number i. -/
def blkN (v : Bool) (n : Nat) (k : Int) (i : Nat) : Nat := n + i * 2 ^ behindP v k

/-- The number of the block that has a. -/
def numN (v : Bool) (n : Nat) (k : Int) (a : Nat) : Nat := (a - n) / 2 ^ behindP v k

theorem cutB_parts {v : Bool} {n : Nat} {b k : Int} (h : cutB v n b k = true) : okP v n b = true ∧ 0 ≤ b ∧ b ≤ k ∧ k ≤ widthA v ∧ behindP v b = behindP v k + (k - b).toNat := by
  simp only [cutB, Bool.and_eq_true, decide_eq_true_eq] at h
  obtain ⟨⟨h1, h2⟩, h3⟩ := h
  obtain ⟨_, h0, _⟩ := fitsB_parts (okP_parts h1).1
  exact ⟨h1, h0, h2, h3, by unfold behindP; omega⟩

theorem len_iff {i k : Nat} : Go.bitLen i ≤ k ↔ i < 2 ^ k := by
  constructor
  · intro h
    exact Nat.lt_of_lt_of_le (Go.bitLen_spec i).1 (Nat.pow_le_pow_right (by decide) h)
  · exact bitLen_le_of_lt

theorem blk_small {v : Bool} {n i : Nat} {b k : Int} (h : cutB v n b k = true) (hi : i < 2 ^ (k - b).toNat) : i * 2 ^ behindP v k + 2 ^ behindP v k ≤ 2 ^ behindP v b := by
  obtain ⟨_, _, _, _, e⟩ := cutB_parts h
  rw [e, Nat.pow_add, Nat.mul_comm (2 ^ behindP v k)]
  have := Nat.mul_le_mul_right (2 ^ behindP v k) (show i + 1 ≤ 2 ^ (k - b).toNat from hi)
  rw [Nat.add_mul, Nat.one_mul] at this
  exact this

theorem mod_cut {v : Bool} {n : Nat} {b k : Int} (h : cutB v n b k = true) : n % 2 ^ behindP v k = 0 := by
  obtain ⟨h1, _, h2, _, e⟩ := cutB_parts h
  have hm := (okP_parts h1).2
  rw [e, Nat.pow_add] at hm
  exact Nat.mod_eq_zero_of_dvd (Nat.dvd_trans ⟨_, rfl⟩ (Nat.dvd_of_mod_eq_zero hm))

theorem blk_mod {v : Bool} {n : Nat} {b k : Int} (h : cutB v n b k = true) (i : Nat) : blkN v n k i % 2 ^ behindP v k = 0 := by
  unfold blkN
  rw [Nat.add_mul_mod_self_right]
  exact mod_cut h

theorem blk_last {v : Bool} {n i : Nat} {b k : Int} (h : cutB v n b k = true) (hi : i < 2 ^ (k - b).toNat) : lastN v (blkN v n k i) k ≤ lastN v n b := by
  have s := blk_small h hi
  have p := pow_pos2 (behindP v k)
  unfold lastN blkN
  omega

theorem blk_ok {v : Bool} {n i : Nat} {b k : Int} (h : cutB v n b k = true) (hn : n < 340282366920938463463374607431768211456) (hi : i < 2 ^ (k - b).toNat) : okP v (blkN v n k i) k = true ∧ blkN v n k i < 340282366920938463463374607431768211456 := by
  obtain ⟨h1, h0, h2, h3, e⟩ := cutB_parts h
  have l := blk_last h hi
  obtain ⟨s1, s2⟩ := lastN_small h1 hn
  have p := pow_pos2 (behindP v k)
  have le : blkN v n k i ≤ lastN v (blkN v n k i) k := by unfold lastN; omega
  refine ⟨?_, by omega⟩
  unfold okP fitsB
  rw [okA_le s2 (Nat.le_trans le l), decide_eq_true (show 0 ≤ k by omega), decide_eq_true h3, decide_eq_true (blk_mod h i)]
  rfl

theorem blk_or {v : Bool} {n i : Nat} {b k : Int} (h : cutB v n b k = true) (hi : i < 2 ^ (k - b).toNat) : n ||| (i * 2 ^ behindP v k % 340282366920938463463374607431768211456) = blkN v n k i := by
  obtain ⟨h1, h0, h2, h3, e⟩ := cutB_parts h
  have s := blk_small h hi
  have p := pow_pos2 (behindP v k)
  have q := Nat.pow_le_pow_right (n := 2) (by decide) (behindP_le (v := v) h0)
  rw [show (2 : Nat) ^ 128 = 340282366920938463463374607431768211456 by decide] at q
  rw [Nat.mod_eq_of_lt (by omega)]
  obtain ⟨m, hm⟩ := Nat.dvd_of_mod_eq_zero (okP_parts h1).2
  unfold blkN
  rw [hm, or_add _ _ _ (by omega)]

theorem has_ends {v : Bool} {n : Nat} {b : Int} {a : Nat} (hk : okP v n b = true) (hn : n < 340282366920938463463374607431768211456) : hasB v n b v a = true ↔ (n ≤ a ∧ a ≤ lastN v n b) := by
  rw [between_has hk]
  unfold cmpA
  simp only [if_true, Bool.and_eq_true, decide_eq_true_eq, cmpI_le]
  constructor
  · rintro ⟨⟨_, h1⟩, h2⟩
    exact ⟨Int.ofNat_le.1 h1, Int.ofNat_le.1 h2⟩
  · rintro ⟨h1, h2⟩
    exact ⟨⟨okA_le (lastN_small hk hn).2 h2, Int.ofNat_le.2 h1⟩, Int.ofNat_le.2 h2⟩

theorem num_lt {v : Bool} {n a : Nat} {b k : Int} (h : cutB v n b k = true) (ha : a ≤ lastN v n b) : numN v n k a < 2 ^ (k - b).toNat := by
  obtain ⟨h1, h0, h2, h3, e⟩ := cutB_parts h
  have p := pow_pos2 (behindP v b)
  unfold numN
  rw [Nat.div_lt_iff_lt_mul (pow_pos2 _), ← Nat.pow_add, Nat.add_comm, ← e]
  unfold lastN at ha
  omega

/-- It lies within. -/
theorem blk_within {v : Bool} {n i : Nat} {b k : Int} (h : cutB v n b k = true) (hn : n < 340282366920938463463374607431768211456) (hi : i < 2 ^ (k - b).toNat) : withinB v (blkN v n k i) k v n b = true := by
  obtain ⟨h1, h0, h2, h3, e⟩ := cutB_parts h
  have l := blk_last h hi
  have p := pow_pos2 (behindP v k)
  have le : blkN v n k i ≤ lastN v (blkN v n k i) k := by unfold lastN; omega
  have x : hasB v n b v (blkN v n k i) = true := (has_ends h1 hn).2 ⟨by unfold blkN; omega, Nat.le_trans le l⟩
  unfold withinB
  rw [(blk_ok h hn hi).1, decide_eq_true h2, x]
  rfl

theorem blk_inj {v : Bool} {n i j : Nat} {k : Int} : blkN v n k i = blkN v n k j ↔ i = j := by
  unfold blkN
  have p := pow_pos2 (behindP v k)
  constructor
  · intro h
    exact Nat.eq_of_mul_eq_mul_right p (by omega)
  · rintro rfl
    rfl

theorem blk_lt {v : Bool} {n i j : Nat} {k : Int} : blkN v n k i < blkN v n k j ↔ i < j := by
  unfold blkN
  have p := pow_pos2 (behindP v k)
  constructor
  · intro h
    exact Nat.lt_of_mul_lt_mul_right (a := 2 ^ behindP v k) (by omega)
  · intro h
    have := Nat.mul_lt_mul_of_pos_right h p
    omega

theorem blk_cmp {v : Bool} {n i j : Nat} {k : Int} : cmpI (blkN v n k i : Nat) (blkN v n k j : Nat) = cmpI (i : Nat) (j : Nat) := by
  have a := blk_lt (v := v) (n := n) (i := i) (j := j) (k := k)
  have b := blk_inj (v := v) (n := n) (i := i) (j := j) (k := k)
  unfold cmpI
  simp only [Int.ofNat_lt, Int.ofNat_inj, a, b]

/-- Two blocks overlap only if they are one. -/
theorem blk_over {v : Bool} {n i j : Nat} {b k : Int} (h : cutB v n b k = true) (hn : n < 340282366920938463463374607431768211456) (hi : i < 2 ^ (k - b).toNat) (hj : j < 2 ^ (k - b).toNat) : overB v (blkN v n k i) k v (blkN v n k j) k = decide (i = j) := by
  have oi := (blk_ok h hn hi).1
  have oj := (blk_ok h hn hj).1
  have key (x y : Nat) : hasB v (blkN v n k x) k v (blkN v n k y) = true → x = y := fun q => by
    have e := (has_parts q).2.2
    rw [ofN_self (blk_mod h y)] at e
    exact blk_inj.1 e
  rw [Bool.eq_iff_iff, decide_eq_true_eq]
  constructor
  · intro q
    unfold overB withinB at q
    simp only [Bool.or_eq_true, Bool.and_eq_true] at q
    rcases q with q | q
    · exact (key j i q.2).symm
    · exact key i j q.2
  · rintro rfl
    have x : hasB v (blkN v n k i) k v (blkN v n k i) = true := has_mk (okP_parts oi).1 (ofN_self (blk_mod h i)).symm
    unfold overB withinB
    rw [oi, x, decide_eq_true (Int.le_refl k)]
    rfl

/-- What p has is in the block of its number. -/
theorem blk_has {v : Bool} {n a : Nat} {b k : Int} (h : cutB v n b k = true) (hn : n < 340282366920938463463374607431768211456) (ha : hasB v n b v a = true) : hasB v (blkN v n k (numN v n k a)) k v a = true := by
  obtain ⟨h1, h0, h2, h3, e⟩ := cutB_parts h
  obtain ⟨l1, l2⟩ := (has_ends h1 hn).1 ha
  have i := num_lt h l2
  refine (has_ends (blk_ok h hn i).1 (blk_ok h hn i).2).2 ?_
  have p := pow_pos2 (behindP v k)
  have m := Nat.div_add_mod (a - n) (2 ^ behindP v k)
  have r := Nat.mod_lt (a - n) p
  unfold lastN blkN numN
  rw [Nat.mul_comm] at m
  omega

theorem blk_num {v : Bool} {n i : Nat} {k : Int} : numN v n k (blkN v n k i) = i := by
  unfold numN blkN
  rw [Nat.add_sub_cancel_left, Nat.mul_div_cancel _ (pow_pos2 _)]

theorem num_le {v : Bool} {n a i : Nat} {k : Int} (h : n ≤ a) : i ≤ numN v n k a ↔ blkN v n k i ≤ a := by
  unfold numN blkN
  rw [Nat.le_div_iff_mul_le (pow_pos2 _)]
  omega

theorem num_ge {v : Bool} {n a i : Nat} {k : Int} (h : n ≤ a) : numN v n k a ≤ i ↔ a ≤ lastN v (blkN v n k i) k := by
  have p := pow_pos2 (behindP v k)
  unfold numN blkN lastN
  rw [← Nat.lt_succ_iff, Nat.div_lt_iff_lt_mul p, Nat.succ_mul]
  omega

/-- Two of one family overlap if each begins no later than the other ends. -/
theorem over_ends {v : Bool} {n m : Nat} {b c : Int} (hp : okP v n b = true) (hq : okP v m c = true) (hn : n < 340282366920938463463374607431768211456) (hm : m < 340282366920938463463374607431768211456) : overB v n b v m c = true ↔ (n ≤ lastN v m c ∧ m ≤ lastN v n b) := by
  have sym (v : Bool) (n m : Nat) (b c : Int) (hp : okP v n b = true) (hq : okP v m c = true) (hn : n < 340282366920938463463374607431768211456) (hm : m < 340282366920938463463374607431768211456) : withinB v n b v m c = true → (n ≤ lastN v m c ∧ m ≤ lastN v n b) := fun h => by
    obtain ⟨h1, h2⟩ := (has_ends hq hm).1 (within_parts h).2.2
    have p := pow_pos2 (behindP v b)
    exact ⟨h2, by unfold lastN; omega⟩
  constructor
  · intro h
    unfold overB at h
    rw [Bool.or_eq_true] at h
    rcases h with h | h
    · exact sym v n m b c hp hq hn hm h
    · exact (sym v m n c b hq hp hm hn h).symm
  · rintro ⟨h1, h2⟩
    by_cases e : m ≤ n
    · have x : hasB v m c v n = true := (has_ends hq hm).2 ⟨e, h1⟩
      by_cases d : c ≤ b
      · unfold overB withinB; rw [hp, x, decide_eq_true d]; rfl
      · have y : hasB v n b v m = true := by
          refine has_mk (fits_less (okP_parts hq).1 (fitsB_parts (okP_parts hq).1).1 (fitsB_parts (okP_parts hp).1).2.1 (by omega)) ?_
          have z := (has_parts x).2.2
          rw [z, ofN_ofN (show b ≤ c by omega), ofN_self (okP_parts hp).2]
        unfold overB withinB; rw [hq, y, decide_eq_true (show b ≤ c by omega)]; simp
    · have x : hasB v n b v m = true := (has_ends hp hn).2 ⟨by omega, h2⟩
      by_cases d : b ≤ c
      · unfold overB withinB; rw [hq, x, decide_eq_true d]; simp
      · have y : hasB v m c v n = true := by
          refine has_mk (fits_less (okP_parts hp).1 (fitsB_parts (okP_parts hp).1).1 (fitsB_parts (okP_parts hq).1).2.1 (by omega)) ?_
          have z := (has_parts x).2.2
          rw [z, ofN_ofN (show c ≤ b by omega), ofN_self (okP_parts hq).2]
        unfold overB withinB; rw [hp, y, decide_eq_true (show c ≤ b by omega)]; rfl

/-- A span: which blocks overlap q. -/
theorem span_is {v : Bool} {n m i : Nat} {b c k : Int} (h : cutB v n b k = true) (hq : okP v m c = true) (hn : n < 340282366920938463463374607431768211456) (hm : m < 340282366920938463463374607431768211456) (hi : i < 2 ^ (k - b).toNat) {s t : Nat} (hs : n ≤ s) (hst : s ≤ t) (hb : ∀ x, n ≤ x → x ≤ lastN v n b → ((s ≤ x ∧ x ≤ t) ↔ (m ≤ x ∧ x ≤ lastN v m c))) (ht : t ≤ lastN v n b) : overB v (blkN v n k i) k v m c = (decide (numN v n k s ≤ i) && decide (i ≤ numN v n k t)) := by
  have o := blk_ok h hn hi
  have l := blk_last h hi
  have p := pow_pos2 (behindP v k)
  have g : n ≤ blkN v n k i := by unfold blkN; omega
  have g2 : blkN v n k i ≤ lastN v (blkN v n k i) k := by unfold lastN; omega
  rw [Bool.eq_iff_iff, over_ends o.1 hq o.2 hm, Bool.and_eq_true, decide_eq_true_eq, decide_eq_true_eq, num_ge hs, num_le (Nat.le_trans hs hst)]
  have q := pow_pos2 (behindP v c)
  have ml : m ≤ lastN v m c := by unfold lastN; omega
  have b1 := hb s hs (Nat.le_trans hst ht)
  have b2 := hb t (Nat.le_trans hs hst) ht
  have c1 := b1.1 ⟨Nat.le_refl _, hst⟩
  have c2 := b2.1 ⟨hst, Nat.le_refl _⟩
  constructor
  · rintro ⟨h1, h2⟩
    constructor
    · by_cases x : m ≤ blkN v n k i
      · have := (hb (blkN v n k i) g (by omega)).2 ⟨x, h1⟩
        omega
      · have := (hb m (by omega) (by omega)).2 ⟨Nat.le_refl _, ml⟩
        omega
    · by_cases x : m ≤ blkN v n k i
      · have := (hb (blkN v n k i) g (by omega)).2 ⟨x, h1⟩
        omega
      · have := (hb m (by omega) (by omega)).2 ⟨Nat.le_refl _, ml⟩
        omega
  · rintro ⟨h1, h2⟩
    omega
end Go.Proofs.YtmhnfgfdggjdhaaGreatDoor

namespace Go.Proofs.YtmhnfgfdggjdhaaGreatDoor
set_option linter.unusedVariables false
set_option linter.unusedSimpArgs false

/-- The widest prefixes (a first address, how many bits stand behind) within the one from n on with k bits behind that have no address but those from a to z. -/
def spL (a z : Nat) : Nat → Nat → List (Nat × Nat)
  | 0, n => if n < a ∨ z < n then [] else [(n, 0)]
  | k + 1, n => if n + (2 ^ (k + 1) - 1) < a ∨ z < n then [] else if a ≤ n ∧ n + (2 ^ (k + 1) - 1) ≤ z then [(n, k + 1)] else spL a z k n ++ spL a z k (n + 2 ^ k)

/-- One behind the other from s up to t. -/
def Tiles : Nat → Nat → List (Nat × Nat) → Prop
  | s, t, [] => s = t
  | s, t, p :: r => p.1 = s ∧ Tiles (p.1 + 2 ^ p.2) t r

theorem Tiles.append {m t : Nat} {r : List (Nat × Nat)} (h2 : Tiles m t r) : ∀ {s : Nat} {l : List (Nat × Nat)}, Tiles s m l → Tiles s t (l ++ r)
  | s, [], h => by
    obtain rfl : s = m := h
    exact h2
  | s, p :: l, h => ⟨h.1, Tiles.append h2 h.2⟩

theorem sp_none {a z : Nat} : ∀ {k n : Nat}, (n + (2 ^ k - 1) < a ∨ z < n) → spL a z k n = []
  | 0, n, h => by
    rw [spL, if_pos]
    simpa using h
  | k + 1, n, h => by rw [spL, if_pos h]

theorem sp_all {a z : Nat} : ∀ {k n : Nat}, a ≤ n → n + (2 ^ k - 1) ≤ z → spL a z k n = [(n, k)]
  | 0, n, h1, h2 => by
    rw [spL, if_neg]
    simp at h2
    omega
  | k + 1, n, h1, h2 => by
    have p := pow_pos2 (k + 1)
    rw [spL, if_neg (by omega), if_pos ⟨h1, h2⟩]

theorem sp_part {a z k n : Nat} (h1 : ¬ (n + (2 ^ (k + 1) - 1) < a ∨ z < n)) (h2 : ¬ (a ≤ n ∧ n + (2 ^ (k + 1) - 1) ≤ z)) : spL a z (k + 1) n = spL a z k n ++ spL a z k (n + 2 ^ k) := by
  rw [spL, if_neg h1, if_neg h2]

theorem sp_tiles {a z : Nat} : ∀ {k n : Nat}, ¬ (n + (2 ^ k - 1) < a ∨ z < n) → a ≤ z → Tiles (max a n) (min (z + 1) (n + 2 ^ k)) (spL a z k n)
  | 0, n, h, haz => by
    simp at h
    rw [sp_all (by omega) (by simp; omega)]
    exact ⟨by show n = max a n; omega, by show n + 2 ^ 0 = min (z + 1) (n + 2 ^ 0); simp; omega⟩
  | k + 1, n, h, haz => by
    have p := pow_pos2 k
    have e : 2 ^ (k + 1) = 2 ^ k + 2 ^ k := by rw [Nat.pow_succ]; omega
    by_cases h2 : a ≤ n ∧ n + (2 ^ (k + 1) - 1) ≤ z
    · rw [sp_all h2.1 h2.2]
      exact ⟨by show n = max a n; omega, by show n + 2 ^ (k + 1) = min (z + 1) (n + 2 ^ (k + 1)); omega⟩
    · rw [sp_part h h2]
      by_cases c1 : n + (2 ^ k - 1) < a
      · rw [sp_none (k := k) (n := n) (Or.inl c1), List.nil_append]
        have r := sp_tiles (k := k) (n := n + 2 ^ k) (a := a) (z := z) (by omega) haz
        rw [show max a n = max a (n + 2 ^ k) by omega, show min (z + 1) (n + 2 ^ (k + 1)) = min (z + 1) (n + 2 ^ k + 2 ^ k) by omega]
        exact r
      · have l := sp_tiles (k := k) (n := n) (a := a) (z := z) (by omega) haz
        by_cases c2 : z < n + 2 ^ k
        · rw [sp_none (k := k) (n := n + 2 ^ k) (Or.inr c2), List.append_nil]
          rw [show min (z + 1) (n + 2 ^ (k + 1)) = min (z + 1) (n + 2 ^ k) by omega]
          exact l
        · have r := sp_tiles (k := k) (n := n + 2 ^ k) (a := a) (z := z) (by omega) haz
          rw [show min (z + 1) (n + 2 ^ k) = max a (n + 2 ^ k) by omega] at l
          rw [show min (z + 1) (n + 2 ^ (k + 1)) = min (z + 1) (n + 2 ^ k + 2 ^ k) by omega]
          exact Tiles.append r l

/-- Those that begin at its first address, but not to its last one, are k at most. -/
theorem sp_left {a z : Nat} : ∀ {k n : Nat}, a ≤ n → z < n + (2 ^ k - 1) → (spL a z k n).length ≤ k
  | 0, n, h1, h2 => by
    rw [sp_none (Or.inr (by simpa using h2))]
    simp
  | k + 1, n, h1, h2 => by
    have p := pow_pos2 k
    have e : 2 ^ (k + 1) = 2 ^ k + 2 ^ k := by rw [Nat.pow_succ]; omega
    by_cases c : n + (2 ^ (k + 1) - 1) < a ∨ z < n
    · rw [sp_none c]; simp
    · rw [sp_part c (by omega), List.length_append]
      by_cases d : z < n + (2 ^ k - 1)
      · have l := sp_left (k := k) (n := n) h1 d
        rw [sp_none (k := k) (n := n + 2 ^ k) (Or.inr (by omega))]
        simp; omega
      · rw [sp_all (k := k) (n := n) h1 (by omega)]
        by_cases f : z < n + 2 ^ k
        · rw [sp_none (k := k) (n := n + 2 ^ k) (Or.inr f)]; simp
        · have r := sp_left (k := k) (n := n + 2 ^ k) (a := a) (z := z) (by omega) (by omega)
          simp; omega

theorem sp_right {a z : Nat} : ∀ {k n : Nat}, n < a → n + (2 ^ k - 1) ≤ z → (spL a z k n).length ≤ k
  | 0, n, h1, h2 => by
    rw [sp_none (Or.inl (by simpa using h1))]
    simp
  | k + 1, n, h1, h2 => by
    have p := pow_pos2 k
    have e : 2 ^ (k + 1) = 2 ^ k + 2 ^ k := by rw [Nat.pow_succ]; omega
    by_cases c : n + (2 ^ (k + 1) - 1) < a ∨ z < n
    · rw [sp_none c]; simp
    · rw [sp_part c (by omega), List.length_append]
      by_cases d : n + 2 ^ k < a
      · have r := sp_right (k := k) (n := n + 2 ^ k) (a := a) (z := z) d (by omega)
        rw [sp_none (k := k) (n := n) (Or.inl (by omega))]
        simp; omega
      · rw [sp_all (k := k) (n := n + 2 ^ k) (by omega) (by omega)]
        have r := sp_right (k := k) (n := n) (a := a) (z := z) h1 (by omega)
        simp; omega

/-- Twice as many as there are bits behind, at most. -/
theorem sp_length {a z : Nat} : ∀ {k n : Nat}, (spL a z k n).length ≤ max 1 (2 * k)
  | 0, n => by
    rw [spL]; split <;> simp
  | k + 1, n => by
    have p := pow_pos2 k
    have e : 2 ^ (k + 1) = 2 ^ k + 2 ^ k := by rw [Nat.pow_succ]; omega
    by_cases c : n + (2 ^ (k + 1) - 1) < a ∨ z < n
    · rw [sp_none c]; simp
    · by_cases d : a ≤ n ∧ n + (2 ^ (k + 1) - 1) ≤ z
      · rw [sp_all d.1 d.2]; simp; omega
      · rw [sp_part c d, List.length_append]
        by_cases f : n + (2 ^ k - 1) < a
        · have r := sp_length (k := k) (n := n + 2 ^ k) (a := a) (z := z)
          rw [sp_none (k := k) (n := n) (Or.inl f)]
          simp; omega
        · by_cases g : z < n + 2 ^ k
          · have r := sp_length (k := k) (n := n) (a := a) (z := z)
            rw [sp_none (k := k) (n := n + 2 ^ k) (Or.inr g)]
            simp; omega
          · have l : (spL a z k n).length ≤ max 1 k := by
              by_cases x : a ≤ n
              · rw [sp_all x (by omega)]; simp; omega
              · have := sp_right (k := k) (n := n) (a := a) (z := z) (by omega) (by omega)
                omega
            have r : (spL a z k (n + 2 ^ k)).length ≤ max 1 k := by
              by_cases x : n + 2 ^ k + (2 ^ k - 1) ≤ z
              · rw [sp_all (by omega) x]; simp; omega
              · have := sp_left (k := k) (n := n + 2 ^ k) (a := a) (z := z) (by omega) (by omega)
                omega
            omega

/-- Each of them is a prefix within, all of whose addresses are between; the next wider one's are not. -/
def SpIs (a z K N : Nat) (p : Nat × Nat) : Prop :=
  p.2 ≤ K ∧ p.1 % 2 ^ p.2 = 0 ∧ N ≤ p.1 ∧ p.1 + 2 ^ p.2 ≤ N + 2 ^ K ∧ a ≤ p.1 ∧ p.1 + 2 ^ p.2 ≤ z + 1 ∧ (p.2 = K ∨ (p.2 < K ∧ ¬ (a ≤ p.1 / 2 ^ (p.2 + 1) * 2 ^ (p.2 + 1) ∧ p.1 / 2 ^ (p.2 + 1) * 2 ^ (p.2 + 1) + 2 ^ (p.2 + 1) ≤ z + 1)))

theorem sp_each {a z : Nat} : ∀ {k n : Nat}, n % 2 ^ k = 0 → ∀ p ∈ spL a z k n, SpIs a z k n p
  | 0, n, hn, p, hp => by
    rw [spL] at hp
    split at hp
    · simp at hp
    · obtain rfl : p = (n, 0) := by simpa using hp
      exact ⟨Nat.le_refl _, hn, Nat.le_refl _, Nat.le_refl _, by show a ≤ n; omega, by show n + 2 ^ 0 ≤ z + 1; simp; omega, Or.inl rfl⟩
  | k + 1, n, hn, p, hp => by
    have q := pow_pos2 k
    have e : 2 ^ (k + 1) = 2 ^ k + 2 ^ k := by rw [Nat.pow_succ]; omega
    by_cases c : n + (2 ^ (k + 1) - 1) < a ∨ z < n
    · rw [sp_none c] at hp; simp at hp
    · by_cases d : a ≤ n ∧ n + (2 ^ (k + 1) - 1) ≤ z
      · rw [sp_all d.1 d.2] at hp
        obtain rfl : p = (n, k + 1) := by simpa using hp
        exact ⟨Nat.le_refl _, hn, Nat.le_refl _, Nat.le_refl _, d.1, by show n + 2 ^ (k + 1) ≤ z + 1; omega, Or.inl rfl⟩
      · rw [sp_part c d, List.mem_append] at hp
        have low : n % 2 ^ k = 0 := Nat.mod_eq_zero_of_dvd (Nat.dvd_trans ⟨2, Nat.pow_succ ..⟩ (Nat.dvd_of_mod_eq_zero hn))
        have high : (n + 2 ^ k) % 2 ^ k = 0 := by rw [Nat.add_mod_right]; exact low
        obtain ⟨j, hj⟩ := Nat.dvd_of_mod_eq_zero hn
        rcases hp with hp | hp
        · obtain ⟨h1, h2, h3, h4, h5, h6, h7⟩ := sp_each (k := k) low p hp
          refine ⟨by omega, h2, h3, by omega, h5, h6, Or.inr ⟨by omega, ?_⟩⟩
          rcases h7 with h7 | ⟨_, h7⟩
          · have f : p.1 = n := by rw [h7] at h4; omega
            rw [h7, f, hj, Nat.mul_div_cancel_left _ (by omega), Nat.mul_comm, ← hj]
            omega
          · exact h7
        · obtain ⟨h1, h2, h3, h4, h5, h6, h7⟩ := sp_each (k := k) high p hp
          refine ⟨by omega, h2, by omega, by omega, h5, h6, Or.inr ⟨by omega, ?_⟩⟩
          rcases h7 with h7 | ⟨_, h7⟩
          · have f : p.1 = n + 2 ^ k := by rw [h7] at h4; omega
            have g : (n + 2 ^ k) / 2 ^ (k + 1) = j := by
              rw [hj, Nat.mul_add_div (by omega), Nat.div_eq_of_lt (by omega), Nat.add_zero]
            rw [h7, f, g, Nat.mul_comm, ← hj]
            omega
          · exact h7
end Go.Proofs.YtmhnfgfdggjdhaaGreatDoor

/-
  Texts BmM of the proof.
-/
import Derived.Laws.Bits64b
import Derived.WalkKit

namespace Go.Proofs.YtgbpnekinbdadaaGreatDoor
open Go.RowKit
set_option linter.unusedVariables false
set_option linter.unusedSimpArgs false

/-- How many numbers below n have p. -/
def cnt (p : Nat → Bool) : Nat → Nat
 | 0 => 0
 | n + 1 => cnt p n + (if p n then 1 else 0)

theorem cnt_le (p : Nat → Bool) : ∀ n, cnt p n ≤ n
 | 0 => Nat.le_refl _
 | n + 1 => by have := cnt_le p n; simp only [cnt]; split <;> omega

theorem cnt_congr {p q : Nat → Bool} : ∀ {n : Nat}, (∀ k, k < n → p k = q k) → cnt p n = cnt q n
 | 0, _ => rfl
 | n + 1, h => by simp only [cnt]; rw [cnt_congr (fun k hk => h k (by omega)), h n (by omega)]

theorem cnt_add (p : Nat → Bool) (a : Nat) : ∀ b, cnt p (a + b) = cnt p a + cnt (fun j => p (a + j)) b
 | 0 => rfl
 | b + 1 => by rw [← Nat.add_assoc]; simp only [cnt]; rw [cnt_add p a b]; omega

/-- The ones of a word. -/
def pc (x : Nat) : Nat := cnt (fun j => x.testBit j) 64

/-- Digits, the lowest first, to the base B. -/
def dig (B : Nat) : List Nat → Nat
 | [] => 0
 | d :: r => d + B * dig B r

def two : Nat → Nat → List Nat
 | 0, _ => []
 | n + 1, x => x % 2 :: two n (x / 2)

def evens : List Nat → List Nat
 | [] => []
 | [d] => [d]
 | d :: _ :: r => d :: evens r

def pairs : List Nat → List Nat
 | [] => []
 | [d] => [d]
 | a :: b :: r => (a + b) :: pairs r

/-- A mask: k times s ones and s noughts. -/
def msk (s : Nat) : Nat → Nat
 | 0 => 0
 | k + 1 => (2 ^ s - 1) + 2 ^ (2 * s) * msk s k

def sumL : List Nat → Nat
 | [] => 0
 | d :: r => d + sumL r

theorem two_len : ∀ n x, (two n x).length = n
 | 0, _ => rfl
 | n + 1, x => by simp [two, two_len n]

theorem two_dig : ∀ n x, x < 2 ^ n → dig 2 (two n x) = x
 | 0, x, h => by simp at h; simp [two, dig, h]
 | n + 1, x, h => by
  simp only [two, dig]
  rw [two_dig n (x / 2) (by rw [Nat.pow_succ] at h; omega)]
  omega

theorem two_le : ∀ n x d, d ∈ two n x → d ≤ 1
 | 0, x, d, h => by simp [two] at h
 | n + 1, x, d, h => by
  simp only [two, List.mem_cons] at h
  rcases h with rfl | h
  ·omega
  ·exact two_le n _ d h

theorem two_sum : ∀ n x, sumL (two n x) = cnt (fun j => x.testBit j) n
 | 0, _ => rfl
 | n + 1, x => by
  rw [Nat.add_comm n 1, cnt_add]
  simp only [cnt, two, sumL]
  rw [show 1 + n = n + 1 by omega]
  simp only [two, sumL]
  rw [two_sum n (x / 2)]
  have e : (fun j => x.testBit (1 + j)) = fun j => (x / 2).testBit j := by
   funext j; rw [Nat.add_comm, Nat.testBit_succ]
  rw [e]
  simp only [Nat.testBit_zero]
  have := Nat.mod_two_eq_zero_or_one x
  rcases this with h | h <;> simp [h]

theorem and_split (n a b c d : Nat) (ha : a < 2 ^ n) (hc : c < 2 ^ n) : (a + 2 ^ n * b) &&& (c + 2 ^ n * d) = (a &&& c) + 2 ^ n * (b &&& d) := by
 have o : a &&& c < 2 ^ n := Nat.lt_of_le_of_lt Nat.and_le_left ha
 apply Nat.eq_of_testBit_eq
 intro i
 rw [Nat.add_comm a, Nat.add_comm c, Nat.add_comm (a &&& c), Nat.testBit_and, Nat.testBit_two_pow_mul_add _ ha, Nat.testBit_two_pow_mul_add _ hc, Nat.testBit_two_pow_mul_add _ o]
 split <;> simp [Nat.testBit_and]

theorem dig_evens (s : Nat) : ∀ (k : Nat) (ds : List Nat), (∀ d ∈ ds, d < 2 ^ s) → ds.length ≤ 2 * k → dig (2 ^ s) ds &&& msk s k = dig (2 ^ (2 * s)) (evens ds)
 | 0, [], _, _ => by simp [dig, msk, evens]
 | 0, _ :: _, _, h => by simp at h
 | k + 1, [], _, _ => by simp [dig, evens]
 | k + 1, [d], h, _ => by
  have h0 := h d (by simp)
  have p : 2 ^ s ≤ 2 ^ (2 * s) := Nat.pow_le_pow_right (by decide) (by omega)
  have q : 0 < 2 ^ s := Nat.pow_pos (by decide)
  have := and_split (2 * s) d 0 (2 ^ s - 1) (msk s k) (by omega) (by omega)
  simp only [Nat.mul_zero, Nat.add_zero, Nat.zero_and] at this
  simp only [dig, msk, evens, Nat.mul_zero, Nat.add_zero]
  rw [this, Nat.and_two_pow_sub_one_eq_mod, Nat.mod_eq_of_lt h0]
 | k + 1, d :: e :: r, h, hl => by
  have h0 := h d (by simp)
  have h1 := h e (by simp)
  have p : 2 ^ s ≤ 2 ^ (2 * s) := Nat.pow_le_pow_right (by decide) (by omega)
  have q : 0 < 2 ^ s := Nat.pow_pos (by decide)
  have pp : 2 ^ (2 * s) = 2 ^ s * 2 ^ s := by rw [Nat.two_mul, Nat.pow_add]
  have lt : d + 2 ^ s * e < 2 ^ (2 * s) := by
   rw [pp]
   calc d + 2 ^ s * e < 2 ^ s + 2 ^ s * e := by omega
    _ = 2 ^ s * (e + 1) := by rw [Nat.mul_add, Nat.mul_one, Nat.add_comm]
    _ ≤ 2 ^ s * 2 ^ s := Nat.mul_le_mul_left _ h1
  have e1 : dig (2 ^ s) (d :: e :: r) = (d + 2 ^ s * e) + 2 ^ (2 * s) * dig (2 ^ s) r := by
   simp only [dig]; rw [pp, Nat.mul_add, Nat.mul_assoc, Nat.add_assoc]
  rw [e1, show msk s (k + 1) = (2 ^ s - 1) + 2 ^ (2 * s) * msk s k from rfl, and_split (2 * s) _ _ _ _ lt (by omega)]
  rw [dig_evens s k r (fun x hx => h x (by simp [hx])) (by simp at hl; omega)]
  simp only [evens, dig]
  rw [Nat.and_two_pow_sub_one_eq_mod, Nat.add_mul_mod_self_left, Nat.mod_eq_of_lt h0]

theorem dig_drop (B : Nat) (hB : 0 < B) : ∀ (k : Nat) (ds : List Nat), (∀ d ∈ ds, d < B) → dig B ds / B ^ k = dig B (ds.drop k)
 | 0, ds, _ => by simp
 | k + 1, [], _ => by simp [dig]
 | k + 1, d :: r, h => by
  have h0 := h d (by simp)
  simp only [dig, List.drop_succ_cons]
  rw [Nat.pow_succ', ← Nat.div_div_eq_div_mul, Nat.add_mul_div_left _ _ hB, Nat.div_eq_of_lt h0, Nat.zero_add]
  exact dig_drop B hB k r (fun x hx => h x (by simp [hx]))

theorem pairs_dig (B : Nat) : ∀ ds : List Nat, dig B (evens (ds.drop 1)) + dig B (evens ds) = dig B (pairs ds)
 | [] => rfl
 | [d] => by simp [dig, evens, pairs]
 | a :: b :: r => by
  have ih := pairs_dig B r
  cases r with
  | nil => simp [dig, evens, pairs]; omega
  | cons c r =>
   simp only [List.drop_succ_cons, List.drop_zero, evens, pairs, dig] at ih ⊢
   rw [← ih]
   simp only [Nat.mul_add]
   omega

theorem pairs_sum : ∀ ds : List Nat, sumL (pairs ds) = sumL ds
 | [] => rfl
 | [d] => rfl
 | a :: b :: r => by simp only [pairs, sumL]; rw [pairs_sum r]; omega

theorem pairs_len : ∀ ds : List Nat, (pairs ds).length = (ds.length + 1) / 2
 | [] => rfl
 | [d] => by simp [pairs]
 | a :: b :: r => by simp only [pairs, List.length_cons]; rw [pairs_len r]; omega

theorem pairs_le {m : Nat} : ∀ ds : List Nat, (∀ d ∈ ds, d ≤ m) → ∀ d ∈ pairs ds, d ≤ 2 * m
 | [], _, d, h => by simp [pairs] at h
 | [x], hx, d, h => by simp [pairs] at h; have := hx x (by simp); omega
 | a :: b :: r, hx, d, h => by
  simp only [pairs, List.mem_cons] at h
  rcases h with rfl | h
  ·have := hx a (by simp); have := hx b (by simp); omega
  ·exact pairs_le r (fun x hx' => hx x (by simp [hx'])) d h

theorem step_dig (s k : Nat) (ds : List Nat) (h : ∀ d ∈ ds, d < 2 ^ s) (hl : ds.length ≤ 2 * k) :
  (dig (2 ^ s) ds / 2 ^ s &&& msk s k) + (dig (2 ^ s) ds &&& msk s k) = dig (2 ^ (2 * s)) (pairs ds) := by
 have e := dig_drop (2 ^ s) (Nat.pow_pos (by decide)) 1 ds h
 rw [Nat.pow_one] at e
 rw [e, dig_evens s k _ (fun d hd => h d (List.mem_of_mem_drop hd)) (by simp; omega), dig_evens s k ds h hl, pairs_dig]

/-- Neighbours are added. -/
def neigh : List Nat → List Nat
 | [] => []
 | [d] => [d]
 | a :: b :: r => (a + b) :: neigh (b :: r)

theorem neigh_dig (B : Nat) : ∀ ds : List Nat, dig B (ds.drop 1) + dig B ds = dig B (neigh ds)
 | [] => rfl
 | [d] => by simp [dig, neigh]
 | a :: b :: r => by
  have ih := neigh_dig B (b :: r)
  simp only [List.drop_succ_cons, List.drop_zero, neigh, dig] at ih ⊢
  rw [← ih]
  simp only [Nat.mul_add]
  omega

theorem neigh_len : ∀ ds : List Nat, (neigh ds).length = ds.length
 | [] => rfl
 | [d] => rfl
 | a :: b :: r => by simp only [neigh, List.length_cons]; rw [neigh_len (b :: r)]; rfl

theorem neigh_le {m : Nat} : ∀ ds : List Nat, (∀ d ∈ ds, d ≤ m) → ∀ d ∈ neigh ds, d ≤ 2 * m
 | [], _, d, h => by simp [neigh] at h
 | [x], hx, d, h => by simp [neigh] at h; have := hx x (by simp); omega
 | a :: b :: r, hx, d, h => by
  simp only [neigh, List.mem_cons] at h
  rcases h with rfl | h
  ·have := hx a (by simp); have := hx b (by simp); omega
  ·exact neigh_le (b :: r) (fun x hx' => hx x (by simp at hx'; simp [hx'])) d h

theorem neigh_evens : ∀ ds : List Nat, ds.length % 2 = 0 → evens (neigh ds) = pairs ds
 | [], _ => rfl
 | [d], h => by simp at h
 | [a, b], _ => rfl
 | [a, b, c], h => by simp at h
 | a :: b :: c :: e :: r, h => by
  have ih := neigh_evens (c :: e :: r) (by simp at h ⊢; omega)
  simp only [neigh, evens, pairs] at ih ⊢
  rw [ih]

/-- The ones of a word, as math/bits reckons them. -/
def oc1 (x : Nat) : Nat := (x / 2 &&& 6148914691236517205) + (x &&& 6148914691236517205)

def oc2 (x : Nat) : Nat := (x / 4 &&& 3689348814741910323) + (x &&& 3689348814741910323)

def oc3 (x : Nat) : Nat := (x / 16 + x) &&& 1085102592571150095

theorem msk1 : msk 1 32 = 6148914691236517205 := by decide

theorem msk2 : msk 2 16 = 3689348814741910323 := by decide

theorem msk4 : msk 4 8 = 1085102592571150095 := by decide

theorem dig_lt {s : Nat} (k : Nat) : ∀ (ds : List Nat), (∀ d ∈ ds, d < 2 ^ s) → ds.length ≤ k → dig (2 ^ s) ds < 2 ^ (s * k) := by
 induction k with
 | zero => intro ds h hl; cases ds with
  | nil => simp [dig]
  | cons _ _ => simp at hl
 | succ k ih =>
  intro ds h hl
  cases ds with
  | nil => simp only [dig]; exact Nat.pow_pos (by decide)
  | cons d r =>
   have h0 := h d (by simp)
   have h1 := ih r (fun x hx => h x (by simp [hx])) (by simp at hl; omega)
   simp only [dig]
   rw [show s * (k + 1) = s + s * k by rw [Nat.mul_add]; omega, Nat.pow_add]
   calc d + 2 ^ s * dig (2 ^ s) r < 2 ^ s + 2 ^ s * dig (2 ^ s) r := by omega
    _ = 2 ^ s * (dig (2 ^ s) r + 1) := by rw [Nat.mul_add, Nat.mul_one, Nat.add_comm]
    _ ≤ 2 ^ s * 2 ^ (s * k) := Nat.mul_le_mul_left _ h1

theorem oc1_is {x : Nat} {D : List Nat} (b0 : ∀ d ∈ D, d ≤ 1) (l0 : D.length = 64) (d0 : dig (2 ^ 1) D = x) : oc1 x = dig (2 ^ 2) (pairs D) := by
 have := step_dig 1 32 D (fun d hd => Nat.lt_of_le_of_lt (b0 d hd) (by decide)) (by omega)
 rw [msk1, d0] at this
 exact this

theorem oc2_is {x : Nat} {D : List Nat} (b0 : ∀ d ∈ D, d ≤ 2) (l0 : D.length = 32) (d0 : x = dig (2 ^ 2) D) : oc2 x = dig (2 ^ 4) (pairs D) := by
 have := step_dig 2 16 D (fun d hd => Nat.lt_of_le_of_lt (b0 d hd) (by decide)) (by omega)
 rw [msk2, ← d0] at this
 exact this

theorem oc3_is {x : Nat} {G : List Nat} (b0 : ∀ d ∈ G, d ≤ 4) (l0 : G.length = 16) (d0 : x = dig (2 ^ 4) G) : oc3 x = dig (2 ^ 8) (pairs G) ∧ x / 16 + x < 18446744073709551616 := by
 have d2 := dig_drop (2 ^ 4) (by decide) 1 G (fun d hd => Nat.lt_of_le_of_lt (b0 d hd) (by decide))
 rw [Nat.pow_one] at d2
 have n2 : x / 16 + x = dig (2 ^ 4) (neigh G) := by
  rw [d0, ← neigh_dig, ← d2]
 have nb := neigh_le G b0
 have nl := neigh_len G
 have := dig_evens 4 8 (neigh G) (fun d hd => Nat.lt_of_le_of_lt (nb d hd) (by decide)) (by omega)
 rw [msk4, neigh_evens G (by omega), ← n2] at this
 refine ⟨this, ?_⟩
 rw [n2]
 exact Nat.lt_of_lt_of_le (dig_lt (s := 4) 16 (neigh G) (fun d hd => Nat.lt_of_le_of_lt (nb d hd) (by decide)) (by omega)) (by decide)

/-- What the first three steps leave: eight digits, each at most 8, together the ones. -/
theorem oc_eight {x : Nat} (hx : x < 18446744073709551616) : ∃ a b c d e f g h : Nat, oc3 (oc2 (oc1 x)) = dig 256 [a, b, c, d, e, f, g, h] ∧ a + b + c + d + e + f + g + h = pc x ∧
  a ≤ 8 ∧ b ≤ 8 ∧ c ≤ 8 ∧ d ≤ 8 ∧ e ≤ 8 ∧ f ≤ 8 ∧ g ≤ 8 ∧ h ≤ 8 ∧ oc1 x < 18446744073709551616 ∧ oc2 (oc1 x) < 18446744073709551616 ∧ oc2 (oc1 x) / 16 + oc2 (oc1 x) < 18446744073709551616 := by
 have b0 := two_le 64 x
 have l0 := two_len 64 x
 have d0 : dig (2 ^ 1) (two 64 x) = x := two_dig 64 x hx
 have s0 := two_sum 64 x
 generalize two 64 x = D at *
 have e1 := oc1_is b0 l0 d0
 have b1 := pairs_le D b0
 have l1 : (pairs D).length = 32 := by rw [pairs_len, l0]
 have s1 := pairs_sum D
 generalize pairs D = E at *
 have e2 := oc2_is b1 l1 e1
 have b2 := pairs_le E b1
 have l2 : (pairs E).length = 16 := by rw [pairs_len, l1]
 have s2 := pairs_sum E
 have p1 : oc1 x < 18446744073709551616 := by
  rw [e1]
  exact Nat.lt_of_lt_of_le (dig_lt (s := 2) 32 E (fun d hd => Nat.lt_of_le_of_lt (b1 d hd) (by decide)) (by omega)) (by decide)
 generalize pairs E = G at *
 have e3 := oc3_is b2 l2 e2
 have p2 : oc2 (oc1 x) < 18446744073709551616 := by
  rw [e2]
  exact Nat.lt_of_lt_of_le (dig_lt (s := 4) 16 G (fun d hd => Nat.lt_of_le_of_lt (b2 d hd) (by decide)) (by omega)) (by decide)
 obtain ⟨e3, p3⟩ := e3
 have b3 := pairs_le G b2
 have l3 : (pairs G).length = 8 := by rw [pairs_len, l2]
 have s3 := pairs_sum G
 generalize pairs G = K at *
 clear e1 e2 b0 b1 b2 d0
 match K, l3 with
 | [a, b, c, d, e, f, g, h], _ =>
  refine ⟨a, b, c, d, e, f, g, h, e3, ?_, b3 a (by simp), b3 b (by simp), b3 c (by simp), b3 d (by simp), b3 e (by simp), b3 f (by simp), b3 g (by simp), b3 h (by simp), p1, p2, p3⟩
  simp only [sumL] at s3
  rw [pc, ← s0]
  omega

/-- Digit by digit: the longer row first. -/
def addL : List Nat → List Nat → List Nat
 | [], _ => []
 | l, [] => l
 | a :: r, b :: s => (a + b) :: addL r s

theorem addL_dig (B : Nat) : ∀ l k : List Nat, k.length ≤ l.length → dig B l + dig B k = dig B (addL l k)
 | [], [], _ => rfl
 | [], _ :: _, h => by simp at h
 | a :: r, [], _ => by simp [addL, dig]
 | a :: r, b :: s, h => by
  have ih := addL_dig B r s (by simp at h; omega)
  simp only [addL, dig]
  rw [← ih, Nat.mul_add]
  omega

theorem far_add (k : Nat) (ds : List Nat) (h : ∀ d ∈ ds, d < 256) : dig 256 ds + dig 256 ds / 256 ^ k = dig 256 (addL ds (ds.drop k)) := by
 rw [dig_drop 256 (by decide) k ds h, addL_dig _ _ _ (by simp)]

theorem dig_lt8 {a b c d e f g h : Nat} (ha : a < 256) (hb : b < 256) (hc : c < 256) (hd : d < 256) (he : e < 256) (hf : f < 256) (hg : g < 256) (hh : h < 64) : dig 256 [a, b, c, d, e, f, g, h] < 9223372036854775808 := by
 have st : ∀ {x r M : Nat}, x < 256 → r < M → x + 256 * r < 256 * M := fun hx hr => by omega
 simp only [dig]
 have := st ha (st hb (st hc (st hd (st he (st hf (st hg (show h + 256 * 0 < 64 by omega)))))))
 exact Nat.lt_trans this (by decide)

/-- The last steps. -/
theorem oc_last {x a b c d e f g h s : Nat} (hx : x = dig 256 [a, b, c, d, e, f, g, h]) (hs : a + b + c + d + e + f + g + h = s)
  (ha : a ≤ 8) (hb : b ≤ 8) (hc : c ≤ 8) (hd : d ≤ 8) (he : e ≤ 8) (hf : f ≤ 8) (hg : g ≤ 8) (hh : h ≤ 8) : ∃ y z u : Nat, y = x + x / 256 ∧ z = y + y / 65536 ∧ u = z + z / 4294967296 ∧ y < 9223372036854775808 ∧ z < 9223372036854775808 ∧ u < 9223372036854775808 ∧ u % 128 = s ∧ s ≤ 64 := by
 have y1 : x + x / 256 = dig 256 [a + b, b + c, c + d, d + e, e + f, f + g, g + h, h] := by
  have := far_add 1 [a, b, c, d, e, f, g, h] (by simp; omega)
  rw [Nat.pow_one, ← hx] at this
  rw [this]; rfl
 have z1 : (x + x / 256) + (x + x / 256) / 65536 = dig 256 [a + b + (c + d), b + c + (d + e), c + d + (e + f), d + e + (f + g), e + f + (g + h), f + g + h, g + h, h] := by
  have := far_add 2 [a + b, b + c, c + d, d + e, e + f, f + g, g + h, h] (by simp; omega)
  rw [show (256 : Nat) ^ 2 = 65536 from rfl, ← y1] at this
  rw [this]; rfl
 generalize x + x / 256 = y at *
 have u1 : (y + y / 65536) + (y + y / 65536) / 4294967296 = dig 256 [a + b + (c + d) + (e + f + (g + h)), b + c + (d + e) + (f + g + h), c + d + (e + f) + (g + h), d + e + (f + g) + h, e + f + (g + h), f + g + h, g + h, h] := by
  have := far_add 4 [a + b + (c + d), b + c + (d + e), c + d + (e + f), d + e + (f + g), e + f + (g + h), f + g + h, g + h, h] (by simp; omega)
  rw [show (256 : Nat) ^ 4 = 4294967296 from rfl, ← z1] at this
  rw [this]; rfl
 refine ⟨_, _, _, rfl, rfl, rfl, ?_, ?_, ?_, ?_, by omega⟩
 ·rw [y1]; apply dig_lt8 <;> omega
 ·rw [z1]; apply dig_lt8 <;> omega
 ·rw [u1]; apply dig_lt8 <;> omega
 ·rw [u1]; simp only [dig]; omega

end Go.Proofs.YtgbpnekinbdadaaGreatDoor

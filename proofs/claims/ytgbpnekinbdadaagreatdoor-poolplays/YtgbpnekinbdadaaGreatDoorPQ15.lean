/-
  Texts Bm2, Bm4, BmN of the proof.
-/
import Derived.Laws.BitsAllLaws
import Derived.Test.YtgbpnekinbdadaaGreatDoorPQ13

namespace Go.Proofs.YtgbpnekinbdadaaGreatDoor
open Go.ChangeShapes Go.WideShapes Go.ChangeAt Go.RowKit
set_option linter.unusedVariables false
set_option linter.unusedSimpArgs false

/-- The bits of word i that lie from a to b. -/
def rowM (a b i : Nat) : Nat :=
 if i = b / 64 then (if i = a / 64 then 18446744073709551615 &&& (18446744073709551615 * 2 ^ (a % 64) % 18446744073709551616) else 18446744073709551615) &&& 18446744073709551615 / 2 ^ (63 - b % 64)
 else (if i = a / 64 then 18446744073709551615 &&& (18446744073709551615 * 2 ^ (a % 64) % 18446744073709551616) else 18446744073709551615)

theorem bshl_nat (k : Nat) : IntKind.u64.wrap ((18446744073709551615 : Int) * 2 ^ k) = ((18446744073709551615 * 2 ^ k % 18446744073709551616 : Nat) : Int) := by
 have e : (2 : Int) ^ k = ((2 ^ k : Nat) : Int) := by rw [Int.natCast_pow]; rfl
 rw [IntKind.wrap_u64, e]
 generalize 2 ^ k = z
 omega

theorem bshr_nat (k : Nat) : (18446744073709551615 : Int) / 2 ^ k = ((18446744073709551615 / 2 ^ k : Nat) : Int) := by
 have e : (2 : Int) ^ k = ((2 ^ k : Nat) : Int) := by rw [Int.natCast_pow]; rfl
 rw [e]
 generalize 2 ^ k = z
 first | exact (Int.natCast_ediv 18446744073709551615 z).symm | exact (Int.natCast_div 18446744073709551615 z).symm | exact (Int.ofNat_ediv_ofNat 18446744073709551615 z).symm

theorem ones_div_lt (k : Nat) : 18446744073709551615 / 2 ^ k < 18446744073709551616 := Nat.lt_of_le_of_lt (Nat.div_le_self _ _) (by decide)

theorem ones_and_lt (k : Nat) : 18446744073709551615 &&& k < 18446744073709551616 := Nat.lt_of_le_of_lt Nat.and_le_left (by decide)

theorem row_10 {a b i : Nat} (h1 : i = a / 64) (h2 : ¬ i = b / 64) : bits BinOp.and IntKind.u64 18446744073709551615 (IntKind.u64.wrap (18446744073709551615 * 2 ^ (a % 64))) = (rowM a b i : Int) := by
 rw [bshl_nat, and_nat (a := 18446744073709551615) (by decide) (Nat.mod_lt _ (by decide)) 18446744073709551615 _ rfl rfl, rowM, if_neg h2, if_pos h1]

theorem row_01 {a b i : Nat} (h1 : ¬ i = a / 64) (h2 : i = b / 64) : bits BinOp.and IntKind.u64 18446744073709551615 (18446744073709551615 / 2 ^ (63 - b % 64)) = (rowM a b i : Int) := by
 rw [bshr_nat, and_nat (a := 18446744073709551615) (by decide) (ones_div_lt _) 18446744073709551615 _ rfl rfl, rowM, if_pos h2, if_neg h1]

theorem row_11 {a b i : Nat} (h1 : i = a / 64) (h2 : i = b / 64) : bits BinOp.and IntKind.u64 (bits BinOp.and IntKind.u64 18446744073709551615 (IntKind.u64.wrap (18446744073709551615 * 2 ^ (a % 64)))) (18446744073709551615 / 2 ^ (63 - b % 64)) = (rowM a b i : Int) := by
 rw [bshl_nat, bshr_nat, and_nat (a := 18446744073709551615) (by decide) (Nat.mod_lt _ (by decide)) 18446744073709551615 _ rfl rfl, and_nat (ones_and_lt _) (ones_div_lt _) _ _ rfl rfl, rowM, if_pos h2, if_pos h1]

theorem row_00 {a b i : Nat} (h1 : ¬ i = a / 64) (h2 : ¬ i = b / 64) : (18446744073709551615 : Int) = (rowM a b i : Int) := by
 rw [rowM, if_neg h2, if_neg h1]; rfl

theorem rowM_lt (a b i : Nat) : rowM a b i < 18446744073709551616 := by
 unfold rowM
 split <;> split
 ·exact Nat.lt_of_le_of_lt Nat.and_le_left (ones_and_lt _)
 ·exact ones_and_lt _
 ·exact ones_and_lt _
 ·decide

theorem ones_bit (j : Nat) : (18446744073709551615 : Nat).testBit j = decide (j < 64) := Nat.testBit_two_pow_sub_one 64 j

theorem shl_bit (k j : Nat) : (18446744073709551615 * 2 ^ k % 18446744073709551616).testBit j = decide (k ≤ j ∧ j < 64) := by
 rw [show (18446744073709551616 : Nat) = 2 ^ 64 from rfl, Nat.testBit_mod_two_pow, Nat.mul_comm, Nat.testBit_two_pow_mul, ones_bit]
 by_cases h : j < 64 <;> by_cases h2 : k ≤ j <;> simp [h, h2] <;> omega

theorem shr_bit (k j : Nat) : (18446744073709551615 / 2 ^ k).testBit j = decide (j + k < 64) := by
 rw [Nat.testBit_div_two_pow, ones_bit]

theorem rowM_bit {a b i j : Nat} (h1 : a / 64 ≤ i) (h2 : i ≤ b / 64) : (rowM a b i).testBit j = decide (j < 64 ∧ a ≤ 64 * i + j ∧ 64 * i + j ≤ b) := by
 unfold rowM
 split <;> split <;> simp only [Nat.testBit_and, ones_bit, shl_bit, shr_bit, ← Bool.decide_and, decide_eq_decide] <;> omega

set_option maxHeartbeats 4000000 in
theorem each_count (a b c1 c2 : Nat) (hab : a ≤ b) (hb : b < 65536) (I : Nat → World → Prop) (Q : World → Prop) (w : World)
  (hstep : ∀ i W, a / 64 ≤ i → i ≤ b / 64 → I i W → Calls Tryz.prog 97 #[.int .i64 i, .int .u64 (rowM a b i), .pointer (some ⟨c1, 0, none⟩), .pointer (some ⟨c2, 0, none⟩)] W fun e W' => (e = .returned (.bool true) ∧ I (i + 1) W') ∨ (e = .returned (.bool false) ∧ Q W'))
  (h0 : I (a / 64) w) :
  Calls Tryz.prog 96 #[.int .i64 a, .int .i64 b, .func (.func 97) #[] #[.pointer (some ⟨c1, 0, none⟩), .pointer (some ⟨c2, 0, none⟩)]] w fun e w' => e = .returned (.tuple #[]) ∧ (I (b / 64 + 1) w' ∨ Q w') := by
 go_enter Tryz.func96, Tryz.ntmps96
 go_wp2_with fail
 go_loopw [6] (fun t wr => ∃ i : Nat, a / 64 ≤ i ∧ i ≤ b / 64 + 1 ∧ t = .int .i64 i ∧ I i wr) (fun t _ => b / 64 + 1 - (intOf t).toNat)
 case atStart => exact ⟨a / 64, by omega, by omega, by simp, h0⟩
 case round =>
  obtain ⟨i, hi1, hi2, rfl, hI⟩ := hrel
  by_cases hlt : i ≤ b / 64
  ·have hc := hstep i wr hi1 hlt hI
   by_cases h1 : i = a / 64 <;> by_cases h2 : i = b / 64
   ·rw [← row_11 h1 h2, show (i : Int) = (a : Int) / 64 by omega] at hc
    go_wp2_with (go_at_call 97; refine hc.mono ?_; rintro e w1 hw1; rcases hw1 with ⟨rfl, hI'⟩ | ⟨rfl, hQ⟩)
    ·go_roundw
     case rel => exact ⟨i + 1, by omega, by omega, by simp <;> omega, hI'⟩
     case measure => simp [intOf]; omega
    ·refine bodyPost_ret (results_none rfl _ _ _) rfl ?_
     exact ⟨rfl, Or.inr hQ⟩
   ·rw [← row_10 h1 h2, show (i : Int) = (a : Int) / 64 by omega] at hc
    go_wp2_with (go_at_call 97; refine hc.mono ?_; rintro e w1 hw1; rcases hw1 with ⟨rfl, hI'⟩ | ⟨rfl, hQ⟩)
    ·go_roundw
     case rel => exact ⟨i + 1, by omega, by omega, by simp <;> omega, hI'⟩
     case measure => simp [intOf]; omega
    ·refine bodyPost_ret (results_none rfl _ _ _) rfl ?_
     exact ⟨rfl, Or.inr hQ⟩
   ·rw [← row_01 h1 h2, show (i : Int) = (b : Int) / 64 by omega] at hc
    go_wp2_with (go_at_call 97; refine hc.mono ?_; rintro e w1 hw1; rcases hw1 with ⟨rfl, hI'⟩ | ⟨rfl, hQ⟩)
    ·go_roundw
     case rel => exact ⟨i + 1, by omega, by omega, by simp <;> omega, hI'⟩
     case measure => simp [intOf]; omega
    ·refine bodyPost_ret (results_none rfl _ _ _) rfl ?_
     exact ⟨rfl, Or.inr hQ⟩
   ·rw [← row_00 h1 h2] at hc
    go_wp2_with (go_at_call 97; refine hc.mono ?_; rintro e w1 hw1; rcases hw1 with ⟨rfl, hI'⟩ | ⟨rfl, hQ⟩)
    ·go_roundw
     case rel => exact ⟨i + 1, by omega, by omega, by simp <;> omega, hI'⟩
     case measure => simp [intOf]; omega
    ·refine bodyPost_ret (results_none rfl _ _ _) rfl ?_
     exact ⟨rfl, Or.inr hQ⟩
  ·have : i = b / 64 + 1 := by omega
   go_wp2_with fail
   go_end0
   exact ⟨rfl, Or.inl (this ▸ hI)⟩

set_option maxHeartbeats 4000000 in
theorem each_first (a b c1 c2 c3 : Nat) (hab : a ≤ b) (hb : b < 65536) (I : Nat → World → Prop) (Q : World → Prop) (w : World)
  (hstep : ∀ i W, a / 64 ≤ i → i ≤ b / 64 → I i W → Calls Tryz.prog 157 #[.int .i64 i, .int .u64 (rowM a b i), .pointer (some ⟨c1, 0, none⟩), .pointer (some ⟨c2, 0, none⟩), .pointer (some ⟨c3, 0, none⟩)] W fun e W' => (e = .returned (.bool true) ∧ I (i + 1) W') ∨ (e = .returned (.bool false) ∧ Q W'))
  (h0 : I (a / 64) w) :
  Calls Tryz.prog 96 #[.int .i64 a, .int .i64 b, .func (.func 157) #[] #[.pointer (some ⟨c1, 0, none⟩), .pointer (some ⟨c2, 0, none⟩), .pointer (some ⟨c3, 0, none⟩)]] w fun e w' => e = .returned (.tuple #[]) ∧ (I (b / 64 + 1) w' ∨ Q w') := by
 go_enter Tryz.func96, Tryz.ntmps96
 go_wp2_with fail
 go_loopw [6] (fun t wr => ∃ i : Nat, a / 64 ≤ i ∧ i ≤ b / 64 + 1 ∧ t = .int .i64 i ∧ I i wr) (fun t _ => b / 64 + 1 - (intOf t).toNat)
 case atStart => exact ⟨a / 64, by omega, by omega, by simp, h0⟩
 case round =>
  obtain ⟨i, hi1, hi2, rfl, hI⟩ := hrel
  by_cases hlt : i ≤ b / 64
  ·have hc := hstep i wr hi1 hlt hI
   by_cases h1 : i = a / 64 <;> by_cases h2 : i = b / 64
   ·rw [← row_11 h1 h2, show (i : Int) = (a : Int) / 64 by omega] at hc
    go_wp2_with (go_at_call 157; refine hc.mono ?_; rintro e w1 hw1; rcases hw1 with ⟨rfl, hI'⟩ | ⟨rfl, hQ⟩)
    ·go_roundw
     case rel => exact ⟨i + 1, by omega, by omega, by simp <;> omega, hI'⟩
     case measure => simp [intOf]; omega
    ·refine bodyPost_ret (results_none rfl _ _ _) rfl ?_
     exact ⟨rfl, Or.inr hQ⟩
   ·rw [← row_10 h1 h2, show (i : Int) = (a : Int) / 64 by omega] at hc
    go_wp2_with (go_at_call 157; refine hc.mono ?_; rintro e w1 hw1; rcases hw1 with ⟨rfl, hI'⟩ | ⟨rfl, hQ⟩)
    ·go_roundw
     case rel => exact ⟨i + 1, by omega, by omega, by simp <;> omega, hI'⟩
     case measure => simp [intOf]; omega
    ·refine bodyPost_ret (results_none rfl _ _ _) rfl ?_
     exact ⟨rfl, Or.inr hQ⟩
   ·rw [← row_01 h1 h2, show (i : Int) = (b : Int) / 64 by omega] at hc
    go_wp2_with (go_at_call 157; refine hc.mono ?_; rintro e w1 hw1; rcases hw1 with ⟨rfl, hI'⟩ | ⟨rfl, hQ⟩)
    ·go_roundw
     case rel => exact ⟨i + 1, by omega, by omega, by simp <;> omega, hI'⟩
     case measure => simp [intOf]; omega
    ·refine bodyPost_ret (results_none rfl _ _ _) rfl ?_
     exact ⟨rfl, Or.inr hQ⟩
   ·rw [← row_00 h1 h2] at hc
    go_wp2_with (go_at_call 157; refine hc.mono ?_; rintro e w1 hw1; rcases hw1 with ⟨rfl, hI'⟩ | ⟨rfl, hQ⟩)
    ·go_roundw
     case rel => exact ⟨i + 1, by omega, by omega, by simp <;> omega, hI'⟩
     case measure => simp [intOf]; omega
    ·refine bodyPost_ret (results_none rfl _ _ _) rfl ?_
     exact ⟨rfl, Or.inr hQ⟩
  ·have : i = b / 64 + 1 := by omega
   go_wp2_with fail
   go_end0
   exact ⟨rfl, Or.inl (this ▸ hI)⟩

set_option maxHeartbeats 4000000 in
theorem each_turn (a b c1 c2 c3 : Nat) (hab : a ≤ b) (hb : b < 65536) (I : Nat → World → Prop) (Q : World → Prop) (w : World)
  (hstep : ∀ i W, a / 64 ≤ i → i ≤ b / 64 → I i W → Calls Tryz.prog 176 #[.int .i64 i, .int .u64 (rowM a b i), .pointer (some ⟨c1, 0, none⟩), .pointer (some ⟨c2, 0, none⟩), .pointer (some ⟨c3, 0, none⟩)] W fun e W' => (e = .returned (.bool true) ∧ I (i + 1) W') ∨ (e = .returned (.bool false) ∧ Q W'))
  (h0 : I (a / 64) w) :
  Calls Tryz.prog 96 #[.int .i64 a, .int .i64 b, .func (.func 176) #[] #[.pointer (some ⟨c1, 0, none⟩), .pointer (some ⟨c2, 0, none⟩), .pointer (some ⟨c3, 0, none⟩)]] w fun e w' => e = .returned (.tuple #[]) ∧ (I (b / 64 + 1) w' ∨ Q w') := by
 go_enter Tryz.func96, Tryz.ntmps96
 go_wp2_with fail
 go_loopw [6] (fun t wr => ∃ i : Nat, a / 64 ≤ i ∧ i ≤ b / 64 + 1 ∧ t = .int .i64 i ∧ I i wr) (fun t _ => b / 64 + 1 - (intOf t).toNat)
 case atStart => exact ⟨a / 64, by omega, by omega, by simp, h0⟩
 case round =>
  obtain ⟨i, hi1, hi2, rfl, hI⟩ := hrel
  by_cases hlt : i ≤ b / 64
  ·have hc := hstep i wr hi1 hlt hI
   by_cases h1 : i = a / 64 <;> by_cases h2 : i = b / 64
   ·rw [← row_11 h1 h2, show (i : Int) = (a : Int) / 64 by omega] at hc
    go_wp2_with (go_at_call 176; refine hc.mono ?_; rintro e w1 hw1; rcases hw1 with ⟨rfl, hI'⟩ | ⟨rfl, hQ⟩)
    ·go_roundw
     case rel => exact ⟨i + 1, by omega, by omega, by simp <;> omega, hI'⟩
     case measure => simp [intOf]; omega
    ·refine bodyPost_ret (results_none rfl _ _ _) rfl ?_
     exact ⟨rfl, Or.inr hQ⟩
   ·rw [← row_10 h1 h2, show (i : Int) = (a : Int) / 64 by omega] at hc
    go_wp2_with (go_at_call 176; refine hc.mono ?_; rintro e w1 hw1; rcases hw1 with ⟨rfl, hI'⟩ | ⟨rfl, hQ⟩)
    ·go_roundw
     case rel => exact ⟨i + 1, by omega, by omega, by simp <;> omega, hI'⟩
     case measure => simp [intOf]; omega
    ·refine bodyPost_ret (results_none rfl _ _ _) rfl ?_
     exact ⟨rfl, Or.inr hQ⟩
   ·rw [← row_01 h1 h2, show (i : Int) = (b : Int) / 64 by omega] at hc
    go_wp2_with (go_at_call 176; refine hc.mono ?_; rintro e w1 hw1; rcases hw1 with ⟨rfl, hI'⟩ | ⟨rfl, hQ⟩)
    ·go_roundw
     case rel => exact ⟨i + 1, by omega, by omega, by simp <;> omega, hI'⟩
     case measure => simp [intOf]; omega
    ·refine bodyPost_ret (results_none rfl _ _ _) rfl ?_
     exact ⟨rfl, Or.inr hQ⟩
   ·rw [← row_00 h1 h2] at hc
    go_wp2_with (go_at_call 176; refine hc.mono ?_; rintro e w1 hw1; rcases hw1 with ⟨rfl, hI'⟩ | ⟨rfl, hQ⟩)
    ·go_roundw
     case rel => exact ⟨i + 1, by omega, by omega, by simp <;> omega, hI'⟩
     case measure => simp [intOf]; omega
    ·refine bodyPost_ret (results_none rfl _ _ _) rfl ?_
     exact ⟨rfl, Or.inr hQ⟩
  ·have : i = b / 64 + 1 := by omega
   go_wp2_with fail
   go_end0
   exact ⟨rfl, Or.inl (this ▸ hI)⟩

theorem each0_count (c1 c2 : Nat) (w : World) :
  Calls Tryz.prog 96 #[.int .i64 0, .int .i64 (-1), .func (.func 97) #[] #[.pointer (some ⟨c1, 0, none⟩), .pointer (some ⟨c2, 0, none⟩)]] w fun e w' => e = .returned (.tuple #[]) ∧ w' = w := by
 go_enter Tryz.func96, Tryz.ntmps96
 go_wp2_with fail
 go_loopw [6] (fun t wr => t = .int .i64 0 ∧ wr = w) (fun t _ => 0)
 case atStart => exact ⟨by simp, rfl⟩
 case round =>
  obtain ⟨rfl, rfl⟩ := hrel
  go_wp2_with fail
  go_end0
  exact ⟨rfl, rfl⟩

theorem each0_first (c1 c2 c3 : Nat) (w : World) :
  Calls Tryz.prog 96 #[.int .i64 0, .int .i64 (-1), .func (.func 157) #[] #[.pointer (some ⟨c1, 0, none⟩), .pointer (some ⟨c2, 0, none⟩), .pointer (some ⟨c3, 0, none⟩)]] w fun e w' => e = .returned (.tuple #[]) ∧ w' = w := by
 go_enter Tryz.func96, Tryz.ntmps96
 go_wp2_with fail
 go_loopw [6] (fun t wr => t = .int .i64 0 ∧ wr = w) (fun t _ => 0)
 case atStart => exact ⟨by simp, rfl⟩
 case round =>
  obtain ⟨rfl, rfl⟩ := hrel
  go_wp2_with fail
  go_end0
  exact ⟨rfl, rfl⟩



/-- Bit p of a row of words. -/
def bitL (ws : List Nat) (p : Nat) : Bool := (ws.getD (p / 64) 0).testBit (p % 64)

theorem bitL_set {ws : List Nat} {i y p : Nat} (hi : i < ws.length) : bitL (ws.set i y) p = if p / 64 = i then y.testBit (p % 64) else bitL ws p := by
 unfold bitL
 by_cases h : p / 64 = i
 ·subst h
  simp [List.getD_eq_getElem?_getD, List.getElem?_set, hi]
 ·rw [if_neg h]
  simp [List.getD_eq_getElem?_getD, List.getElem?_set, Ne.symm h]

theorem bitL_at {ws : List Nat} {i j : Nat} (hj : j < 64) : bitL ws (64 * i + j) = (ws.getD i 0).testBit j := by
 unfold bitL
 rw [show (64 * i + j) / 64 = i by omega, show (64 * i + j) % 64 = j by omega]

theorem cnt_zero {p : Nat → Bool} : ∀ {n : Nat}, (∀ k, k < n → p k = false) → cnt p n = 0
 | 0, _ => rfl
 | n + 1, h => by simp only [cnt]; rw [cnt_zero (fun k hk => h k (by omega)), h n (by omega)]; rfl

theorem cnt_more {p : Nat → Bool} {a b : Nat} (hab : a ≤ b) (h : ∀ k, a ≤ k → k < b → p k = false) : cnt p b = cnt p a := by
 obtain ⟨d, rfl⟩ := Nat.exists_eq_add_of_le hab
 rw [cnt_add, cnt_zero (p := fun j => p (a + j)) (fun k hk => h (a + k) (by omega) (by omega))]
 rfl

/-- Behind the bits of a word that is other than it was. -/
theorem cnt_word {q : Nat → Bool} {i z : Nat} (hz : ∀ j, j < 64 → z.testBit j = q (64 * i + j)) : cnt q (64 * (i + 1)) = cnt q (64 * i) + pc z := by
 rw [show 64 * (i + 1) = 64 * i + 64 by omega, cnt_add, pc]
 congr 1
 exact cnt_congr (fun j hj => (hz j hj).symm)

/-- Just one. -/
theorem cnt_one {q : Nat → Bool} {i n : Nat} (hi : i < n) (h : ∀ k, k ≠ i → q k = false) : cnt q n = if q i then 1 else 0 := by
 rw [cnt_more (a := i + 1) (by omega) (fun k h1 h2 => h k (by omega))]
 simp only [cnt]
 rw [cnt_zero (fun k hk => h k (by omega))]
 omega

/-- A map as its bits: none behind its size is one. -/
structure MapB (W : World) (a g n : Nat) (f : Nat → Bool) : Prop where
 is : ∃ ws, MapAt W a g n ws ∧ ∀ p, bitL ws p = f p
 behind : ∀ p, n ≤ p → f p = false

/-- What is not in the list is as it was. -/
structure But (L : List Nat) (B : Nat) (w w' : World) : Prop where
 os : w'.os = w.os
 tape : w'.tape = w.tape
 output : w'.output = w.output
 size : w.heap.size ≤ w'.heap.size
 block : ∀ k, k < B → k ∉ L → w'.heap[k]? = w.heap[k]?

theorem But.trans {L : List Nat} {B : Nat} {a b c : World} (h : But L B a b) (k : But L B b c) : But L B a c :=
 ⟨k.os.trans h.os, k.tape.trans h.tape, k.output.trans h.output, Nat.le_trans h.size k.size, fun i hi hn => (k.block i hi hn).trans (h.block i hi hn)⟩

theorem But.of {L : List Nat} {B C : Nat} {w w' : World} (h : Below C w w') (hBC : B ≤ C) : But L B w w' := ⟨h.os, h.tape, h.output, h.size, fun k hk _ => h.block k (by omega)⟩

theorem But.mono {L M : List Nat} {B C : Nat} {w w' : World} (h : But L B w w') (hBC : C ≤ B) (hs : ∀ x, x ∈ L → x < C → x ∈ M) : But M C w w' :=
 ⟨h.os, h.tape, h.output, h.size, fun k hk hn => h.block k (by omega) (fun hl => hn (hs k hl hk))⟩

theorem But.blk {L : List Nat} {B : Nat} {w w' : World} (h : But L B w w') {b : Nat} {cs : Array Value} {t : TypeId} (k : Blk w b cs t) (hb : b < B) (hn : b ∉ L) : Blk w' b cs t := (h.block b hb hn).trans k

theorem MapAt.but {L : List Nat} {B : Nat} {w w' : World} (h : But L B w w') {a g n : Nat} {ws : List Nat} (k : MapAt w a g n ws) (ha : a < B) (hg : g < B) (na : a ∉ L) (ng : g ∉ L) : MapAt w' a g n ws :=
 ⟨h.blk k.head ha na, h.blk k.row hg ng, k.len, k.small, k.word⟩

theorem MapB.but {L : List Nat} {B : Nat} {w w' : World} (h : But L B w w') {a g n : Nat} {f : Nat → Bool} (k : MapB w a g n f) (ha : a < B) (hg : g < B) (na : a ∉ L) (ng : g ∉ L) : MapB w' a g n f := by
 obtain ⟨⟨ws, h1, h2⟩, h3⟩ := k
 exact ⟨⟨ws, h1.but h ha hg na ng, h2⟩, h3⟩

theorem MapB.below {w w' : World} {a g n : Nat} {f : Nat → Bool} (k : MapB w a g n f) (h : Below w.heap.size w w') : MapB w' a g n f := by
 obtain ⟨⟨ws, h1, h2⟩, h3⟩ := k
 exact ⟨⟨ws, h1.but (But.of (L := []) h (Nat.le_refl _)) h1.head.lt h1.row.lt (by simp) (by simp), h2⟩, h3⟩

theorem MapB.lt {w : World} {a g n : Nat} {f : Nat → Bool} (k : MapB w a g n f) : a < w.heap.size ∧ g < w.heap.size ∧ a ≠ g ∧ n ≤ 65536 := by
 obtain ⟨⟨ws, h1, h2⟩, h3⟩ := k
 refine ⟨h1.head.lt, h1.row.lt, ?_, h1.small⟩
 rintro rfl
 have e1 := h1.head
 have e2 := h1.row
 unfold Blk at e1 e2
 rw [e1] at e2
 simp at e2

theorem MapAt.get {W : World} {a g n : Nat} {ws : List Nat} (h : MapAt W a g n ws) {i : Nat} (hi : i < ws.length) : ((ws.map (fun x : Nat => Value.int .u64 (x : Int))).toArray)[i]? = some (.int .u64 ((ws.getD i 0 : Nat) : Int)) ∧ ws.getD i 0 < 18446744073709551616 := by
 have e : ws[i]? = some (ws.getD i 0) := by
  simp [List.getD_eq_getElem?_getD, hi]
 refine ⟨by simp [e, hi], h.word _ ?_⟩
 exact List.mem_of_getElem? e

/-- A word is put. -/
theorem MapAt.put {W : World} {a g n : Nat} {ws : List Nat} (h : MapAt W a g n ws) (hne : a ≠ g) {i y : Nat} (hy : y < 18446744073709551616) : MapAt (W.setCell ⟨g, i, none⟩ (.int .u64 (y : Int))) a g n (ws.set i y) := by
 refine ⟨?_, ?_, by rw [List.length_set]; exact h.len, h.small, ?_⟩
 ·rw [List.length_set]
  exact h.head.far hne i _
 ·have := h.row.put i (.int .u64 (y : Int))
  have e : ((ws.map (fun x : Nat => Value.int .u64 (x : Int))).toArray).setIfInBounds i (.int .u64 (y : Int)) = ((ws.set i y).map (fun x : Nat => Value.int .u64 (x : Int))).toArray := by
   rw [List.map_set]; simp
  rw [← e]
  exact this
 ·intro x hx
  rcases List.mem_or_eq_of_mem_set hx with hx | rfl
  ·exact h.word x hx
  ·exact hy


open Go.RowKit

theorem hide {p : Prop} (h : p) : Hid p := h

/-- The first of k numbers from a on that is not one. -/
def seek (f : Nat → Bool) : Nat → Nat → Option Nat
 | _, 0 => none
 | a, k + 1 => if f a then seek f (a + 1) k else some a

theorem seek_none {f : Nat → Bool} : ∀ {k a : Nat}, (∀ p, a ≤ p → p < a + k → f p = true) → seek f a k = none
 | 0, _, _ => rfl
 | k + 1, a, h => by
  simp only [seek]
  rw [if_pos (h a (by omega) (by omega))]
  exact seek_none (fun p h1 h2 => h p (by omega) (by omega))

theorem seek_some {f : Nat → Bool} : ∀ {k a p : Nat}, a ≤ p → p < a + k → f p = false → (∀ q, a ≤ q → q < p → f q = true) → seek f a k = some p
 | 0, a, p, h1, h2, _, _ => by omega
 | k + 1, a, p, h1, h2, h3, h4 => by
  simp only [seek]
  by_cases e : a = p
  ·subst e; rw [if_neg (by simp [h3])]
  ·rw [if_pos (h4 a (by omega) (by omega))]
   exact seek_some (by omega) (by omega) h3 (fun q h5 h6 => h4 q (by omega) h6)

theorem seek_is {f : Nat → Bool} : ∀ {k a p : Nat}, seek f a k = some p → a ≤ p ∧ p < a + k ∧ f p = false
 | 0, a, p, h => by simp [seek] at h
 | k + 1, a, p, h => by
  simp only [seek] at h
  by_cases e : f a
  ·rw [if_pos e] at h
   have := seek_is h
   exact ⟨by omega, by omega, this.2.2⟩
  ·rw [if_neg e] at h
   obtain rfl := Option.some.inj h
   exact ⟨by omega, by omega, by simpa using e⟩

/-- The next one that isn't one, from s on, round once. -/
def nextF (f : Nat → Bool) (n s : Nat) : Option Nat :=
 match seek f s (n - s) with
 | some p => some p
 | none => seek f 0 s

def nxP (f : Nat → Bool) (n s : Nat) : Nat := (nextF f n s).getD 0

def nxB (f : Nat → Bool) (n s : Nat) : Bool := (nextF f n s).isSome

theorem nextF_is {f : Nat → Bool} {n s p : Nat} (hs : s < n) (h : nextF f n s = some p) : p < n ∧ f p = false := by
 unfold nextF at h
 split at h
 ·rename_i q e
  obtain rfl := Option.some.inj h
  have := seek_is e
  exact ⟨by omega, this.2.2⟩
 ·have := seek_is h
  exact ⟨by omega, this.2.2⟩

/-- The reference's way: one by one, round once. -/
theorem nextF_round {f : Nat → Bool} {n s k i : Nat} (hs : s < n) (hk : k < n) (hi : i = (s + k) % n) (h0 : ∀ j, j < k → f ((s + j) % n) = true) (h1 : f i = false) : nextF f n s = some i := by
 have md : ∀ j, j < n → (s + j) % n = if s + j < n then s + j else s + j - n := fun j hj => by
  split
  ·rename_i h; exact Nat.mod_eq_of_lt h
  ·rename_i h
   rw [Nat.mod_eq_sub_mod (by omega), Nat.mod_eq_of_lt (by omega)]
 rw [md k hk] at hi
 unfold nextF
 by_cases h : s + k < n
 ·rw [if_pos h] at hi
  subst hi
  rw [seek_some (p := s + k) (by omega) (by omega) h1 (fun q h2 h3 => ?_)]
  have := h0 (q - s) (by omega)
  rw [md _ (by omega), if_pos (by omega)] at this
  rw [show s + (q - s) = q by omega] at this
  exact this
 ·rw [if_neg h] at hi
  subst hi
  rw [seek_none (f := f) (k := n - s) (a := s) (fun q h2 h3 => ?_)]
  ·show seek f 0 s = _
   refine seek_some (by omega) (by omega) h1 (fun q h2 h3 => ?_)
   have := h0 (q + n - s) (by omega)
   rw [md _ (by omega), if_neg (by omega)] at this
   rw [show s + (q + n - s) - n = q by omega] at this
   exact this
  ·have := h0 (q - s) (by omega)
   rw [md _ (by omega), if_pos (by omega)] at this
   rw [show s + (q - s) = q by omega] at this
   exact this

theorem nextF_full {f : Nat → Bool} {n s : Nat} (hs : s < n) (h0 : ∀ j, j < n → f ((s + j) % n) = true) : nextF f n s = none := by
 have all : ∀ p, p < n → f p = true := fun p hp => by
  by_cases h : s ≤ p
  ·have := h0 (p - s) (by omega)
   rw [show s + (p - s) = p by omega, Nat.mod_eq_of_lt hp] at this
   exact this
  ·have := h0 (p + n - s) (by omega)
   rw [show s + (p + n - s) = p + n by omega, Nat.add_mod_right, Nat.mod_eq_of_lt hp] at this
   exact this
 unfold nextF
 rw [seek_none (fun p h1 h2 => all p (by omega))]
 exact seek_none (fun p h1 h2 => all p (by omega))

/-- k bits from b on, as a number. -/
def bsum (f : Nat → Bool) (b : Nat) : Nat → Nat
 | 0 => 0
 | k + 1 => bsum f b k + (if f (b + k) then 2 ^ k else 0)

theorem bsum_lt (f : Nat → Bool) (b : Nat) : ∀ k, bsum f b k < 2 ^ k
 | 0 => by simp [bsum]
 | k + 1 => by
  have := bsum_lt f b k
  simp only [bsum]
  rw [Nat.pow_succ]
  split <;> omega

theorem bsum_bit (f : Nat → Bool) (b : Nat) : ∀ k j, (bsum f b k).testBit j = (decide (j < k) && f (b + j))
 | 0, j => by simp [bsum]
 | k + 1, j => by
  have lt := bsum_lt f b k
  have ih := bsum_bit f b k j
  have e : bsum f b (k + 1) = 2 ^ k * (if f (b + k) then 1 else 0) + bsum f b k := by
   simp only [bsum]; split <;> omega
  rw [e, Nat.testBit_two_pow_mul_add _ lt]
  by_cases h : j < k
  ·rw [if_pos h, ih]
   simp [h, show j < k + 1 by omega]
  ·rw [if_neg h]
   by_cases h2 : j = k
   ·subst h2
    cases f (b + j) <;> simp
   ·have : ¬ j < k + 1 := by omega
    simp [this]
    split
    ·exact Nat.testBit_lt_two_pow (by
      have : 2 ^ 1 ≤ 2 ^ (j - k) := Nat.pow_le_pow_right (by decide) (by omega)
      omega)
    ·simp

/-- A byte of a word. -/
theorem word_byte {f : Nat → Bool} {x i r : Nat} (hx : ∀ j, j < 64 → x.testBit j = f (64 * i + j)) (hr : r < 8) : x / 2 ^ (8 * r) % 256 = bsum f (8 * (8 * i + r)) 8 := by
 apply Nat.eq_of_testBit_eq
 intro j
 rw [show (256 : Nat) = 2 ^ 8 from rfl, Nat.testBit_mod_two_pow, Nat.testBit_div_two_pow, bsum_bit]
 by_cases h : j < 8
 ·simp only [h, decide_true, Bool.true_and]
  rw [hx _ (by omega)]
  congr 1; omega
 ·simp [h]

end Go.Proofs.YtgbpnekinbdadaaGreatDoor

/-
  forEachWord goes through the words of a row, whatever is called for each.
-/
import Derived.Test.YtkfglbmhpdcfpaaDoorBm1
import Derived.Laws.BitsAllLaws
namespace Go.Proofs.YtkfglbmhpdcfpaaDoor
open Go.ChangeShapes Go.WideShapes Go.ChangeAt Go.RowKit
set_option linter.unusedVariables false
set_option linter.unusedSimpArgs false

/-- The bits of word i that lie from a to b. -/
def rowM (a b i : Nat) : Nat :=
  if i = b / 64 then (if i = a / 64 then 18446744073709551615 &&& (18446744073709551615 * 2 ^ (a % 64) % 18446744073709551616) else 18446744073709551615) &&& 18446744073709551615 / 2 ^ (63 - b % 64)
  else (if i = a / 64 then 18446744073709551615 &&& (18446744073709551615 * 2 ^ (a % 64) % 18446744073709551616) else 18446744073709551615)

theorem shl_nat (k : Nat) : IntKind.u64.wrap ((18446744073709551615 : Int) * 2 ^ k) = ((18446744073709551615 * 2 ^ k % 18446744073709551616 : Nat) : Int) := by
  have e : (2 : Int) ^ k = ((2 ^ k : Nat) : Int) := by rw [Int.natCast_pow]; rfl
  rw [IntKind.wrap_u64, e]
  generalize 2 ^ k = z
  omega

theorem shr_nat (k : Nat) : (18446744073709551615 : Int) / 2 ^ k = ((18446744073709551615 / 2 ^ k : Nat) : Int) := by
  have e : (2 : Int) ^ k = ((2 ^ k : Nat) : Int) := by rw [Int.natCast_pow]; rfl
  rw [e]
  generalize 2 ^ k = z
  first | exact (Int.natCast_ediv 18446744073709551615 z).symm | exact (Int.natCast_div 18446744073709551615 z).symm | exact (Int.ofNat_ediv_ofNat 18446744073709551615 z).symm

theorem ones_div_lt (k : Nat) : 18446744073709551615 / 2 ^ k < 18446744073709551616 := Nat.lt_of_le_of_lt (Nat.div_le_self _ _) (by decide)

theorem ones_and_lt (k : Nat) : 18446744073709551615 &&& k < 18446744073709551616 := Nat.lt_of_le_of_lt Nat.and_le_left (by decide)

theorem row_10 {a b i : Nat} (h1 : i = a / 64) (h2 : ¬ i = b / 64) : bits BinOp.and IntKind.u64 18446744073709551615 (IntKind.u64.wrap (18446744073709551615 * 2 ^ (a % 64))) = (rowM a b i : Int) := by
  rw [shl_nat, and_nat (a := 18446744073709551615) (by decide) (Nat.mod_lt _ (by decide)) 18446744073709551615 _ rfl rfl, rowM, if_neg h2, if_pos h1]

theorem row_01 {a b i : Nat} (h1 : ¬ i = a / 64) (h2 : i = b / 64) : bits BinOp.and IntKind.u64 18446744073709551615 (18446744073709551615 / 2 ^ (63 - b % 64)) = (rowM a b i : Int) := by
  rw [shr_nat, and_nat (a := 18446744073709551615) (by decide) (ones_div_lt _) 18446744073709551615 _ rfl rfl, rowM, if_pos h2, if_neg h1]

theorem row_11 {a b i : Nat} (h1 : i = a / 64) (h2 : i = b / 64) : bits BinOp.and IntKind.u64 (bits BinOp.and IntKind.u64 18446744073709551615 (IntKind.u64.wrap (18446744073709551615 * 2 ^ (a % 64)))) (18446744073709551615 / 2 ^ (63 - b % 64)) = (rowM a b i : Int) := by
  rw [shl_nat, shr_nat, and_nat (a := 18446744073709551615) (by decide) (Nat.mod_lt _ (by decide)) 18446744073709551615 _ rfl rfl, and_nat (ones_and_lt _) (ones_div_lt _) _ _ rfl rfl, rowM, if_pos h2, if_pos h1]

theorem row_00 {a b i : Nat} (h1 : ¬ i = a / 64) (h2 : ¬ i = b / 64) : (18446744073709551615 : Int) = (rowM a b i : Int) := by
  rw [rowM, if_neg h2, if_neg h1]; rfl

theorem rowM_lt (a b i : Nat) : rowM a b i < 18446744073709551616 := by
  unfold rowM
  split <;> split
  · exact Nat.lt_of_le_of_lt Nat.and_le_left (ones_and_lt _)
  · exact ones_and_lt _
  · exact ones_and_lt _
  · decide

theorem ones_bit (j : Nat) : (18446744073709551615 : Nat).testBit j = decide (j < 64) := Nat.testBit_two_pow_sub_one 64 j

theorem shl_bit (k j : Nat) : (18446744073709551615 * 2 ^ k % 18446744073709551616).testBit j = decide (k ≤ j ∧ j < 64) := by
  rw [show (18446744073709551616 : Nat) = 2 ^ 64 from rfl, Nat.testBit_mod_two_pow, Nat.mul_comm, Nat.testBit_two_pow_mul, ones_bit]
  by_cases h : j < 64 <;> by_cases h2 : k ≤ j <;> simp [h, h2] <;> omega

theorem shr_bit (k j : Nat) : (18446744073709551615 / 2 ^ k).testBit j = decide (j + k < 64) := by
  rw [Nat.testBit_div_two_pow, ones_bit]

theorem rowM_bit {a b i j : Nat} (h1 : a / 64 ≤ i) (h2 : i ≤ b / 64) : (rowM a b i).testBit j = decide (j < 64 ∧ a ≤ 64 * i + j ∧ 64 * i + j ≤ b) := by
  unfold rowM
  split <;> split <;> simp only [Nat.testBit_and, ones_bit, shl_bit, shr_bit, ← Bool.decide_and, decide_eq_decide] <;> omega

set_option maxHeartbeats 4000000 in
theorem each_count (a b c1 c2 : Nat) (hab : a ≤ b) (hb : b < 65536) (I : Nat → World → Prop) (Q : World → Prop) (w : World)
    (hstep : ∀ i W, a / 64 ≤ i → i ≤ b / 64 → I i W → Calls Tryd.prog 54 #[.int .i64 i, .int .u64 (rowM a b i), .pointer (some ⟨c1, 0, none⟩), .pointer (some ⟨c2, 0, none⟩)] W fun e W' => (e = .returned (.bool true) ∧ I (i + 1) W') ∨ (e = .returned (.bool false) ∧ Q W'))
    (h0 : I (a / 64) w) :
    Calls Tryd.prog 53 #[.int .i64 a, .int .i64 b, .func (.func 54) #[] #[.pointer (some ⟨c1, 0, none⟩), .pointer (some ⟨c2, 0, none⟩)]] w fun e w' => e = .returned (.tuple #[]) ∧ (I (b / 64 + 1) w' ∨ Q w') := by
  go_enter Tryd.func53, Tryd.ntmps53
  go_wp2_with fail
  go_loopw [6] (fun t wr => ∃ i : Nat, a / 64 ≤ i ∧ i ≤ b / 64 + 1 ∧ t = .int .i64 i ∧ I i wr) (fun t _ => b / 64 + 1 - (intOf t).toNat)
  case atStart => exact ⟨a / 64, by omega, by omega, by simp, h0⟩
  case round =>
    obtain ⟨i, hi1, hi2, rfl, hI⟩ := hrel
    by_cases hlt : i ≤ b / 64
    · have hc := hstep i wr hi1 hlt hI
      by_cases h1 : i = a / 64 <;> by_cases h2 : i = b / 64
      · rw [← row_11 h1 h2, show (i : Int) = (a : Int) / 64 by omega] at hc
        go_wp2_with (go_at_call 54; refine hc.mono ?_; rintro e w1 hw1; rcases hw1 with ⟨rfl, hI'⟩ | ⟨rfl, hQ⟩)
        · go_roundw
          case rel => exact ⟨i + 1, by omega, by omega, by simp <;> omega, hI'⟩
          case measure => simp [intOf]; omega
        · refine bodyPost_ret (results_none rfl _ _ _) rfl ?_
          exact ⟨rfl, Or.inr hQ⟩
      · rw [← row_10 h1 h2, show (i : Int) = (a : Int) / 64 by omega] at hc
        go_wp2_with (go_at_call 54; refine hc.mono ?_; rintro e w1 hw1; rcases hw1 with ⟨rfl, hI'⟩ | ⟨rfl, hQ⟩)
        · go_roundw
          case rel => exact ⟨i + 1, by omega, by omega, by simp <;> omega, hI'⟩
          case measure => simp [intOf]; omega
        · refine bodyPost_ret (results_none rfl _ _ _) rfl ?_
          exact ⟨rfl, Or.inr hQ⟩
      · rw [← row_01 h1 h2, show (i : Int) = (b : Int) / 64 by omega] at hc
        go_wp2_with (go_at_call 54; refine hc.mono ?_; rintro e w1 hw1; rcases hw1 with ⟨rfl, hI'⟩ | ⟨rfl, hQ⟩)
        · go_roundw
          case rel => exact ⟨i + 1, by omega, by omega, by simp <;> omega, hI'⟩
          case measure => simp [intOf]; omega
        · refine bodyPost_ret (results_none rfl _ _ _) rfl ?_
          exact ⟨rfl, Or.inr hQ⟩
      · rw [← row_00 h1 h2] at hc
        go_wp2_with (go_at_call 54; refine hc.mono ?_; rintro e w1 hw1; rcases hw1 with ⟨rfl, hI'⟩ | ⟨rfl, hQ⟩)
        · go_roundw
          case rel => exact ⟨i + 1, by omega, by omega, by simp <;> omega, hI'⟩
          case measure => simp [intOf]; omega
        · refine bodyPost_ret (results_none rfl _ _ _) rfl ?_
          exact ⟨rfl, Or.inr hQ⟩
    · have : i = b / 64 + 1 := by omega
      go_wp2_with fail
      go_end0
      exact ⟨rfl, Or.inl (this ▸ hI)⟩

set_option maxHeartbeats 4000000 in
theorem each_first (a b c1 c2 c3 : Nat) (hab : a ≤ b) (hb : b < 65536) (I : Nat → World → Prop) (Q : World → Prop) (w : World)
    (hstep : ∀ i W, a / 64 ≤ i → i ≤ b / 64 → I i W → Calls Tryd.prog 78 #[.int .i64 i, .int .u64 (rowM a b i), .pointer (some ⟨c1, 0, none⟩), .pointer (some ⟨c2, 0, none⟩), .pointer (some ⟨c3, 0, none⟩)] W fun e W' => (e = .returned (.bool true) ∧ I (i + 1) W') ∨ (e = .returned (.bool false) ∧ Q W'))
    (h0 : I (a / 64) w) :
    Calls Tryd.prog 53 #[.int .i64 a, .int .i64 b, .func (.func 78) #[] #[.pointer (some ⟨c1, 0, none⟩), .pointer (some ⟨c2, 0, none⟩), .pointer (some ⟨c3, 0, none⟩)]] w fun e w' => e = .returned (.tuple #[]) ∧ (I (b / 64 + 1) w' ∨ Q w') := by
  go_enter Tryd.func53, Tryd.ntmps53
  go_wp2_with fail
  go_loopw [6] (fun t wr => ∃ i : Nat, a / 64 ≤ i ∧ i ≤ b / 64 + 1 ∧ t = .int .i64 i ∧ I i wr) (fun t _ => b / 64 + 1 - (intOf t).toNat)
  case atStart => exact ⟨a / 64, by omega, by omega, by simp, h0⟩
  case round =>
    obtain ⟨i, hi1, hi2, rfl, hI⟩ := hrel
    by_cases hlt : i ≤ b / 64
    · have hc := hstep i wr hi1 hlt hI
      by_cases h1 : i = a / 64 <;> by_cases h2 : i = b / 64
      · rw [← row_11 h1 h2, show (i : Int) = (a : Int) / 64 by omega] at hc
        go_wp2_with (go_at_call 78; refine hc.mono ?_; rintro e w1 hw1; rcases hw1 with ⟨rfl, hI'⟩ | ⟨rfl, hQ⟩)
        · go_roundw
          case rel => exact ⟨i + 1, by omega, by omega, by simp <;> omega, hI'⟩
          case measure => simp [intOf]; omega
        · refine bodyPost_ret (results_none rfl _ _ _) rfl ?_
          exact ⟨rfl, Or.inr hQ⟩
      · rw [← row_10 h1 h2, show (i : Int) = (a : Int) / 64 by omega] at hc
        go_wp2_with (go_at_call 78; refine hc.mono ?_; rintro e w1 hw1; rcases hw1 with ⟨rfl, hI'⟩ | ⟨rfl, hQ⟩)
        · go_roundw
          case rel => exact ⟨i + 1, by omega, by omega, by simp <;> omega, hI'⟩
          case measure => simp [intOf]; omega
        · refine bodyPost_ret (results_none rfl _ _ _) rfl ?_
          exact ⟨rfl, Or.inr hQ⟩
      · rw [← row_01 h1 h2, show (i : Int) = (b : Int) / 64 by omega] at hc
        go_wp2_with (go_at_call 78; refine hc.mono ?_; rintro e w1 hw1; rcases hw1 with ⟨rfl, hI'⟩ | ⟨rfl, hQ⟩)
        · go_roundw
          case rel => exact ⟨i + 1, by omega, by omega, by simp <;> omega, hI'⟩
          case measure => simp [intOf]; omega
        · refine bodyPost_ret (results_none rfl _ _ _) rfl ?_
          exact ⟨rfl, Or.inr hQ⟩
      · rw [← row_00 h1 h2] at hc
        go_wp2_with (go_at_call 78; refine hc.mono ?_; rintro e w1 hw1; rcases hw1 with ⟨rfl, hI'⟩ | ⟨rfl, hQ⟩)
        · go_roundw
          case rel => exact ⟨i + 1, by omega, by omega, by simp <;> omega, hI'⟩
          case measure => simp [intOf]; omega
        · refine bodyPost_ret (results_none rfl _ _ _) rfl ?_
          exact ⟨rfl, Or.inr hQ⟩
    · have : i = b / 64 + 1 := by omega
      go_wp2_with fail
      go_end0
      exact ⟨rfl, Or.inl (this ▸ hI)⟩

set_option maxHeartbeats 4000000 in
theorem each_turn (a b c1 c2 c3 : Nat) (hab : a ≤ b) (hb : b < 65536) (I : Nat → World → Prop) (Q : World → Prop) (w : World)
    (hstep : ∀ i W, a / 64 ≤ i → i ≤ b / 64 → I i W → Calls Tryd.prog 80 #[.int .i64 i, .int .u64 (rowM a b i), .pointer (some ⟨c1, 0, none⟩), .pointer (some ⟨c2, 0, none⟩), .pointer (some ⟨c3, 0, none⟩)] W fun e W' => (e = .returned (.bool true) ∧ I (i + 1) W') ∨ (e = .returned (.bool false) ∧ Q W'))
    (h0 : I (a / 64) w) :
    Calls Tryd.prog 53 #[.int .i64 a, .int .i64 b, .func (.func 80) #[] #[.pointer (some ⟨c1, 0, none⟩), .pointer (some ⟨c2, 0, none⟩), .pointer (some ⟨c3, 0, none⟩)]] w fun e w' => e = .returned (.tuple #[]) ∧ (I (b / 64 + 1) w' ∨ Q w') := by
  go_enter Tryd.func53, Tryd.ntmps53
  go_wp2_with fail
  go_loopw [6] (fun t wr => ∃ i : Nat, a / 64 ≤ i ∧ i ≤ b / 64 + 1 ∧ t = .int .i64 i ∧ I i wr) (fun t _ => b / 64 + 1 - (intOf t).toNat)
  case atStart => exact ⟨a / 64, by omega, by omega, by simp, h0⟩
  case round =>
    obtain ⟨i, hi1, hi2, rfl, hI⟩ := hrel
    by_cases hlt : i ≤ b / 64
    · have hc := hstep i wr hi1 hlt hI
      by_cases h1 : i = a / 64 <;> by_cases h2 : i = b / 64
      · rw [← row_11 h1 h2, show (i : Int) = (a : Int) / 64 by omega] at hc
        go_wp2_with (go_at_call 80; refine hc.mono ?_; rintro e w1 hw1; rcases hw1 with ⟨rfl, hI'⟩ | ⟨rfl, hQ⟩)
        · go_roundw
          case rel => exact ⟨i + 1, by omega, by omega, by simp <;> omega, hI'⟩
          case measure => simp [intOf]; omega
        · refine bodyPost_ret (results_none rfl _ _ _) rfl ?_
          exact ⟨rfl, Or.inr hQ⟩
      · rw [← row_10 h1 h2, show (i : Int) = (a : Int) / 64 by omega] at hc
        go_wp2_with (go_at_call 80; refine hc.mono ?_; rintro e w1 hw1; rcases hw1 with ⟨rfl, hI'⟩ | ⟨rfl, hQ⟩)
        · go_roundw
          case rel => exact ⟨i + 1, by omega, by omega, by simp <;> omega, hI'⟩
          case measure => simp [intOf]; omega
        · refine bodyPost_ret (results_none rfl _ _ _) rfl ?_
          exact ⟨rfl, Or.inr hQ⟩
      · rw [← row_01 h1 h2, show (i : Int) = (b : Int) / 64 by omega] at hc
        go_wp2_with (go_at_call 80; refine hc.mono ?_; rintro e w1 hw1; rcases hw1 with ⟨rfl, hI'⟩ | ⟨rfl, hQ⟩)
        · go_roundw
          case rel => exact ⟨i + 1, by omega, by omega, by simp <;> omega, hI'⟩
          case measure => simp [intOf]; omega
        · refine bodyPost_ret (results_none rfl _ _ _) rfl ?_
          exact ⟨rfl, Or.inr hQ⟩
      · rw [← row_00 h1 h2] at hc
        go_wp2_with (go_at_call 80; refine hc.mono ?_; rintro e w1 hw1; rcases hw1 with ⟨rfl, hI'⟩ | ⟨rfl, hQ⟩)
        · go_roundw
          case rel => exact ⟨i + 1, by omega, by omega, by simp <;> omega, hI'⟩
          case measure => simp [intOf]; omega
        · refine bodyPost_ret (results_none rfl _ _ _) rfl ?_
          exact ⟨rfl, Or.inr hQ⟩
    · have : i = b / 64 + 1 := by omega
      go_wp2_with fail
      go_end0
      exact ⟨rfl, Or.inl (this ▸ hI)⟩

theorem each0_count (c1 c2 : Nat) (w : World) :
    Calls Tryd.prog 53 #[.int .i64 0, .int .i64 (-1), .func (.func 54) #[] #[.pointer (some ⟨c1, 0, none⟩), .pointer (some ⟨c2, 0, none⟩)]] w fun e w' => e = .returned (.tuple #[]) ∧ w' = w := by
  go_enter Tryd.func53, Tryd.ntmps53
  go_wp2_with fail
  go_loopw [6] (fun t wr => t = .int .i64 0 ∧ wr = w) (fun t _ => 0)
  case atStart => exact ⟨by simp, rfl⟩
  case round =>
    obtain ⟨rfl, rfl⟩ := hrel
    go_wp2_with fail
    go_end0
    exact ⟨rfl, rfl⟩

theorem each0_first (c1 c2 c3 : Nat) (w : World) :
    Calls Tryd.prog 53 #[.int .i64 0, .int .i64 (-1), .func (.func 78) #[] #[.pointer (some ⟨c1, 0, none⟩), .pointer (some ⟨c2, 0, none⟩), .pointer (some ⟨c3, 0, none⟩)]] w fun e w' => e = .returned (.tuple #[]) ∧ w' = w := by
  go_enter Tryd.func53, Tryd.ntmps53
  go_wp2_with fail
  go_loopw [6] (fun t wr => t = .int .i64 0 ∧ wr = w) (fun t _ => 0)
  case atStart => exact ⟨by simp, rfl⟩
  case round =>
    obtain ⟨rfl, rfl⟩ := hrel
    go_wp2_with fail
    go_end0
    exact ⟨rfl, rfl⟩

end Go.Proofs.YtkfglbmhpdcfpaaDoor

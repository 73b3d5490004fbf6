/-
  Texts Num3, NumIs of the proof.
-/
import Derived.Lib.ItoaNum
import Derived.Test.YtipjmmhlfmahbaaGreatDoorP4

namespace Go.Proofs.YtipjmmhlfmahbaaGreatDoor
open Go.ChangeShapes Go.WideShapes Go.ChangeAt Go.RowKit
set_option linter.unusedVariables false
set_option linter.unusedSimpArgs false

set_option maxHeartbeats 400000 in
theorem shr_w {ah al k : Int} {a : Nat} (ha : IsNum ah al a) (k0 : 0 ≤ k) (k1 : k < 128) (w : World) :
    Calls Tryz.prog 91 #[nv ah al, .int .i64 k] w fun e w' => ∃ h l, e = .returned (nv h l) ∧ IsNum h l (a / 2 ^ k.toNat) ∧ Below w.heap.size w w' := by
  have k2 : ¬ k < 0 := by omega
  go_enter Tryz.func91, Tryz.ntmps91
  go_wp2_with fail
  refine (out_no k (by omega) k1 _).mono ?_
  rintro e w1 ⟨rfl, hb1⟩
  obtain ⟨hc1, hf1⟩ := bcell hb1
  have hz1 : w.heap.size + 1 < w1.heap.size := by have := hb1.size; simp at this; omega
  go_wp2_with fail
  refine (right_c ha k0 k1 _).mono ?_
  rintro e w2 ⟨h, l, rfl, hn, hb2⟩
  obtain ⟨hc2, hf2⟩ := bcell hb2
  have hz2 : w.heap.size + 1 < w2.heap.size := by have := hb2.size; omega
  go_wp2
  refine bodyPost_ret (v := nv h l) (by simp [results, Tryz.results91, go_sem, hc2, hz2, hc1, hz1]) rfl ⟨h, l, rfl, hn, by repeat (first | with_reducible exact Below.refl _ _ | with_reducible refine Below.drew ?_ | with_reducible refine Below.alloc ?_ (by first | omega | (simp <;> omega)) _ | with_reducible refine Below.setCell ?_ (by first | omega | (simp <;> omega)) _ | with_reducible refine Below.trans ?_ (Below.mono hb2 (by first | omega | (simp <;> omega))) | with_reducible refine Below.trans ?_ (Below.mono hb1 (by first | omega | (simp <;> omega))))⟩

set_option maxHeartbeats 400000 in
theorem shl_out {ah al k : Int} (k1 : 128 ≤ k) (w : World) :
    Calls Tryz.prog 58 #[nv ah al, .int .i64 k] w fun e w' => e = .returned (nv 0 0) ∧ Below w.heap.size w w' := by
  go_enter Tryz.func58, Tryz.ntmps58
  go_wp2_with fail
  refine (out_yes k (by omega) _).mono ?_
  rintro e w1 ⟨rfl, hb1⟩
  obtain ⟨hc1, hf1⟩ := bcell hb1
  have hz1 : w.heap.size + 1 < w1.heap.size := by have := hb1.size; simp at this; omega
  go_wp2
  refine bodyPost_ret (v := nv 0 0) (by simp [results, Tryz.results58, go_sem, hc1, hz1]) rfl ⟨rfl, by repeat (first | with_reducible exact Below.refl _ _ | with_reducible refine Below.drew ?_ | with_reducible refine Below.alloc ?_ (by first | omega | (simp <;> omega)) _ | with_reducible refine Below.setCell ?_ (by first | omega | (simp <;> omega)) _ | with_reducible refine Below.trans ?_ (Below.mono hb1 (by first | omega | (simp <;> omega))))⟩

/-- Shl: a times 2^k, modulo 2^128, for k of 0 and more. -/
theorem shl_c {ah al k : Int} {a : Nat} (ha : IsNum ah al a) (k0 : 0 ≤ k) (w : World) :
    Calls Tryz.prog 58 #[nv ah al, .int .i64 k] w fun e w' => ∃ h l, e = .returned (nv h l) ∧ IsNum h l (a * 2 ^ k.toNat % 340282366920938463463374607431768211456) ∧ Below w.heap.size w w' := by
  by_cases k1 : k < 128
  · exact shl_w ha k0 k1 w
  · refine (shl_out (by omega) w).mono fun e w' ⟨he, hb⟩ => ⟨0, 0, he, ?_, hb⟩
    have : a * 2 ^ k.toNat % 340282366920938463463374607431768211456 = 0 := by
      obtain ⟨j, hj⟩ : ∃ j, k.toNat = 128 + j := ⟨k.toNat - 128, by omega⟩
      rw [hj, Nat.pow_add, show 2 ^ 128 = 340282366920938463463374607431768211456 by decide, Nat.mul_left_comm, Nat.mul_mod_right]
    rw [this]
    exact ⟨by omega, by omega, by omega, by omega, by omega⟩

theorem ones_arith (k : Nat) (hk : 1 ≤ k) : 340282366920938463463374607431768211455 - (340282366920938463463374607431768211455 * 2 ^ k % 340282366920938463463374607431768211456) = 2 ^ (min k 128) - 1 := by
  by_cases h : k < 128
  · rw [Nat.min_eq_left (by omega)]
    have p : 2 ^ k * 2 ^ (128 - k) = 340282366920938463463374607431768211456 := by rw [← Nat.pow_add, show k + (128 - k) = 128 by omega]
    have q : 2 ≤ 2 ^ (128 - k) := by
      obtain ⟨j, hj⟩ : ∃ j, 128 - k = j + 1 := ⟨127 - k, by omega⟩
      rw [hj, Nat.pow_succ]; have := pow_pos2 j; omega
    have r := pow_pos2 k
    have s : 2 ^ k * 2 ≤ 2 ^ k * 2 ^ (128 - k) := Nat.mul_le_mul_left _ q
    generalize 2 ^ k = x at *
    rw [p] at s
    have : 340282366920938463463374607431768211455 * x % 340282366920938463463374607431768211456 = 340282366920938463463374607431768211456 - x := by omega
    rw [this]; omega
  · rw [Nat.min_eq_right (by omega)]
    obtain ⟨j, hj⟩ : ∃ j, k = 128 + j := ⟨k - 128, by omega⟩
    rw [hj, Nat.pow_add, show 2 ^ 128 = 340282366920938463463374607431768211456 by decide, Nat.mul_left_comm, Nat.mul_mod_right]

set_option maxHeartbeats 400000 in
/-- Ones: 2^k - 1. -/
theorem ones_c (k : Int) (w : World) :
    Calls Tryz.prog 62 #[.int .i64 k] w fun e w' => ∃ h l, e = .returned (nv h l) ∧ IsNum h l (2 ^ (min k.toNat 128) - 1) ∧ Below w.heap.size w w' := by
  have z : IsNum 0 0 0 := ⟨by omega, by omega, by omega, by omega, by omega⟩
  by_cases k1 : k < 1
  · go_enter Tryz.func62, Tryz.ntmps62
    go_wp2
    refine bodyPost_ret (v := nv 0 0) (by simp [results, Tryz.results62, go_sem]) rfl ⟨0, 0, rfl, ?_, by repeat (first | with_reducible exact Below.refl _ _ | with_reducible refine Below.drew ?_ | with_reducible refine Below.alloc ?_ (by first | omega | (simp <;> omega)) _ | with_reducible refine Below.setCell ?_ (by first | omega | (simp <;> omega)) _)⟩
    rw [show k.toNat = 0 by omega]; exact z
  · have k2 : 1 ≤ k := by omega
    clear k1
    go_enter Tryz.func62, Tryz.ntmps62
    go_wp2_with fail
    refine (not_c z _).mono ?_
    rintro e w1 ⟨h1, l1, rfl, hn1, hb1⟩
    obtain ⟨hc1, hf1⟩ := bcell hb1
    have hz1 : w.heap.size < w1.heap.size := by have := hb1.size; simp at this; omega
    go_wp2_with fail
    refine (shl_c hn1 (by omega) _).mono ?_
    rintro e w2 ⟨h2, l2, rfl, hn2, hb2⟩
    obtain ⟨hc2, hf2⟩ := bcell hb2
    have hz2 : w.heap.size < w2.heap.size := by have := hb2.size; omega
    go_wp2_with fail
    refine (not_c hn2 _).mono ?_
    rintro e w3 ⟨h3, l3, rfl, hn3, hb3⟩
    obtain ⟨hc3, hf3⟩ := bcell hb3
    have hz3 : w.heap.size < w3.heap.size := by have := hb3.size; omega
    go_wp2
    refine bodyPost_ret (v := nv h3 l3) (by simp [results, Tryz.results62, go_sem, hc3, hz3, hc2, hz2, hc1, hz1]) rfl ⟨h3, l3, rfl, hn3.cast (ones_arith k.toNat (by omega)), by repeat (first | with_reducible exact Below.refl _ _ | with_reducible refine Below.drew ?_ | with_reducible refine Below.alloc ?_ (by first | omega | (simp <;> omega)) _ | with_reducible refine Below.setCell ?_ (by first | omega | (simp <;> omega)) _ | with_reducible refine Below.trans ?_ (Below.mono hb3 (by first | omega | (simp <;> omega))) | with_reducible refine Below.trans ?_ (Below.mono hb2 (by first | omega | (simp <;> omega))) | with_reducible refine Below.trans ?_ (Below.mono hb1 (by first | omega | (simp <;> omega))))⟩

theorem len_uniq {x n m : Nat} (h1 : 2 ^ (n - 1) ≤ x) (h2 : x < 2 ^ n) (k1 : 2 ^ (m - 1) ≤ x) (k2 : x < 2 ^ m) : n = m := by
  have a : n - 1 < m := (Nat.pow_lt_pow_iff_right (a := 2) (by decide)).1 (Nat.lt_of_le_of_lt h1 k2)
  have b : m - 1 < n := (Nat.pow_lt_pow_iff_right (a := 2) (by decide)).1 (Nat.lt_of_le_of_lt k1 h2)
  omega

theorem bitLen_lib (x : Nat) (h : x < 18446744073709551616) : Lib.bitLen x = Go.bitLen x := by
  by_cases h0 : x = 0
  · subst h0; rfl
  · obtain ⟨a, b, c⟩ := Lib.bitLenAux_bounds 64 x h h0
    obtain ⟨d, e⟩ := Go.bitLen_spec x
    exact len_uniq b c (e h0) d

theorem bitLen_le_of_lt {x k : Nat} (h : x < 2 ^ k) : Go.bitLen x ≤ k := by
  by_cases h0 : x = 0
  · subst h0; exact Nat.zero_le _
  · have := (Go.bitLen_spec x).2 h0
    have a : Go.bitLen x - 1 < k := (Nat.pow_lt_pow_iff_right (a := 2) (by decide)).1 (Nat.lt_of_le_of_lt this h)
    omega

set_option maxHeartbeats 400000 in
/-- Len: how many bits. -/
theorem len_c {ah al : Int} {a : Nat} (ha : IsNum ah al a) (w : World) :
    Calls Tryz.prog 57 #[nv ah al] w fun e w' => ∃ n : Int, e = .returned (.int .i64 n) ∧ n = (Go.bitLen a : Nat) ∧ Below w.heap.size w w' := by
  have a0 := ha.h0; have a1 := ha.h1; have a2 := ha.l0; have a3 := ha.l1
  by_cases hz : ah = 0
  · have hH : Hid (((Lib.bitLen al.toNat : Nat) : Int) = (Go.bitLen a : Nat)) := by
      have := ha.eq; rw [hz] at this
      show ((Lib.bitLen al.toNat : Nat) : Int) = (Go.bitLen a : Nat)
      rw [show al.toNat = a by omega, bitLen_lib a (by omega)]
    subst hz
    clear ha
    go_enter Tryz.func57, Tryz.ntmps57
    go_wp2_with (go_at_call 74; refine (Tryz.bits_Len64 _ _ (by omega) (by omega)).mono ?_; rintro e w' ⟨rfl, rfl⟩)
    go_ret
    exact ⟨_, rfl, hH.out, by repeat (first | with_reducible exact Below.refl _ _ | with_reducible refine Below.drew ?_ | with_reducible refine Below.alloc ?_ (by first | omega | (simp <;> omega)) _ | with_reducible refine Below.setCell ?_ (by first | omega | (simp <;> omega)) _)⟩
  · have hH : Hid (64 + ((Lib.bitLen ah.toNat : Nat) : Int) = (Go.bitLen a : Nat)) := by
      have := ha.eq
      have e : a / 2 ^ 64 = ah.toNat := by
        rw [show 2 ^ 64 = 18446744073709551616 by decide]; omega
      show 64 + ((Lib.bitLen ah.toNat : Nat) : Int) = (Go.bitLen a : Nat)
      rw [Go.bitLen_shift a 64 (by rw [e]; omega), e, bitLen_lib _ (by omega)]
      omega
    have hz' : (ah == 0) = false := by simpa using hz
    have hb : Lib.bitLen ah.toNat ≤ 64 := by rw [bitLen_lib _ (by omega)]; exact bitLen_le_of_lt (by rw [show 2 ^ 64 = 18446744073709551616 by decide]; omega)
    clear ha hz
    go_enter Tryz.func57, Tryz.ntmps57
    go_wp2_with (go_at_call 74; refine (Tryz.bits_Len64 _ _ (by omega) (by omega)).mono ?_; rintro e w' ⟨rfl, rfl⟩)
    go_ret
    refine ⟨_, rfl, ?_, by repeat (first | with_reducible exact Below.refl _ _ | with_reducible refine Below.drew ?_ | with_reducible refine Below.alloc ?_ (by first | omega | (simp <;> omega)) _ | with_reducible refine Below.setCell ?_ (by first | omega | (simp <;> omega)) _)⟩
    exact hH.out

/-- -1, 0 or 1. -/
def cmpI (x y : Int) : Int := if x < y then -1 else if x = y then 0 else 1

theorem cmpI_lt {x y : Int} (h : x < y) : cmpI x y = -1 := if_pos h

theorem cmpI_eq {x y : Int} (h : x = y) : cmpI x y = 0 := by unfold cmpI; rw [if_neg (by omega : ¬ x < y), if_pos h]

theorem cmpI_gt {x y : Int} (h : y < x) : cmpI x y = 1 := by unfold cmpI; rw [if_neg (by omega : ¬ x < y), if_neg (by omega : ¬ x = y)]

set_option maxHeartbeats 400000 in
theorem compare_c (x y : Int) (w : World) :
    Calls Tryz.prog 36 #[.int .u64 x, .int .u64 y] w fun e w' => ∃ n : Int, e = .returned (.int .i64 n) ∧ n = cmpI x y ∧ Below w.heap.size w w' := by
  by_cases h : x < y
  · have h2 : ¬ y < x := by omega
    have f : Hid (cmpI x y = -1) := if_pos h
    go_enter Tryz.func36, Tryz.ntmps36
    go_wp2
    go_ret
    exact ⟨_, rfl, f.out.symm, by repeat (first | with_reducible exact Below.refl _ _ | with_reducible refine Below.drew ?_ | with_reducible refine Below.alloc ?_ (by first | omega | (simp <;> omega)) _ | with_reducible refine Below.setCell ?_ (by first | omega | (simp <;> omega)) _)⟩
  · by_cases h2 : y < x
    · have f : Hid (cmpI x y = 1) := cmpI_gt h2
      go_enter Tryz.func36, Tryz.ntmps36
      go_wp2
      go_ret
      exact ⟨_, rfl, f.out.symm, by repeat (first | with_reducible exact Below.refl _ _ | with_reducible refine Below.drew ?_ | with_reducible refine Below.alloc ?_ (by first | omega | (simp <;> omega)) _ | with_reducible refine Below.setCell ?_ (by first | omega | (simp <;> omega)) _)⟩
    · have f : Hid (cmpI x y = 0) := cmpI_eq (by omega)
      go_enter Tryz.func36, Tryz.ntmps36
      go_wp2
      go_ret
      exact ⟨_, rfl, f.out.symm, by repeat (first | with_reducible exact Below.refl _ _ | with_reducible refine Below.drew ?_ | with_reducible refine Below.alloc ?_ (by first | omega | (simp <;> omega)) _ | with_reducible refine Below.setCell ?_ (by first | omega | (simp <;> omega)) _)⟩

set_option maxHeartbeats 400000 in
/-- Cmp: which one is less. -/
theorem cmp_c {ah al bh bl : Int} {a b : Nat} (ha : IsNum ah al a) (hb : IsNum bh bl b) (w : World) :
    Calls Tryz.prog 14 #[nv ah al, nv bh bl] w fun e w' => ∃ n : Int, e = .returned (.int .i64 n) ∧ n = cmpI (a : Int) (b : Int) ∧ Below w.heap.size w w' := by
  have a2 := ha.l0; have a3 := ha.l1; have a4 := ha.eq
  have b2 := hb.l0; have b3 := hb.l1; have b4 := hb.eq
  by_cases h : ah = bh
  · have f : Hid (cmpI al bl = cmpI (a : Int) (b : Int)) := by
      show cmpI al bl = cmpI (a : Int) (b : Int)
      rcases Int.lt_trichotomy al bl with c | c | c
      · rw [cmpI_lt c, cmpI_lt (by omega)]
      · rw [cmpI_eq c, cmpI_eq (by omega)]
      · rw [cmpI_gt c, cmpI_gt (by omega)]
    subst h
    clear a4 b4 ha hb
    go_enter Tryz.func14, Tryz.ntmps14
    go_wp2_with fail
    refine (compare_c _ _ _).mono ?_
    rintro e w1 ⟨n, rfl, hn0, hb1⟩
    have hn : Hid (n = cmpI al bl) := hn0
    clear hn0
    go_wp2
    go_ret
    exact ⟨_, rfl, hn.out.trans f.out, by repeat (first | with_reducible exact Below.refl _ _ | with_reducible refine Below.drew ?_ | with_reducible refine Below.alloc ?_ (by first | omega | (simp <;> omega)) _ | with_reducible refine Below.setCell ?_ (by first | omega | (simp <;> omega)) _ | with_reducible refine Below.trans ?_ (Below.mono hb1 (by first | omega | (simp <;> omega))))⟩
  · have f : Hid (cmpI ah bh = cmpI (a : Int) (b : Int)) := by
      show cmpI ah bh = cmpI (a : Int) (b : Int)
      rcases Int.lt_trichotomy ah bh with c | c | c
      · rw [cmpI_lt c, cmpI_lt (by omega)]
      · exact absurd c h
      · rw [cmpI_gt c, cmpI_gt (by omega)]
    have h' : (ah != bh) = true := by simpa using h
    clear a4 b4 ha hb h
    go_enter Tryz.func14, Tryz.ntmps14
    go_wp2_with fail
    refine (compare_c _ _ _).mono ?_
    rintro e w1 ⟨n, rfl, hn0, hb1⟩
    have hn : Hid (n = cmpI ah bh) := hn0
    clear hn0
    go_wp2
    go_ret
    exact ⟨_, rfl, hn.out.trans f.out, by repeat (first | with_reducible exact Below.refl _ _ | with_reducible refine Below.drew ?_ | with_reducible refine Below.alloc ?_ (by first | omega | (simp <;> omega)) _ | with_reducible refine Below.setCell ?_ (by first | omega | (simp <;> omega)) _ | with_reducible refine Below.trans ?_ (Below.mono hb1 (by first | omega | (simp <;> omega))))⟩

theorem mul_c {x y : Int} (x0 : 0 ≤ x) (x1 : x < 18446744073709551616) (y0 : 0 ≤ y) (y1 : y < 18446744073709551616) (w : World) :
    Calls Tryz.prog 59 #[.int .u64 x, .int .u64 y] w fun e w' => ∃ h l : Int, e = .returned (.tuple #[.int .u64 h, .int .u64 l]) ∧ 0 ≤ h ∧ h < 18446744073709551616 ∧ 0 ≤ l ∧ l < 18446744073709551616 ∧ Hid (h * 18446744073709551616 + l = x * y) ∧ w' = w := by
  obtain ⟨X, rfl⟩ := Int.eq_ofNat_of_zero_le x0
  obtain ⟨Y, rfl⟩ := Int.eq_ofNat_of_zero_le y0
  refine (Tryz.bits_Mul64 X Y (by omega) (by omega) w).mono ?_
  rintro e w' ⟨rfl, rfl⟩
  have hX : X ≤ 18446744073709551615 := by omega
  have hY : Y ≤ 18446744073709551615 := by omega
  have : X * Y ≤ 18446744073709551615 * 18446744073709551615 := Nat.mul_le_mul hX hY
  have c : (X : Int) * (Y : Int) = ((X * Y : Nat) : Int) := by simp
  refine ⟨_, _, rfl, by omega, ?_, by omega, ?_, ?_, rfl⟩
  · generalize X * Y = z at *; omega
  · generalize X * Y = z at *; omega
  · show _ = _
    rw [c]
    generalize X * Y = z at *; omega

set_option maxHeartbeats 400000 in
/-- Times: the product modulo 2^128, and whether it is the true one. -/
theorem times_c {ah al k : Int} {a : Nat} (ha : IsNum ah al a) (k0 : 0 ≤ k) (k1 : k < 18446744073709551616) (w : World) :
    Calls Tryz.prog 34 #[nv ah al, .int .u64 k] w fun e w' => ∃ h l b, e = .returned (.tuple #[nv h l, .bool b]) ∧ b = decide (a * k.toNat < 340282366920938463463374607431768211456) ∧ IsNum h l (a * k.toNat % 340282366920938463463374607431768211456) ∧ Below w.heap.size w w' := by
  obtain ⟨a0, a1, a2, a3, a4⟩ := ha
  have a5 : Hid (((a * k.toNat : Nat) : Int) = ah * k * 18446744073709551616 + al * k) := by
    show ((a * k.toNat : Nat) : Int) = ah * k * 18446744073709551616 + al * k
    rw [Int.natCast_mul, ← a4, Int.toNat_of_nonneg k0, Int.add_mul, Int.mul_right_comm]
  clear a4
  generalize a * k.toNat = t at *
  have hc := run_Add64
  go_enter Tryz.func34, Tryz.ntmps34
  go_wp2_with fail
  refine (mul_c a2 a3 k0 k1 _).mono ?_
  rintro e w1 ⟨ph, pl, rfl, p0, p1, p2, p3, P, rfl⟩
  go_wp2_with fail
  refine (mul_c a0 a1 k0 k1 _).mono ?_
  rintro e w1 ⟨qh, ql, rfl, q0, q1, q2, q3, Q, rfl⟩
  go_wp2
  · have a6 := a5.out
    have P1 := P.out
    have Q1 := Q.out
    rw [← P1, ← Q1] at a6
    refine bodyPost_ret (v := .tuple #[nv ((ql + ph) % 18446744073709551616) pl, .bool ((ql + ph) / 18446744073709551616 == 0)]) (by simp [results, Tryz.results34, go_sem]) rfl ⟨_, _, _, rfl, ?_, ⟨by omega, by omega, by omega, by omega, by omega⟩, by repeat (first | with_reducible exact Below.refl _ _ | with_reducible refine Below.drew ?_ | with_reducible refine Below.alloc ?_ (by first | omega | (simp <;> omega)) _ | with_reducible refine Below.setCell ?_ (by first | omega | (simp <;> omega)) _)⟩
    rw [Bool.eq_iff_iff]; simp only [beq_iff_eq, decide_eq_true_eq]; omega
  · have a6 := a5.out
    have P1 := P.out
    have Q1 := Q.out
    rw [← P1, ← Q1] at a6
    refine bodyPost_ret (v := .tuple #[nv ((ql + ph) % 18446744073709551616) pl, .bool false]) (by simp [results, Tryz.results34, go_sem]) rfl ⟨_, _, _, rfl, ?_, ⟨by omega, by omega, by omega, by omega, by omega⟩, by repeat (first | with_reducible exact Below.refl _ _ | with_reducible refine Below.drew ?_ | with_reducible refine Below.alloc ?_ (by first | omega | (simp <;> omega)) _ | with_reducible refine Below.setCell ?_ (by first | omega | (simp <;> omega)) _)⟩
    rw [eq_comm, decide_eq_false_iff_not]; omega

end Go.Proofs.YtipjmmhlfmahbaaGreatDoor

namespace Go.Proofs.YtipjmmhlfmahbaaGreatDoor
open Go.ChangeShapes Go.WideShapes Go.ChangeAt Go.RowKit
set_option linter.unusedVariables false
set_option linter.unusedSimpArgs false

/-- Block b holds the two words h, l. -/
def Two (w : World) (b : Nat) (h l : Int) : Prop := w.cell? ⟨b, 0, none⟩ = some (.int .u64 h) ∧ w.cell? ⟨b, 1, none⟩ = some (.int .u64 l) ∧ b < w.heap.size

theorem Two.below {W w1 : World} {b : Nat} {h l : Int} (x : Two W b h l) (hb : Below W.heap.size W w1) : Two w1 b h l :=
  ⟨(hb.cell (p := ⟨b, 0, none⟩) x.2.2).trans x.1, (hb.cell (p := ⟨b, 1, none⟩) x.2.2).trans x.2.1, Nat.lt_of_lt_of_le x.2.2 hb.size⟩

theorem Two.alloc {W : World} {b : Nat} {h l : Int} (x : Two W b h l) (o : Obj) : Two (W.alloc o) b h l :=
  ⟨(World.cell?_alloc_lt _ _ _ x.2.2).trans x.1, (World.cell?_alloc_lt _ _ _ x.2.2).trans x.2.1, by have := x.2.2; simp; omega⟩

theorem Two.drew {W : World} {b : Nat} {h l : Int} (x : Two W b h l) : Two W.drew b h l := x

theorem Two.new (W : World) (h l : Int) (t : TypeId) : Two (W.alloc (.cells #[.int .u64 h, .int .u64 l] t)) W.heap.size h l :=
  ⟨by simp, by simp, by simp⟩

theorem Two.via {W W0 w1 : World} {b : Nat} {h l : Int} (hb : Below W.heap.size W w1) (x : Two W0 b h l) (e : W.heap = W0.heap) : Two w1 b h l := by
  refine Two.below (W := W) ?_ hb
  obtain ⟨x0, x1, x2⟩ := x
  refine ⟨?_, ?_, ?_⟩
  · rw [← x0]; simp only [World.cell?, e]
  · rw [← x1]; simp only [World.cell?, e]
  · rw [e]; exact x2

theorem Below.via {w W W0 w1 : World} {B : Nat} (hb : Below W.heap.size W w1) (h : Below B w W0) (hB : B ≤ w.heap.size) (e : W.heap = W0.heap) (e1 : W.os = W0.os) (e2 : W.tape = W0.tape) (e3 : W.output = W0.output) : Below B w w1 := by
  have h' : Below B w W := ⟨e1.trans h.os, e2.trans h.tape, e3.trans h.output, by rw [e]; exact h.size, by rw [e]; exact h.block⟩
  exact h'.trans (hb.mono (Nat.le_trans hB h'.size))

theorem Two.put {w : World} {b : Nat} {h l : Int} (c0 : (w.cell? ⟨b, 0, none⟩).isSome = true) (c1 : (w.cell? ⟨b, 1, none⟩).isSome = true) (hb : b < w.heap.size) :
    Two ((w.setCell ⟨b, 0, none⟩ (.int .u64 h)).setCell ⟨b, 1, none⟩ (.int .u64 l)) b h l := by
  refine ⟨?_, ?_, by simpa [World.setCell] using hb⟩
  · rw [World.cell?_setCell_other _ _ _ _ (by simp), World.cell?_setCell_same' _ _ _ c0]
  · rw [World.cell?_setCell_same' _ _ _ (by rw [World.cell?_setCell_other _ _ _ _ (by simp)]; exact c1)]

theorem Two.far {w : World} {b c : Nat} {h l : Int} {u v : Value} (x : Two w b h l) (hbc : b ≠ c) : Two ((w.setCell ⟨c, 0, none⟩ u).setCell ⟨c, 1, none⟩ v) b h l := by
  obtain ⟨x0, x1, x2⟩ := x
  refine ⟨?_, ?_, by simpa [World.setCell] using x2⟩
  · rw [World.cell?_setCell_other _ _ _ _ (by simp [Ne.symm hbc]), World.cell?_setCell_other _ _ _ _ (by simp [Ne.symm hbc]), x0]
  · rw [World.cell?_setCell_other _ _ _ _ (by simp [Ne.symm hbc]), World.cell?_setCell_other _ _ _ _ (by simp [Ne.symm hbc]), x1]

theorem IsNum.ex {n : Nat} (h : n < 340282366920938463463374607431768211456) : ∃ a b : Int, IsNum a b n :=
  ⟨((n / 18446744073709551616 : Nat) : Int), ((n % 18446744073709551616 : Nat) : Int), (IsNum.ofNat (by omega) (by omega)).cast (by omega)⟩

theorem not_is {ah al h l : Int} {a : Nat} (ha : IsNum ah al a) (hr : IsNum h l (340282366920938463463374607431768211455 - a)) (w : World) :
    Calls Tryz.prog 51 #[nv ah al] w fun e w' => e = .returned (nv h l) ∧ Below w.heap.size w w' := by
  refine (not_c ha w).mono ?_
  rintro e w' ⟨h', l', rfl, hn, hb⟩
  obtain ⟨rfl, rfl⟩ := hn.uniq hr
  exact ⟨rfl, hb⟩

theorem shl_is {ah al k h l : Int} {a : Nat} (ha : IsNum ah al a) (k0 : 0 ≤ k) (hr : IsNum h l (a * 2 ^ k.toNat % 340282366920938463463374607431768211456)) (w : World) :
    Calls Tryz.prog 58 #[nv ah al, .int .i64 k] w fun e w' => e = .returned (nv h l) ∧ Below w.heap.size w w' := by
  refine (shl_c ha k0 w).mono ?_
  rintro e w' ⟨h', l', rfl, hn, hb⟩
  obtain ⟨rfl, rfl⟩ := hn.uniq hr
  exact ⟨rfl, hb⟩

theorem len_is {ah al n : Int} {a : Nat} (ha : IsNum ah al a) (hn : n = (Go.bitLen a : Nat)) (w : World) :
    Calls Tryz.prog 57 #[nv ah al] w fun e w' => e = .returned (.int .i64 n) ∧ Below w.heap.size w w' := by
  refine (len_c ha w).mono ?_
  rintro e w' ⟨n', rfl, rfl, hb⟩
  exact ⟨by rw [hn], hb⟩

end Go.Proofs.YtipjmmhlfmahbaaGreatDoor

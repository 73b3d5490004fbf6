/-
  Texts AddrA, AddrC of the proof.
-/
import Derived.Deep.RegionWith
import Derived.Test.YtipjmmhlfmahbaaGreatDoorP5

namespace Go.Proofs.YtipjmmhlfmahbaaGreatDoor
open Go.ChangeShapes Go.WideShapes Go.ChangeAt Go.RowKit
set_option linter.unusedVariables false
set_option linter.unusedSimpArgs false

/-- An address as a value: whether it is a long one, and the two words of its number. -/
abbrev av (v : Bool) (hi lo : Int) : Value := .agg #[.bool v, .int .u64 hi, .int .u64 lo]

/-- May it be? -/
def okA (v : Bool) (n : Nat) : Bool := v || decide (n < 4294967296)

/-- How many bits it has. -/
def widthA (v : Bool) : Int := if v then 128 else 32

set_option maxHeartbeats 400000 in
theorem or_w (ah al bh bl : Int) (w : World) :
    Calls Tryz.prog 52 #[nv ah al, nv bh bl] w fun e w' => e = .returned (nv (bits .or .u64 ah bh) (bits .or .u64 al bl)) ∧ Below w.heap.size w w' := by
  go_enter Tryz.func52, Tryz.ntmps52
  go_wp2
  exact bodyPost_ret (v := nv (bits .or .u64 ah bh) (bits .or .u64 al bl)) (by simp [results, Tryz.results52, go_sem]) rfl ⟨rfl, by repeat (first | with_reducible exact Below.refl _ _ | with_reducible refine Below.drew ?_ | with_reducible refine Below.alloc ?_ (by first | omega | (simp <;> omega)) _ | with_reducible refine Below.setCell ?_ (by first | omega | (simp <;> omega)) _)⟩

set_option maxHeartbeats 400000 in
theorem and_w (ah al bh bl : Int) (w : World) :
    Calls Tryz.prog 38 #[nv ah al, nv bh bl] w fun e w' => e = .returned (nv (bits .and .u64 ah bh) (bits .and .u64 al bl)) ∧ Below w.heap.size w w' := by
  go_enter Tryz.func38, Tryz.ntmps38
  go_wp2
  exact bodyPost_ret (v := nv (bits .and .u64 ah bh) (bits .and .u64 al bl)) (by simp [results, Tryz.results38, go_sem]) rfl ⟨rfl, by repeat (first | with_reducible exact Below.refl _ _ | with_reducible refine Below.drew ?_ | with_reducible refine Below.alloc ?_ (by first | omega | (simp <;> omega)) _ | with_reducible refine Below.setCell ?_ (by first | omega | (simp <;> omega)) _)⟩

theorem or_words (H L K M : Nat) (hL : L < 18446744073709551616) (hM : M < 18446744073709551616) : (H * 18446744073709551616 + L) ||| (K * 18446744073709551616 + M) = (H ||| K) * 18446744073709551616 + (L ||| M) := by
  have e : (18446744073709551616 : Nat) = 2 ^ 64 := by decide
  rw [e] at *
  have o : L ||| M < 2 ^ 64 := Nat.or_lt_two_pow hL hM
  apply Nat.eq_of_testBit_eq
  intro i
  rw [Nat.testBit_or, Nat.mul_comm H, Nat.mul_comm K, Nat.mul_comm (H ||| K), Nat.testBit_two_pow_mul_add _ hL, Nat.testBit_two_pow_mul_add _ hM, Nat.testBit_two_pow_mul_add _ o]
  split <;> simp [Nat.testBit_or]

theorem and_words (H L K M : Nat) (hL : L < 18446744073709551616) (hM : M < 18446744073709551616) : (H * 18446744073709551616 + L) &&& (K * 18446744073709551616 + M) = (H &&& K) * 18446744073709551616 + (L &&& M) := by
  have e : (18446744073709551616 : Nat) = 2 ^ 64 := by decide
  rw [e] at *
  have o : L &&& M < 2 ^ 64 := Nat.lt_of_le_of_lt Nat.and_le_left hL
  apply Nat.eq_of_testBit_eq
  intro i
  rw [Nat.testBit_and, Nat.mul_comm H, Nat.mul_comm K, Nat.mul_comm (H &&& K), Nat.testBit_two_pow_mul_add _ hL, Nat.testBit_two_pow_mul_add _ hM, Nat.testBit_two_pow_mul_add _ o]
  split <;> simp [Nat.testBit_and]

theorem or_c {ah al bh bl : Int} {a b : Nat} (ha : IsNum ah al a) (hb : IsNum bh bl b) (w : World) :
    Calls Tryz.prog 52 #[nv ah al, nv bh bl] w fun e w' => ∃ h l, e = .returned (nv h l) ∧ IsNum h l (a ||| b) ∧ Below w.heap.size w w' := by
  obtain ⟨H, L, rfl, rfl, hH, hL, rfl⟩ := ha.nat
  obtain ⟨K, M, rfl, rfl, hK, hM, rfl⟩ := hb.nat
  refine (or_w H L K M w).mono fun e w' ⟨he, hb⟩ => ⟨_, _, he, ?_, hb⟩
  rw [bits_or_u64_nat _ _ hH hK, bits_or_u64_nat _ _ hL hM, or_words _ _ _ _ hL hM]
  exact IsNum.ofNat (Nat.or_lt_two_pow (n := 64) hH hK) (Nat.or_lt_two_pow (n := 64) hL hM)

theorem and_c {ah al bh bl : Int} {a b : Nat} (ha : IsNum ah al a) (hb : IsNum bh bl b) (w : World) :
    Calls Tryz.prog 38 #[nv ah al, nv bh bl] w fun e w' => ∃ h l, e = .returned (nv h l) ∧ IsNum h l (a &&& b) ∧ Below w.heap.size w w' := by
  obtain ⟨H, L, rfl, rfl, hH, hL, rfl⟩ := ha.nat
  obtain ⟨K, M, rfl, rfl, hK, hM, rfl⟩ := hb.nat
  refine (and_w H L K M w).mono fun e w' ⟨he, hb⟩ => ⟨_, _, he, ?_, hb⟩
  rw [bits_and_u64_nat _ _ hH hK, bits_and_u64_nat _ _ hL hM, and_words _ _ _ _ hL hM]
  exact IsNum.ofNat (Nat.lt_of_le_of_lt Nat.and_le_left hH) (Nat.lt_of_le_of_lt Nat.and_le_left hL)

theorem or_is {ah al bh bl h l : Int} {a b : Nat} (ha : IsNum ah al a) (hb : IsNum bh bl b) (hr : IsNum h l (a ||| b)) (w : World) :
    Calls Tryz.prog 52 #[nv ah al, nv bh bl] w fun e w' => e = .returned (nv h l) ∧ Below w.heap.size w w' := by
  refine (or_c ha hb w).mono ?_
  rintro e w' ⟨h', l', rfl, hn, hb⟩
  obtain ⟨rfl, rfl⟩ := hn.uniq hr
  exact ⟨rfl, hb⟩

theorem ones_is {k h l : Int} (hr : IsNum h l (2 ^ (min k.toNat 128) - 1)) (w : World) :
    Calls Tryz.prog 62 #[.int .i64 k] w fun e w' => e = .returned (nv h l) ∧ Below w.heap.size w w' := by
  refine (ones_c k w).mono ?_
  rintro e w' ⟨h', l', rfl, hn, hb⟩
  obtain ⟨rfl, rfl⟩ := hn.uniq hr
  exact ⟨rfl, hb⟩

set_option maxHeartbeats 400000 in
theorem width_c (v : Bool) (h l : Int) (w : World) :
    Calls Tryz.prog 16 #[av v h l] w fun e w' => e = .returned (.int .i64 (widthA v)) ∧ Below w.heap.size w w' := by
  cases v
  · go_enter Tryz.func16, Tryz.ntmps16
    go_wp2
    go_ret
    exact ⟨rfl, by repeat (first | with_reducible exact Below.refl _ _ | with_reducible refine Below.drew ?_ | with_reducible refine Below.alloc ?_ (by first | omega | (simp <;> omega)) _ | with_reducible refine Below.setCell ?_ (by first | omega | (simp <;> omega)) _)⟩
  · go_enter Tryz.func16, Tryz.ntmps16
    go_wp2
    go_ret
    exact ⟨rfl, by repeat (first | with_reducible exact Below.refl _ _ | with_reducible refine Below.drew ?_ | with_reducible refine Below.alloc ?_ (by first | omega | (simp <;> omega)) _ | with_reducible refine Below.setCell ?_ (by first | omega | (simp <;> omega)) _)⟩

theorem right_math {v : Bool} {a : Nat} (ha : a < 340282366920938463463374607431768211456) : decide (((Go.bitLen a : Nat) : Int) ≤ widthA v) = okA v a := by
  have l1 : Go.bitLen a ≤ 128 := bitLen_le_of_lt (by rw [show (2 : Nat) ^ 128 = 340282366920938463463374607431768211456 by decide]; exact ha)
  cases v
  · simp only [widthA, okA, Bool.false_or]
    rw [Bool.eq_iff_iff]
    simp only [decide_eq_true_eq, Bool.false_eq_true, if_false]
    constructor
    · intro h
      have b : Go.bitLen a ≤ 32 := by omega
      have := (Go.bitLen_spec a).1
      have p : 2 ^ Go.bitLen a ≤ 2 ^ 32 := Nat.pow_le_pow_right (by decide) b
      have q : (2 : Nat) ^ 32 = 4294967296 := by decide
      omega
    · intro h
      have := bitLen_le_of_lt (x := a) (k := 32) (by rw [show (2 : Nat) ^ 32 = 4294967296 by decide]; exact h)
      omega
  · simp only [widthA, okA, Bool.true_or, if_true]
    simpa using (by omega : ((Go.bitLen a : Nat) : Int) ≤ 128)

set_option maxHeartbeats 800000 in
/-- Right: may it be? -/
theorem right_w {v : Bool} {h l n : Int} {a : Nat} (ha : IsNum h l a) (hn : n = (Go.bitLen a : Nat)) (w : World) :
    Calls Tryz.prog 43 #[av v h l] w fun e w' => e = .returned (.bool (decide (n ≤ widthA v))) ∧ Below w.heap.size w w' := by
  have hn' : Hid (n = (Go.bitLen a : Nat)) := hn
  clear hn
  go_enter Tryz.func43, Tryz.ntmps43
  go_wp2_with fail
  go_region_with (first | (go_at_call 57; refine (len_is ha hn'.out _).mono ?_; rintro e w3 ⟨rfl, hb3⟩; obtain ⟨hc3, hf3⟩ := bcell hb3; have hz3 : w.heap.size < w3.heap.size := by have := hb3.size; first | omega | (simp at this; omega)) | (go_at_call 16; refine (width_c v h l _).mono ?_; rintro e w4 ⟨rfl, hb4⟩; obtain ⟨hc4, hf4⟩ := bcell hb4; have hz4 : w.heap.size < w4.heap.size := by have := hb4.size; first | omega | (simp at this; omega)))
  all_goals
    go_wp2
    go_ret
    exact ⟨rfl, by repeat (first | with_reducible exact Below.refl _ _ | with_reducible refine Below.drew ?_ | with_reducible refine Below.alloc ?_ (by first | omega | (simp <;> omega)) _ | with_reducible refine Below.setCell ?_ (by first | omega | (simp <;> omega)) _ | with_reducible refine Below.trans ?_ (Below.mono hb4 (by first | omega | (simp <;> omega))) | with_reducible refine Below.trans ?_ (Below.mono hb3 (by first | omega | (simp <;> omega))))⟩

theorem aright_c {v : Bool} {h l : Int} {a : Nat} (ha : IsNum h l a) (w : World) :
    Calls Tryz.prog 43 #[av v h l] w fun e w' => e = .returned (.bool (okA v a)) ∧ Below w.heap.size w w' := by
  refine (right_w (v := v) ha rfl w).mono fun e w' ⟨he, hb⟩ => ⟨?_, hb⟩
  rw [he, right_math ha.lt]

end Go.Proofs.YtipjmmhlfmahbaaGreatDoor

namespace Go.Proofs.YtipjmmhlfmahbaaGreatDoor
open Go.ChangeShapes Go.WideShapes Go.ChangeAt Go.RowKit
set_option linter.unusedVariables false
set_option linter.unusedSimpArgs false

theorem width_lit (v : Bool) (W : Int) (hv : widthA v = W) (h l : Int) (w : World) :
    Calls Tryz.prog 16 #[av v h l] w fun e w' => e = .returned (.int .i64 W) ∧ Below w.heap.size w w' := hv ▸ width_c v h l w

theorem piece_fin {h l k K : Int} {a s S : Nat} (hn : IsNum h l ((a / 2 ^ k.toNat) &&& (2 ^ (min s 128) - 1))) (hk : k = K) (e : s = S) (hs : s ≤ 64) : l = ((a / 2 ^ K.toNat % 2 ^ S : Nat) : Int) := by
  subst hk e
  generalize a / 2 ^ k.toNat = m at *
  rw [Nat.min_eq_left (by omega), Nat.and_two_pow_sub_one_eq_mod] at hn
  have := hn.h0; have := hn.l0; have := hn.l1; have := hn.eq
  have md := Nat.mod_lt m (pow_pos2 s)
  have p : 2 ^ s ≤ 2 ^ 64 := Nat.pow_le_pow_right (by decide) hs
  rw [show (2 : Nat) ^ 64 = 18446744073709551616 by decide] at p
  omega

set_option maxHeartbeats 1600000 in
/-- piece: the bits of the group at that place, in groups of 8 or 16 bits. -/
theorem piece_w {v : Bool} {h l s t : Int} {a : Nat} (ha : IsNum h l a) (hs : s = 8 ∨ s = 16) (t0 : 0 ≤ t) (t1 : s * (t + 1) ≤ widthA v) (w : World) :
    Calls Tryz.prog 79 #[av v h l, .int .i64 s, .int .i64 t] w fun e w' => ∃ r : Int, e = .returned (.int .u64 r) ∧ Hid (r = ((a / 2 ^ (widthA v - s * (t + 1)).toNat % 2 ^ s.toNat : Nat) : Int)) ∧ Below w.heap.size w w' := by
  obtain ⟨W, hW, hW2⟩ : ∃ W, widthA v = W ∧ (W = 32 ∨ W = 128) := ⟨_, rfl, by cases v <;> simp [widthA]⟩
  have wd := fun w' => width_lit v W hW h l w'
  obtain ⟨K, hK⟩ : ∃ K, K = widthA v - s * (t + 1) := ⟨_, rfl⟩
  obtain ⟨S, hS⟩ : ∃ S, S = s.toNat := ⟨_, rfl⟩
  rw [← hK, ← hS]
  rw [hW] at t1 hK
  have hK' : Hid (K = W - s * (t + 1)) := hK
  have hS' : Hid (S = s.toNat) := hS
  clear hW hK hS
  rcases hW2 with rfl | rfl <;> rcases hs with rfl | rfl
  all_goals
    have t2 : t ≤ 15 := by omega
    go_enter Tryz.func79, Tryz.ntmps79
    go_wp2_with fail
    refine (wd _).mono ?_
    rintro e w1 ⟨rfl, hb1⟩
    obtain ⟨hc1, hf1⟩ := bcell hb1
    have hz_w1_0 : w.heap.size < w1.heap.size   := (by have := hb1.size; first | omega | (simp at this; omega))
    clear wd
    go_wp2_with fail
    refine (shr_w ha (by omega) (by omega) _).mono ?_
    rintro e w2 ⟨h2, l2, rfl, hn2, hb2⟩
    obtain ⟨hc2, hf2⟩ := bcell hb2
    have hz_w2_0 : w.heap.size < w2.heap.size   := (by have := hb2.size; first | omega | (simp at this; omega))
    go_wp2_with fail
    refine (ones_c _ _).mono ?_
    rintro e w3 ⟨h3, l3, rfl, hn3, hb3⟩
    obtain ⟨hc3, hf3⟩ := bcell hb3
    have hz_w3_0 : w.heap.size < w3.heap.size   := (by have := hb3.size; first | omega | (simp at this; omega))
    go_wp2_with fail
    refine (and_c hn2 hn3 _).mono ?_
    rintro e w4 ⟨h4, l4, rfl, hn4, hb4⟩
    have hn5 : Hid (l4 = ((a / 2 ^ K.toNat % 2 ^ S : Nat) : Int)) := piece_fin hn4 (by have := hK'.out; omega) (by have := hS'.out; omega) (by have := hS'.out; omega)
    clear hn4 hn2 hn3 ha
    have hfd : ∀ w : World, (Instr.field 24 (nv h4 l4) 1).run Tryz.prog w = .ok (.int .u64 l4) w := fun _ => by kernel_rfl
    go_wp2
    go_ret
    exact ⟨_, rfl, hn5, by repeat (first | with_reducible exact Below.refl _ _ | with_reducible refine Below.drew ?_ | with_reducible refine Below.alloc ?_ (by first | omega | (simp <;> omega)) _ | with_reducible refine Below.setCell ?_ (by first | omega | (simp <;> omega)) _ | with_reducible refine Below.trans ?_ (Below.mono hb4 (by first | omega | (simp <;> omega))) | with_reducible refine Below.trans ?_ (Below.mono hb3 (by first | omega | (simp <;> omega))) | with_reducible refine Below.trans ?_ (Below.mono hb2 (by first | omega | (simp <;> omega))) | with_reducible refine Below.trans ?_ (Below.mono hb1 (by first | omega | (simp <;> omega))))⟩
end Go.Proofs.YtipjmmhlfmahbaaGreatDoor

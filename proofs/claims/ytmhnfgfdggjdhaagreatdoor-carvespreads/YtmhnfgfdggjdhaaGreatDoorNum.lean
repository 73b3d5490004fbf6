/-
  What the functions of package num return, for every number: one contract a function.
-/
import Derived.Test.YtmhnfgfdggjdhaaGreatDoorRows
import Derived.Test.YtmhnfgfdggjdhaaGreatDoorMath
import Derived.Test.YtmhnfgfdggjdhaaGreatDoorShelf
import Derived.WalkKit
import Derived.ProofKit
import Derived.OpenShut
import Derived.WalkLawsBesides
import Derived.WalkSpells
import Derived.Shelf.Spec.BitsCarry
namespace Go.Proofs.YtmhnfgfdggjdhaaGreatDoor
open Go.ChangeShapes Go.WideShapes Go.ChangeAt Go.RowKit
set_option linter.unusedVariables false
set_option linter.unusedSimpArgs false

abbrev nv (hi lo : Int) : Value := .agg #[.int .u64 hi, .int .u64 lo]

theorem run_Add64 (x y c : Int) (hx : 0 ≤ x) (hy : 0 ≤ y) (hc0 : 0 ≤ c) (hc : c ≤ 1) (w : World) :
    (callFunc 112 #[.int .u64 x, .int .u64 y, .int .u64 c]).run Tryz.prog w =
      .ok (.value (.tuple #[.int .u64 ((x + y + c) % 18446744073709551616), .int .u64 ((x + y + c) / 18446744073709551616)])) w := by
  rw [run_callFunc_extern Tryz.func112 (by kernel_rfl) (by kernel_rfl) (by kernel_rfl) (e := add64Entry) (by kernel_rfl), run_add64 x y c hx hy hc0 hc]
  rfl

/-- 1 where x is less than y, else 0: the borrow. -/
def lessI (x y : Int) : Int := if x < y then 1 else 0
theorem lessI_01 (x y : Int) : 0 ≤ lessI x y ∧ lessI x y ≤ 1 := by unfold lessI; split <;> omega

theorem run_Sub64 (x y c : Int) (hx : 0 ≤ x) (hx1 : x < 18446744073709551616) (hy : 0 ≤ y) (hy1 : y < 18446744073709551616) (hc0 : 0 ≤ c) (hc : c ≤ 1) (w : World) :
    (callFunc 122 #[.int .u64 x, .int .u64 y, .int .u64 c]).run Tryz.prog w =
      .ok (.value (.tuple #[.int .u64 ((x - y - c) % 18446744073709551616), .int .u64 (lessI x (y + c))])) w := by
  obtain ⟨X, rfl⟩ := Int.eq_ofNat_of_zero_le hx
  obtain ⟨Y, rfl⟩ := Int.eq_ofNat_of_zero_le hy
  obtain ⟨C, rfl⟩ := Int.eq_ofNat_of_zero_le hc0
  rw [run_callFunc_extern Tryz.func122 (by kernel_rfl) (by kernel_rfl) (by kernel_rfl) (e := sub64Entry) (by kernel_rfl), run_sub64 X Y C (by omega)]
  simp only [Result.andThen]
  have e1 : (((X + 18446744073709551616 - Y - C) % 18446744073709551616 : Nat) : Int) = ((X : Int) - Y - C) % 18446744073709551616 := by omega
  have e2 : ((if X < Y + C then 1 else 0 : Nat) : Int) = lessI (X : Int) ((Y : Int) + (C : Int)) := by
    unfold lessI
    by_cases h : X < Y + C
    · rw [if_pos h, if_pos (by omega)]; rfl
    · rw [if_neg h, if_neg (by omega)]; rfl
  rw [e1, e2]

set_option maxHeartbeats 400000 in
theorem of_w (n : Int) (w : World) :
    Calls Tryz.prog 47 #[.int .u64 n] w fun e w' => e = .returned (nv 0 n) ∧ Below w.heap.size w w' := by
  go_enter Tryz.func47, Tryz.ntmps47
  go_wp2
  exact bodyPost_ret (v := nv 0 n) (by simp [results, Tryz.results47, go_sem]) rfl ⟨rfl, by repeat (first | with_reducible exact Below.refl _ _ | with_reducible refine Below.drew ?_ | with_reducible refine Below.alloc ?_ (by first | omega | (simp <;> omega)) _ | with_reducible refine Below.setCell ?_ (by first | omega | (simp <;> omega)) _)⟩

set_option maxHeartbeats 400000 in
theorem add_w (ah al bh bl : Int) (a0 : 0 ≤ ah) (a1 : 0 ≤ al) (b0 : 0 ≤ bh) (b1 : 0 ≤ bl) (al1 : al < 18446744073709551616) (bl1 : bl < 18446744073709551616) (w : World) :
    Calls Tryz.prog 86 #[nv ah al, nv bh bl] w fun e w' => e = .returned (.tuple #[nv ((ah + bh + (al + bl) / 18446744073709551616) % 18446744073709551616) ((al + bl) % 18446744073709551616), .bool ((ah + bh + (al + bl) / 18446744073709551616) / 18446744073709551616 == 0)]) ∧ Below w.heap.size w w' := by
  have hc := run_Add64
  have k0 : 0 ≤ (al + bl) / 18446744073709551616 := by omega
  have k1 : (al + bl) / 18446744073709551616 ≤ 1 := by omega
  go_enter Tryz.func86, Tryz.ntmps86
  go_wp2
  exact bodyPost_ret (v := .tuple #[nv ((ah + bh + (al + bl) / 18446744073709551616) % 18446744073709551616) ((al + bl) % 18446744073709551616), .bool ((ah + bh + (al + bl) / 18446744073709551616) / 18446744073709551616 == 0)]) (by simp [results, Tryz.results86, go_sem]) rfl ⟨rfl, by repeat (first | with_reducible exact Below.refl _ _ | with_reducible refine Below.drew ?_ | with_reducible refine Below.alloc ?_ (by first | omega | (simp <;> omega)) _ | with_reducible refine Below.setCell ?_ (by first | omega | (simp <;> omega)) _)⟩

/-- Add: the sum modulo 2^128, and whether it is the true one. -/
theorem add_c {ah al bh bl : Int} {a b : Nat} (ha : IsNum ah al a) (hb : IsNum bh bl b) (w : World) :
    Calls Tryz.prog 86 #[nv ah al, nv bh bl] w fun e w' => ∃ h l, e = .returned (.tuple #[nv h l, .bool (decide (a + b < 340282366920938463463374607431768211456))]) ∧ IsNum h l ((a + b) % 340282366920938463463374607431768211456) ∧ Below w.heap.size w w' := by
  obtain ⟨a0, a1, a2, a3, a4⟩ := ha
  obtain ⟨b0, b1, b2, b3, b4⟩ := hb
  refine (add_w ah al bh bl a0 a2 b0 b2 a3 b3 w).mono fun e w' ⟨he, hb⟩ => ?_
  have : ((ah + bh + (al + bl) / 18446744073709551616) / 18446744073709551616 == 0) = decide (a + b < 340282366920938463463374607431768211456) := by
    rw [Bool.eq_iff_iff]; simp only [beq_iff_eq, decide_eq_true_eq]; omega
  rw [this] at he
  exact ⟨_, _, he, ⟨by omega, by omega, by omega, by omega, by omega⟩, hb⟩

set_option maxHeartbeats 400000 in
theorem sub_w (ah al bh bl : Int) (a0 : 0 ≤ ah) (a1 : 0 ≤ al) (b0 : 0 ≤ bh) (b1 : 0 ≤ bl) (ah1 : ah < 18446744073709551616) (bh1 : bh < 18446744073709551616) (al1 : al < 18446744073709551616) (bl1 : bl < 18446744073709551616) (w : World) :
    Calls Tryz.prog 111 #[nv ah al, nv bh bl] w fun e w' => e = .returned (.tuple #[nv ((ah - bh - lessI al bl) % 18446744073709551616) ((al - bl) % 18446744073709551616), .bool (lessI ah (bh + lessI al bl) == 0)]) ∧ Below w.heap.size w w' := by
  have hc := run_Sub64
  obtain ⟨k0, k1⟩ := lessI_01 al bl
  go_enter Tryz.func111, Tryz.ntmps111
  go_wp2
  exact bodyPost_ret (v := .tuple #[nv ((ah - bh - lessI al bl) % 18446744073709551616) ((al - bl) % 18446744073709551616), .bool (lessI ah (bh + lessI al bl) == 0)]) (by simp [results, Tryz.results111, go_sem]) rfl ⟨rfl, by repeat (first | with_reducible exact Below.refl _ _ | with_reducible refine Below.drew ?_ | with_reducible refine Below.alloc ?_ (by first | omega | (simp <;> omega)) _ | with_reducible refine Below.setCell ?_ (by first | omega | (simp <;> omega)) _)⟩

/-- Sub: the difference modulo 2^128, and whether it is the true one. -/
theorem sub_c {ah al bh bl : Int} {a b : Nat} (ha : IsNum ah al a) (hb : IsNum bh bl b) (w : World) :
    Calls Tryz.prog 111 #[nv ah al, nv bh bl] w fun e w' => ∃ h l, e = .returned (.tuple #[nv h l, .bool (decide (b ≤ a))]) ∧ IsNum h l ((a + 340282366920938463463374607431768211456 - b) % 340282366920938463463374607431768211456) ∧ Below w.heap.size w w' := by
  have hbl := hb.lt
  obtain ⟨a0, a1, a2, a3, a4⟩ := ha
  obtain ⟨b0, b1, b2, b3, b4⟩ := hb
  refine (sub_w ah al bh bl a0 a2 b0 b2 a1 b1 a3 b3 w).mono fun e w' ⟨he, hb⟩ => ?_
  have : (lessI ah (bh + lessI al bl) == 0) = decide (b ≤ a) := by
    rw [Bool.eq_iff_iff]; simp only [beq_iff_eq, decide_eq_true_eq]
    unfold lessI
    split <;> split <;> omega
  rw [this] at he
  refine ⟨_, _, he, ?_, hb⟩
  unfold lessI
  split <;> exact ⟨by omega, by omega, by omega, by omega, by omega⟩

set_option maxHeartbeats 400000 in
theorem not_w (ah al : Int) (w : World) :
    Calls Tryz.prog 89 #[nv ah al] w fun e w' => e = .returned (nv (bits .xor .u64 IntKind.u64.max ah) (bits .xor .u64 IntKind.u64.max al)) ∧ Below w.heap.size w w' := by
  have hs : ¬IntKind.u64.signed = true := by decide
  go_enter Tryz.func89, Tryz.ntmps89
  go_wp2
  exact bodyPost_ret (v := nv (bits .xor .u64 IntKind.u64.max ah) (bits .xor .u64 IntKind.u64.max al)) (by simp [results, Tryz.results89, go_sem]) rfl ⟨rfl, by repeat (first | with_reducible exact Below.refl _ _ | with_reducible refine Below.drew ?_ | with_reducible refine Below.alloc ?_ (by first | omega | (simp <;> omega)) _ | with_reducible refine Below.setCell ?_ (by first | omega | (simp <;> omega)) _)⟩

set_option maxHeartbeats 400000 in
theorem left_lo (ah al k : Int) (a0 : 0 ≤ ah) (a1 : 0 ≤ al) (k0 : 0 ≤ k) (k1 : k < 64) (w : World) :
    Calls Tryz.prog 82 #[nv ah al, .int .i64 k] w fun e w' => e = .returned (nv (bits .or .u64 (IntKind.u64.wrap (ah * 2 ^ k.toNat)) (al / 2 ^ (64 - k).toNat)) (IntKind.u64.wrap (al * 2 ^ k.toNat))) ∧ Below w.heap.size w w' := by
  go_enter Tryz.func82, Tryz.ntmps82
  go_wp2
  go_region
  go_wp2
  exact bodyPost_ret (v := nv (bits .or .u64 (IntKind.u64.wrap (ah * 2 ^ k.toNat)) (al / 2 ^ (64 - k).toNat)) (IntKind.u64.wrap (al * 2 ^ k.toNat))) (by simp [results, Tryz.results82, go_sem]) rfl ⟨rfl, by repeat (first | with_reducible exact Below.refl _ _ | with_reducible refine Below.drew ?_ | with_reducible refine Below.alloc ?_ (by first | omega | (simp <;> omega)) _ | with_reducible refine Below.setCell ?_ (by first | omega | (simp <;> omega)) _)⟩

set_option maxHeartbeats 400000 in
theorem left_hi (ah al k : Int) (a0 : 0 ≤ ah) (a1 : 0 ≤ al) (k0 : 64 ≤ k) (k1 : k < 128) (w : World) :
    Calls Tryz.prog 82 #[nv ah al, .int .i64 k] w fun e w' => e = .returned (nv (IntKind.u64.wrap (al * 2 ^ (k - 64).toNat)) 0) ∧ Below w.heap.size w w' := by
  go_enter Tryz.func82, Tryz.ntmps82
  go_wp2
  exact bodyPost_ret (v := nv (IntKind.u64.wrap (al * 2 ^ (k - 64).toNat)) 0) (by simp [results, Tryz.results82, go_sem]) rfl ⟨rfl, by repeat (first | with_reducible exact Below.refl _ _ | with_reducible refine Below.drew ?_ | with_reducible refine Below.alloc ?_ (by first | omega | (simp <;> omega)) _ | with_reducible refine Below.setCell ?_ (by first | omega | (simp <;> omega)) _)⟩

set_option maxHeartbeats 400000 in
theorem right_lo (ah al k : Int) (a0 : 0 ≤ ah) (a1 : 0 ≤ al) (k0 : 0 ≤ k) (k1 : k < 64) (w : World) :
    Calls Tryz.prog 83 #[nv ah al, .int .i64 k] w fun e w' => e = .returned (nv (ah / 2 ^ k.toNat) (bits .or .u64 (al / 2 ^ k.toNat) (IntKind.u64.wrap (ah * 2 ^ (64 - k).toNat)))) ∧ Below w.heap.size w w' := by
  go_enter Tryz.func83, Tryz.ntmps83
  go_wp2
  go_region
  go_wp2
  exact bodyPost_ret (v := nv (ah / 2 ^ k.toNat) (bits .or .u64 (al / 2 ^ k.toNat) (IntKind.u64.wrap (ah * 2 ^ (64 - k).toNat)))) (by simp [results, Tryz.results83, go_sem]) rfl ⟨rfl, by repeat (first | with_reducible exact Below.refl _ _ | with_reducible refine Below.drew ?_ | with_reducible refine Below.alloc ?_ (by first | omega | (simp <;> omega)) _ | with_reducible refine Below.setCell ?_ (by first | omega | (simp <;> omega)) _)⟩

set_option maxHeartbeats 400000 in
theorem right_hi (ah al k : Int) (a0 : 0 ≤ ah) (a1 : 0 ≤ al) (k0 : 64 ≤ k) (k1 : k < 128) (w : World) :
    Calls Tryz.prog 83 #[nv ah al, .int .i64 k] w fun e w' => e = .returned (nv 0 (ah / 2 ^ (k - 64).toNat)) ∧ Below w.heap.size w w' := by
  go_enter Tryz.func83, Tryz.ntmps83
  go_wp2
  exact bodyPost_ret (v := nv 0 (ah / 2 ^ (k - 64).toNat)) (by simp [results, Tryz.results83, go_sem]) rfl ⟨rfl, by repeat (first | with_reducible exact Below.refl _ _ | with_reducible refine Below.drew ?_ | with_reducible refine Below.alloc ?_ (by first | omega | (simp <;> omega)) _ | with_reducible refine Below.setCell ?_ (by first | omega | (simp <;> omega)) _)⟩

end Go.Proofs.YtmhnfgfdggjdhaaGreatDoor

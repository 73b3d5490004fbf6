/-
  Texts Num, Num2 of the proof.
-/
import Derived.OpenShut
import Derived.ProofKit
import Derived.Shelf.Spec.BitsCarry
import Derived.WalkKit
import Derived.WalkLawsBesides
import Derived.WalkSpells
import Derived.Test.YtipjmmhlfmahbaaGreatDoorP2
import Derived.Test.YtipjmmhlfmahbaaGreatDoorRows
import Derived.Test.YtipjmmhlfmahbaaGreatDoorP3

namespace Go.Proofs.YtipjmmhlfmahbaaGreatDoor
open Go.ChangeShapes Go.WideShapes Go.ChangeAt Go.RowKit
set_option linter.unusedVariables false
set_option linter.unusedSimpArgs false

abbrev nv (hi lo : Int) : Value := .agg #[.int .u64 hi, .int .u64 lo]

theorem run_Add64 (x y c : Int) (hx : 0 ≤ x) (hy : 0 ≤ y) (hc0 : 0 ≤ c) (hc : c ≤ 1) (w : World) :
    (callFunc 60 #[.int .u64 x, .int .u64 y, .int .u64 c]).run Tryz.prog w =
      .ok (.value (.tuple #[.int .u64 ((x + y + c) % 18446744073709551616), .int .u64 ((x + y + c) / 18446744073709551616)])) w := by
  rw [run_callFunc_extern Tryz.func60 (by kernel_rfl) (by kernel_rfl) (by kernel_rfl) (e := add64Entry) (by kernel_rfl), run_add64 x y c hx hy hc0 hc]
  rfl

set_option maxHeartbeats 400000 in
theorem of_w (n : Int) (w : World) :
    Calls Tryz.prog 15 #[.int .u64 n] w fun e w' => e = .returned (nv 0 n) ∧ Below w.heap.size w w' := by
  go_enter Tryz.func15, Tryz.ntmps15
  go_wp2
  exact bodyPost_ret (v := nv 0 n) (by simp [results, Tryz.results15, go_sem]) rfl ⟨rfl, by repeat (first | with_reducible exact Below.refl _ _ | with_reducible refine Below.drew ?_ | with_reducible refine Below.alloc ?_ (by first | omega | (simp <;> omega)) _ | with_reducible refine Below.setCell ?_ (by first | omega | (simp <;> omega)) _)⟩

set_option maxHeartbeats 400000 in
theorem add_w (ah al bh bl : Int) (a0 : 0 ≤ ah) (a1 : 0 ≤ al) (b0 : 0 ≤ bh) (b1 : 0 ≤ bl) (al1 : al < 18446744073709551616) (bl1 : bl < 18446744073709551616) (w : World) :
    Calls Tryz.prog 35 #[nv ah al, nv bh bl] w fun e w' => e = .returned (.tuple #[nv ((ah + bh + (al + bl) / 18446744073709551616) % 18446744073709551616) ((al + bl) % 18446744073709551616), .bool ((ah + bh + (al + bl) / 18446744073709551616) / 18446744073709551616 == 0)]) ∧ Below w.heap.size w w' := by
  have hc := run_Add64
  have k0 : 0 ≤ (al + bl) / 18446744073709551616 := by omega
  have k1 : (al + bl) / 18446744073709551616 ≤ 1 := by omega
  go_enter Tryz.func35, Tryz.ntmps35
  go_wp2
  exact bodyPost_ret (v := .tuple #[nv ((ah + bh + (al + bl) / 18446744073709551616) % 18446744073709551616) ((al + bl) % 18446744073709551616), .bool ((ah + bh + (al + bl) / 18446744073709551616) / 18446744073709551616 == 0)]) (by simp [results, Tryz.results35, go_sem]) rfl ⟨rfl, by repeat (first | with_reducible exact Below.refl _ _ | with_reducible refine Below.drew ?_ | with_reducible refine Below.alloc ?_ (by first | omega | (simp <;> omega)) _ | with_reducible refine Below.setCell ?_ (by first | omega | (simp <;> omega)) _)⟩

/-- Add: the sum modulo 2^128, and whether it is the true one. -/
theorem add_c {ah al bh bl : Int} {a b : Nat} (ha : IsNum ah al a) (hb : IsNum bh bl b) (w : World) :
    Calls Tryz.prog 35 #[nv ah al, nv bh bl] w fun e w' => ∃ h l, e = .returned (.tuple #[nv h l, .bool (decide (a + b < 340282366920938463463374607431768211456))]) ∧ IsNum h l ((a + b) % 340282366920938463463374607431768211456) ∧ Below w.heap.size w w' := by
  obtain ⟨a0, a1, a2, a3, a4⟩ := ha
  obtain ⟨b0, b1, b2, b3, b4⟩ := hb
  refine (add_w ah al bh bl a0 a2 b0 b2 a3 b3 w).mono fun e w' ⟨he, hb⟩ => ?_
  have : ((ah + bh + (al + bl) / 18446744073709551616) / 18446744073709551616 == 0) = decide (a + b < 340282366920938463463374607431768211456) := by
    rw [Bool.eq_iff_iff]; simp only [beq_iff_eq, decide_eq_true_eq]; omega
  rw [this] at he
  exact ⟨_, _, he, ⟨by omega, by omega, by omega, by omega, by omega⟩, hb⟩

set_option maxHeartbeats 400000 in
theorem not_w (ah al : Int) (w : World) :
    Calls Tryz.prog 51 #[nv ah al] w fun e w' => e = .returned (nv (bits .xor .u64 IntKind.u64.max ah) (bits .xor .u64 IntKind.u64.max al)) ∧ Below w.heap.size w w' := by
  have hs : ¬IntKind.u64.signed = true := by decide
  go_enter Tryz.func51, Tryz.ntmps51
  go_wp2
  exact bodyPost_ret (v := nv (bits .xor .u64 IntKind.u64.max ah) (bits .xor .u64 IntKind.u64.max al)) (by simp [results, Tryz.results51, go_sem]) rfl ⟨rfl, by repeat (first | with_reducible exact Below.refl _ _ | with_reducible refine Below.drew ?_ | with_reducible refine Below.alloc ?_ (by first | omega | (simp <;> omega)) _ | with_reducible refine Below.setCell ?_ (by first | omega | (simp <;> omega)) _)⟩

set_option maxHeartbeats 400000 in
theorem left_lo (ah al k : Int) (a0 : 0 ≤ ah) (a1 : 0 ≤ al) (k0 : 0 ≤ k) (k1 : k < 64) (w : World) :
    Calls Tryz.prog 77 #[nv ah al, .int .i64 k] w fun e w' => e = .returned (nv (bits .or .u64 (IntKind.u64.wrap (ah * 2 ^ k.toNat)) (al / 2 ^ (64 - k).toNat)) (IntKind.u64.wrap (al * 2 ^ k.toNat))) ∧ Below w.heap.size w w' := by
  go_enter Tryz.func77, Tryz.ntmps77
  go_wp2
  go_region
  go_wp2
  exact bodyPost_ret (v := nv (bits .or .u64 (IntKind.u64.wrap (ah * 2 ^ k.toNat)) (al / 2 ^ (64 - k).toNat)) (IntKind.u64.wrap (al * 2 ^ k.toNat))) (by simp [results, Tryz.results77, go_sem]) rfl ⟨rfl, by repeat (first | with_reducible exact Below.refl _ _ | with_reducible refine Below.drew ?_ | with_reducible refine Below.alloc ?_ (by first | omega | (simp <;> omega)) _ | with_reducible refine Below.setCell ?_ (by first | omega | (simp <;> omega)) _)⟩

set_option maxHeartbeats 400000 in
theorem left_hi (ah al k : Int) (a0 : 0 ≤ ah) (a1 : 0 ≤ al) (k0 : 64 ≤ k) (k1 : k < 128) (w : World) :
    Calls Tryz.prog 77 #[nv ah al, .int .i64 k] w fun e w' => e = .returned (nv (IntKind.u64.wrap (al * 2 ^ (k - 64).toNat)) 0) ∧ Below w.heap.size w w' := by
  go_enter Tryz.func77, Tryz.ntmps77
  go_wp2
  exact bodyPost_ret (v := nv (IntKind.u64.wrap (al * 2 ^ (k - 64).toNat)) 0) (by simp [results, Tryz.results77, go_sem]) rfl ⟨rfl, by repeat (first | with_reducible exact Below.refl _ _ | with_reducible refine Below.drew ?_ | with_reducible refine Below.alloc ?_ (by first | omega | (simp <;> omega)) _ | with_reducible refine Below.setCell ?_ (by first | omega | (simp <;> omega)) _)⟩

set_option maxHeartbeats 400000 in
theorem right_lo (ah al k : Int) (a0 : 0 ≤ ah) (a1 : 0 ≤ al) (k0 : 0 ≤ k) (k1 : k < 64) (w : World) :
    Calls Tryz.prog 76 #[nv ah al, .int .i64 k] w fun e w' => e = .returned (nv (ah / 2 ^ k.toNat) (bits .or .u64 (al / 2 ^ k.toNat) (IntKind.u64.wrap (ah * 2 ^ (64 - k).toNat)))) ∧ Below w.heap.size w w' := by
  go_enter Tryz.func76, Tryz.ntmps76
  go_wp2
  go_region
  go_wp2
  exact bodyPost_ret (v := nv (ah / 2 ^ k.toNat) (bits .or .u64 (al / 2 ^ k.toNat) (IntKind.u64.wrap (ah * 2 ^ (64 - k).toNat)))) (by simp [results, Tryz.results76, go_sem]) rfl ⟨rfl, by repeat (first | with_reducible exact Below.refl _ _ | with_reducible refine Below.drew ?_ | with_reducible refine Below.alloc ?_ (by first | omega | (simp <;> omega)) _ | with_reducible refine Below.setCell ?_ (by first | omega | (simp <;> omega)) _)⟩

set_option maxHeartbeats 400000 in
theorem right_hi (ah al k : Int) (a0 : 0 ≤ ah) (a1 : 0 ≤ al) (k0 : 64 ≤ k) (k1 : k < 128) (w : World) :
    Calls Tryz.prog 76 #[nv ah al, .int .i64 k] w fun e w' => e = .returned (nv 0 (ah / 2 ^ (k - 64).toNat)) ∧ Below w.heap.size w w' := by
  go_enter Tryz.func76, Tryz.ntmps76
  go_wp2
  exact bodyPost_ret (v := nv 0 (ah / 2 ^ (k - 64).toNat)) (by simp [results, Tryz.results76, go_sem]) rfl ⟨rfl, by repeat (first | with_reducible exact Below.refl _ _ | with_reducible refine Below.drew ?_ | with_reducible refine Below.alloc ?_ (by first | omega | (simp <;> omega)) _ | with_reducible refine Below.setCell ?_ (by first | omega | (simp <;> omega)) _)⟩

end Go.Proofs.YtipjmmhlfmahbaaGreatDoor

namespace Go.Proofs.YtipjmmhlfmahbaaGreatDoor
open Go.ChangeShapes Go.WideShapes Go.ChangeAt Go.RowKit
set_option linter.unusedVariables false
set_option linter.unusedSimpArgs false

theorem bcell {W w1 : World} (hb : Below W.heap.size W w1) : (∀ b o, b < W.heap.size → w1.cell? ⟨b, o, none⟩ = W.cell? ⟨b, o, none⟩) ∧ (∀ b o, b < W.heap.size → w1.frozen? ⟨b, o, none⟩ = W.frozen? ⟨b, o, none⟩) :=
  ⟨fun b o h => hb.cell (p := ⟨b, o, none⟩) h, fun b o h => hb.frozen (p := ⟨b, o, none⟩) h⟩

theorem bcell' {n : Nat} {W w1 : World} (hb : Below n W w1) : (∀ b o, b < n → w1.cell? ⟨b, o, none⟩ = W.cell? ⟨b, o, none⟩) ∧ (∀ b o, b < n → w1.frozen? ⟨b, o, none⟩ = W.frozen? ⟨b, o, none⟩) :=
  ⟨fun b o h => hb.cell (p := ⟨b, o, none⟩) h, fun b o h => hb.frozen (p := ⟨b, o, none⟩) h⟩

theorem left_c {ah al k : Int} {a : Nat} (ha : IsNum ah al a) (k0 : 0 ≤ k) (k1 : k < 128) (w : World) :
    Calls Tryz.prog 77 #[nv ah al, .int .i64 k] w fun e w' => ∃ h l, e = .returned (nv h l) ∧ IsNum h l (a * 2 ^ k.toNat % 340282366920938463463374607431768211456) ∧ Below w.heap.size w w' := by
  obtain ⟨H, L, rfl, rfl, hH, hL, rfl⟩ := ha.nat
  obtain ⟨K, rfl⟩ := Int.eq_ofNat_of_zero_le k0
  by_cases hk : K < 64
  · refine (left_lo H L K (by omega) (by omega) k0 (by omega) w).mono fun e w' ⟨he, hb⟩ => ⟨_, _, he, ?_, hb⟩
    have e1 : ((64 : Int) - (K : Int)).toNat = 64 - K := by omega
    have e2 : (L : Int) / 2 ^ (64 - K) = ((L / 2 ^ (64 - K) : Nat) : Int) := by simp
    have e3 : ((H : Int) * 2 ^ K) % 18446744073709551616 = ((H * 2 ^ K % 18446744073709551616 : Nat) : Int) := by simp
    have e4 : ((L : Int) * 2 ^ K) % 18446744073709551616 = ((L * 2 ^ K % 18446744073709551616 : Nat) : Int) := by simp
    have l2 : L / 2 ^ (64 - K) < 18446744073709551616 := Nat.lt_of_le_of_lt (Nat.div_le_self _ _) hL
    have l3 : H * 2 ^ K % 18446744073709551616 < 18446744073709551616 := Nat.mod_lt _ (by decide)
    have l4 : L * 2 ^ K % 18446744073709551616 < 18446744073709551616 := Nat.mod_lt _ (by decide)
    rw [Int.toNat_natCast, e1, IntKind.wrap_u64, IntKind.wrap_u64, e2, e3, e4, bits_or_u64_nat _ _ l3 l2, shl_nat H L K hL hk]
    exact IsNum.ofNat (Nat.or_lt_two_pow (n := 64) l3 l2) l4
  · refine (left_hi H L K (by omega) (by omega) (by omega) (by omega) w).mono fun e w' ⟨he, hb⟩ => ⟨_, _, he, ?_, hb⟩
    have e1 : ((K : Int) - 64).toNat = K - 64 := by omega
    have e4 : ((L : Int) * 2 ^ (K - 64)) % 18446744073709551616 = ((L * 2 ^ (K - 64) % 18446744073709551616 : Nat) : Int) := by simp
    have l4 : L * 2 ^ (K - 64) % 18446744073709551616 < 18446744073709551616 := Nat.mod_lt _ (by decide)
    rw [Int.toNat_natCast, e1, IntKind.wrap_u64, e4, shl_hi_nat H L K (by omega)]
    exact (IsNum.ofNat (L := 0) l4 (by decide)).cast (by omega)

theorem right_c {ah al k : Int} {a : Nat} (ha : IsNum ah al a) (k0 : 0 ≤ k) (k1 : k < 128) (w : World) :
    Calls Tryz.prog 76 #[nv ah al, .int .i64 k] w fun e w' => ∃ h l, e = .returned (nv h l) ∧ IsNum h l (a / 2 ^ k.toNat) ∧ Below w.heap.size w w' := by
  obtain ⟨H, L, rfl, rfl, hH, hL, rfl⟩ := ha.nat
  obtain ⟨K, rfl⟩ := Int.eq_ofNat_of_zero_le k0
  by_cases hk : K < 64
  · refine (right_lo H L K (by omega) (by omega) k0 (by omega) w).mono fun e w' ⟨he, hb⟩ => ⟨_, _, he, ?_, hb⟩
    have e1 : ((64 : Int) - (K : Int)).toNat = 64 - K := by omega
    have e2 : (L : Int) / 2 ^ K = ((L / 2 ^ K : Nat) : Int) := by simp
    have e3 : ((H : Int) * 2 ^ (64 - K)) % 18446744073709551616 = ((H * 2 ^ (64 - K) % 18446744073709551616 : Nat) : Int) := by simp
    have e4 : (H : Int) / 2 ^ K = ((H / 2 ^ K : Nat) : Int) := by simp
    have l2 : L / 2 ^ K < 18446744073709551616 := Nat.lt_of_le_of_lt (Nat.div_le_self _ _) hL
    have l3 : H * 2 ^ (64 - K) % 18446744073709551616 < 18446744073709551616 := Nat.mod_lt _ (by decide)
    have l4 : H / 2 ^ K < 18446744073709551616 := Nat.lt_of_le_of_lt (Nat.div_le_self _ _) hH
    rw [Int.toNat_natCast, e1, IntKind.wrap_u64, e2, e3, e4, bits_or_u64_nat _ _ l2 l3, shr_nat H L K hk hL]
    exact IsNum.ofNat l4 (Nat.or_lt_two_pow (n := 64) l2 l3)
  · refine (right_hi H L K (by omega) (by omega) (by omega) (by omega) w).mono fun e w' ⟨he, hb⟩ => ⟨_, _, he, ?_, hb⟩
    have e1 : ((K : Int) - 64).toNat = K - 64 := by omega
    have e4 : (H : Int) / 2 ^ (K - 64) = ((H / 2 ^ (K - 64) : Nat) : Int) := by simp
    have l4 : H / 2 ^ (K - 64) < 18446744073709551616 := Nat.lt_of_le_of_lt (Nat.div_le_self _ _) hH
    rw [Int.toNat_natCast, e1, e4, shr_hi_nat H L K (by omega) hL]
    exact (IsNum.ofNat (H := 0) (by decide) l4).cast (by omega)

theorem not_c {ah al : Int} {a : Nat} (ha : IsNum ah al a) (w : World) :
    Calls Tryz.prog 51 #[nv ah al] w fun e w' => ∃ h l, e = .returned (nv h l) ∧ IsNum h l (340282366920938463463374607431768211455 - a) ∧ Below w.heap.size w w' := by
  obtain ⟨H, L, rfl, rfl, hH, hL, rfl⟩ := ha.nat
  refine (not_w H L w).mono fun e w' ⟨he, hb⟩ => ⟨_, _, he, ?_, hb⟩
  have x (n : Nat) (hn : n < 18446744073709551616) : bits .xor .u64 IntKind.u64.max (n : Int) = ((18446744073709551615 - n : Nat) : Int) := by
    rw [show IntKind.u64.max = ((18446744073709551615 : Nat) : Int) by rfl, bits_xor_u64_nat _ _ (by decide) hn]
    congr 1
    have h := BitVec.toNat_not (x := BitVec.ofNat 64 n)
    rw [BitVec.not_def, BitVec.toNat_xor, BitVec.toNat_allOnes, BitVec.toNat_ofNat, Nat.mod_eq_of_lt hn] at h
    exact h
  rw [x H hH, x L hL]
  exact (IsNum.ofNat (by omega) (by omega)).cast (by omega)

set_option maxHeartbeats 400000 in
theorem out_yes (k : Int) (h : k ≤ -128 ∨ 128 ≤ k) (w : World) :
    Calls Tryz.prog 75 #[.int .i64 k] w fun e w' => e = .returned (.bool true) ∧ Below w.heap.size w w' := by
  rcases h with h1 | h1
  · go_enter Tryz.func75, Tryz.ntmps75
    go_wp2
    go_ret
    exact ⟨by simp [h1], by repeat (first | with_reducible exact Below.refl _ _ | with_reducible refine Below.drew ?_ | with_reducible refine Below.alloc ?_ (by first | omega | (simp <;> omega)) _ | with_reducible refine Below.setCell ?_ (by first | omega | (simp <;> omega)) _)⟩
  · have h2 : ¬ k ≤ -128 := by omega
    go_enter Tryz.func75, Tryz.ntmps75
    go_wp2
    go_ret
    exact ⟨by simp [h1], by repeat (first | with_reducible exact Below.refl _ _ | with_reducible refine Below.drew ?_ | with_reducible refine Below.alloc ?_ (by first | omega | (simp <;> omega)) _ | with_reducible refine Below.setCell ?_ (by first | omega | (simp <;> omega)) _)⟩

set_option maxHeartbeats 400000 in
theorem out_no (k : Int) (h1 : -128 < k) (h2 : k < 128) (w : World) :
    Calls Tryz.prog 75 #[.int .i64 k] w fun e w' => e = .returned (.bool false) ∧ Below w.heap.size w w' := by
  have h3 : ¬ k ≤ -128 := by omega
  have h4 : ¬ 128 ≤ k := by omega
  go_enter Tryz.func75, Tryz.ntmps75
  go_wp2
  go_ret
  exact ⟨by simp [h3, h4], by repeat (first | with_reducible exact Below.refl _ _ | with_reducible refine Below.drew ?_ | with_reducible refine Below.alloc ?_ (by first | omega | (simp <;> omega)) _ | with_reducible refine Below.setCell ?_ (by first | omega | (simp <;> omega)) _)⟩

set_option maxHeartbeats 400000 in
theorem shl_w {ah al k : Int} {a : Nat} (ha : IsNum ah al a) (k0 : 0 ≤ k) (k1 : k < 128) (w : World) :
    Calls Tryz.prog 58 #[nv ah al, .int .i64 k] w fun e w' => ∃ h l, e = .returned (nv h l) ∧ IsNum h l (a * 2 ^ k.toNat % 340282366920938463463374607431768211456) ∧ Below w.heap.size w w' := by
  have k2 : ¬ k < 0 := by omega
  go_enter Tryz.func58, Tryz.ntmps58
  go_wp2_with fail
  refine (out_no k (by omega) k1 _).mono ?_
  rintro e w1 ⟨rfl, hb1⟩
  obtain ⟨hc1, hf1⟩ := bcell hb1
  have hz1 : w.heap.size + 1 < w1.heap.size := by have := hb1.size; simp at this; omega
  go_wp2_with fail
  refine (left_c ha k0 k1 _).mono ?_
  rintro e w2 ⟨h, l, rfl, hn, hb2⟩
  obtain ⟨hc2, hf2⟩ := bcell hb2
  have hz2 : w.heap.size + 1 < w2.heap.size := by have := hb2.size; omega
  go_wp2
  refine bodyPost_ret (v := nv h l) (by simp [results, Tryz.results58, go_sem, hc2, hz2, hc1, hz1]) rfl ⟨h, l, rfl, hn, by repeat (first | with_reducible exact Below.refl _ _ | with_reducible refine Below.drew ?_ | with_reducible refine Below.alloc ?_ (by first | omega | (simp <;> omega)) _ | with_reducible refine Below.setCell ?_ (by first | omega | (simp <;> omega)) _ | with_reducible refine Below.trans ?_ (Below.mono hb2 (by first | omega | (simp <;> omega))) | with_reducible refine Below.trans ?_ (Below.mono hb1 (by first | omega | (simp <;> omega))))⟩

end Go.Proofs.YtipjmmhlfmahbaaGreatDoor

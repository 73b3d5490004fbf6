/-
  What the shifts, Not, Ones and Len of package num return, for every number.
-/
import Derived.Test.YtgbpnekinbdadaaDoorNum
namespace Go.Proofs.YtgbpnekinbdadaaDoor
open Go.ChangeShapes Go.WideShapes Go.ChangeAt Go.RowKit
set_option linter.unusedVariables false
set_option linter.unusedSimpArgs false

theorem bcell {W w1 : World} (hb : Below W.heap.size W w1) : (∀ b o, b < W.heap.size → w1.cell? ⟨b, o, none⟩ = W.cell? ⟨b, o, none⟩) ∧ (∀ b o, b < W.heap.size → w1.frozen? ⟨b, o, none⟩ = W.frozen? ⟨b, o, none⟩) :=
  ⟨fun b o h => hb.cell (p := ⟨b, o, none⟩) h, fun b o h => hb.frozen (p := ⟨b, o, none⟩) h⟩

theorem bcell' {n : Nat} {W w1 : World} (hb : Below n W w1) : (∀ b o, b < n → w1.cell? ⟨b, o, none⟩ = W.cell? ⟨b, o, none⟩) ∧ (∀ b o, b < n → w1.frozen? ⟨b, o, none⟩ = W.frozen? ⟨b, o, none⟩) :=
  ⟨fun b o h => hb.cell (p := ⟨b, o, none⟩) h, fun b o h => hb.frozen (p := ⟨b, o, none⟩) h⟩

theorem left_c {ah al k : Int} {a : Nat} (ha : IsNum ah al a) (k0 : 0 ≤ k) (k1 : k < 128) (w : World) :
    Calls Tryd.prog 66 #[nv ah al, .int .i64 k] w fun e w' => ∃ h l, e = .returned (nv h l) ∧ IsNum h l (a * 2 ^ k.toNat % 340282366920938463463374607431768211456) ∧ Below w.heap.size w w' := by
  obtain ⟨H, L, rfl, rfl, hH, hL, rfl⟩ := ha.nat
  obtain ⟨K, rfl⟩ := Int.eq_ofNat_of_zero_le k0
  by_cases hk : K < 64
  · refine (left_lo H L K (by omega) (by omega) k0 (by omega) w).mono fun e w' ⟨he, hb⟩ => ⟨_, _, he, ?_, hb⟩
    have e1 : ((64 : Int) - (K : Int)).toNat = 64 - K := by omega
    have e2 : (L : Int) / 2 ^ (64 - K) = ((L / 2 ^ (64 - K) : Nat) : Int) := by simp
    have e3 : ((H : Int) * 2 ^ K) % 18446744073709551616 = ((H * 2 ^ K % 18446744073709551616 : Nat) : Int) := by simp
    have e4 : ((L : Int) * 2 ^ K) % 18446744073709551616 = ((L * 2 ^ K % 18446744073709551616 : Nat) : Int) := by simp
    have l2 : L / 2 ^ (64 - K) < 18446744073709551616 := Nat.lt_of_le_of_lt (Nat.div_le_self _ _) hL
    have l3 : H * 2 ^ K % 18446744073709551616 < 18446744073709551616 := Nat.mod_lt _ (by decide)
    have l4 : L * 2 ^ K % 18446744073709551616 < 18446744073709551616 := Nat.mod_lt _ (by decide)
    rw [Int.toNat_natCast, e1, IntKind.wrap_u64, IntKind.wrap_u64, e2, e3, e4, bits_or_u64_nat _ _ l3 l2, shl_nat H L K hL hk]
    exact IsNum.ofNat (Nat.or_lt_two_pow (n := 64) l3 l2) l4
  · refine (left_hi H L K (by omega) (by omega) (by omega) (by omega) w).mono fun e w' ⟨he, hb⟩ => ⟨_, _, he, ?_, hb⟩
    have e1 : ((K : Int) - 64).toNat = K - 64 := by omega
    have e4 : ((L : Int) * 2 ^ (K - 64)) % 18446744073709551616 = ((L * 2 ^ (K - 64) % 18446744073709551616 : Nat) : Int) := by simp
    have l4 : L * 2 ^ (K - 64) % 18446744073709551616 < 18446744073709551616 := Nat.mod_lt _ (by decide)
    rw [Int.toNat_natCast, e1, IntKind.wrap_u64, e4, shl_hi_nat H L K (by omega)]
    exact (IsNum.ofNat (L := 0) l4 (by decide)).cast (by omega)

theorem right_c {ah al k : Int} {a : Nat} (ha : IsNum ah al a) (k0 : 0 ≤ k) (k1 : k < 128) (w : World) :
    Calls Tryd.prog 65 #[nv ah al, .int .i64 k] w fun e w' => ∃ h l, e = .returned (nv h l) ∧ IsNum h l (a / 2 ^ k.toNat) ∧ Below w.heap.size w w' := by
  obtain ⟨H, L, rfl, rfl, hH, hL, rfl⟩ := ha.nat
  obtain ⟨K, rfl⟩ := Int.eq_ofNat_of_zero_le k0
  by_cases hk : K < 64
  · refine (right_lo H L K (by omega) (by omega) k0 (by omega) w).mono fun e w' ⟨he, hb⟩ => ⟨_, _, he, ?_, hb⟩
    have e1 : ((64 : Int) - (K : Int)).toNat = 64 - K := by omega
    have e2 : (L : Int) / 2 ^ K = ((L / 2 ^ K : Nat) : Int) := by simp
    have e3 : ((H : Int) * 2 ^ (64 - K)) % 18446744073709551616 = ((H * 2 ^ (64 - K) % 18446744073709551616 : Nat) : Int) := by simp
    have e4 : (H : Int) / 2 ^ K = ((H / 2 ^ K : Nat) : Int) := by simp
    have l2 : L / 2 ^ K < 18446744073709551616 := Nat.lt_of_le_of_lt (Nat.div_le_self _ _) hL
    have l3 : H * 2 ^ (64 - K) % 18446744073709551616 < 18446744073709551616 := Nat.mod_lt _ (by decide)
    have l4 : H / 2 ^ K < 18446744073709551616 := Nat.lt_of_le_of_lt (Nat.div_le_self _ _) hH
    rw [Int.toNat_natCast, e1, IntKind.wrap_u64, e2, e3, e4, bits_or_u64_nat _ _ l2 l3, shr_nat H L K hk hL]
    exact IsNum.ofNat l4 (Nat.or_lt_two_pow (n := 64) l2 l3)
  · refine (right_hi H L K (by omega) (by omega) (by omega) (by omega) w).mono fun e w' ⟨he, hb⟩ => ⟨_, _, he, ?_, hb⟩
    have e1 : ((K : Int) - 64).toNat = K - 64 := by omega
    have e4 : (H : Int) / 2 ^ (K - 64) = ((H / 2 ^ (K - 64) : Nat) : Int) := by simp
    have l4 : H / 2 ^ (K - 64) < 18446744073709551616 := Nat.lt_of_le_of_lt (Nat.div_le_self _ _) hH
    rw [Int.toNat_natCast, e1, e4, shr_hi_nat H L K (by omega) hL]
    exact (IsNum.ofNat (H := 0) (by decide) l4).cast (by omega)

theorem not_c {ah al : Int} {a : Nat} (ha : IsNum ah al a) (w : World) :
    Calls Tryd.prog 84 #[nv ah al] w fun e w' => ∃ h l, e = .returned (nv h l) ∧ IsNum h l (340282366920938463463374607431768211455 - a) ∧ Below w.heap.size w w' := by
  obtain ⟨H, L, rfl, rfl, hH, hL, rfl⟩ := ha.nat
  refine (not_w H L w).mono fun e w' ⟨he, hb⟩ => ⟨_, _, he, ?_, hb⟩
  have x (n : Nat) (hn : n < 18446744073709551616) : bits .xor .u64 IntKind.u64.max (n : Int) = ((18446744073709551615 - n : Nat) : Int) := by
    rw [show IntKind.u64.max = ((18446744073709551615 : Nat) : Int) by rfl, bits_xor_u64_nat _ _ (by decide) hn]
    congr 1
    have h := BitVec.toNat_not (x := BitVec.ofNat 64 n)
    rw [BitVec.not_def, BitVec.toNat_xor, BitVec.toNat_allOnes, BitVec.toNat_ofNat, Nat.mod_eq_of_lt hn] at h
    exact h
  rw [x H hH, x L hL]
  exact (IsNum.ofNat (by omega) (by omega)).cast (by omega)

set_option maxHeartbeats 400000 in
theorem out_yes (k : Int) (h : k ≤ -128 ∨ 128 ≤ k) (w : World) :
    Calls Tryd.prog 64 #[.int .i64 k] w fun e w' => e = .returned (.bool true) ∧ Below w.heap.size w w' := by
  rcases h with h1 | h1
  · go_enter Tryd.func64, Tryd.ntmps64
    go_wp2
    go_ret
    exact ⟨by simp [h1], by repeat (first | with_reducible exact Below.refl _ _ | with_reducible refine Below.drew ?_ | with_reducible refine Below.alloc ?_ (by first | omega | (simp <;> omega)) _ | with_reducible refine Below.setCell ?_ (by first | omega | (simp <;> omega)) _)⟩
  · have h2 : ¬ k ≤ -128 := by omega
    go_enter Tryd.func64, Tryd.ntmps64
    go_wp2
    go_ret
    exact ⟨by simp [h1], by repeat (first | with_reducible exact Below.refl _ _ | with_reducible refine Below.drew ?_ | with_reducible refine Below.alloc ?_ (by first | omega | (simp <;> omega)) _ | with_reducible refine Below.setCell ?_ (by first | omega | (simp <;> omega)) _)⟩

set_option maxHeartbeats 400000 in
theorem out_no (k : Int) (h1 : -128 < k) (h2 : k < 128) (w : World) :
    Calls Tryd.prog 64 #[.int .i64 k] w fun e w' => e = .returned (.bool false) ∧ Below w.heap.size w w' := by
  have h3 : ¬ k ≤ -128 := by omega
  have h4 : ¬ 128 ≤ k := by omega
  go_enter Tryd.func64, Tryd.ntmps64
  go_wp2
  go_ret
  exact ⟨by simp [h3, h4], by repeat (first | with_reducible exact Below.refl _ _ | with_reducible refine Below.drew ?_ | with_reducible refine Below.alloc ?_ (by first | omega | (simp <;> omega)) _ | with_reducible refine Below.setCell ?_ (by first | omega | (simp <;> omega)) _)⟩

set_option maxHeartbeats 400000 in
theorem shl_w {ah al k : Int} {a : Nat} (ha : IsNum ah al a) (k0 : 0 ≤ k) (k1 : k < 128) (w : World) :
    Calls Tryd.prog 49 #[nv ah al, .int .i64 k] w fun e w' => ∃ h l, e = .returned (nv h l) ∧ IsNum h l (a * 2 ^ k.toNat % 340282366920938463463374607431768211456) ∧ Below w.heap.size w w' := by
  have k2 : ¬ k < 0 := by omega
  go_enter Tryd.func49, Tryd.ntmps49
  go_wp2_with fail
  refine (out_no k (by omega) k1 _).mono ?_
  rintro e w1 ⟨rfl, hb1⟩
  obtain ⟨hc1, hf1⟩ := bcell hb1
  have hz1 : w.heap.size + 1 < w1.heap.size := by have := hb1.size; simp at this; omega
  go_wp2_with fail
  refine (left_c ha k0 k1 _).mono ?_
  rintro e w2 ⟨h, l, rfl, hn, hb2⟩
  obtain ⟨hc2, hf2⟩ := bcell hb2
  have hz2 : w.heap.size + 1 < w2.heap.size := by have := hb2.size; omega
  go_wp2
  refine bodyPost_ret (v := nv h l) (by simp [results, Tryd.results49, go_sem, hc2, hz2, hc1, hz1]) rfl ⟨h, l, rfl, hn, by repeat (first | with_reducible exact Below.refl _ _ | with_reducible refine Below.drew ?_ | with_reducible refine Below.alloc ?_ (by first | omega | (simp <;> omega)) _ | with_reducible refine Below.setCell ?_ (by first | omega | (simp <;> omega)) _ | with_reducible refine Below.trans ?_ (Below.mono hb2 (by first | omega | (simp <;> omega))) | with_reducible refine Below.trans ?_ (Below.mono hb1 (by first | omega | (simp <;> omega))))⟩

end Go.Proofs.YtgbpnekinbdadaaDoor

/-
  What the functions of package num return, for every number: one contract a function.
-/
import Derived.Test.YtgbpnekinbdadaaDoorRows
import Derived.Test.YtgbpnekinbdadaaDoorMath
import Derived.Test.YtgbpnekinbdadaaDoorShelf
import Derived.WalkKit
import Derived.ProofKit
import Derived.OpenShut
import Derived.WalkLawsBesides
import Derived.WalkSpells
import Derived.Shelf.Spec.BitsCarry
namespace Go.Proofs.YtgbpnekinbdadaaDoor
open Go.ChangeShapes Go.WideShapes Go.ChangeAt Go.RowKit
set_option linter.unusedVariables false
set_option linter.unusedSimpArgs false

abbrev nv (hi lo : Int) : Value := .agg #[.int .u64 hi, .int .u64 lo]

theorem run_Add64 (x y c : Int) (hx : 0 ≤ x) (hy : 0 ≤ y) (hc0 : 0 ≤ c) (hc : c ≤ 1) (w : World) :
    (callFunc 79 #[.int .u64 x, .int .u64 y, .int .u64 c]).run Tryd.prog w =
      .ok (.value (.tuple #[.int .u64 ((x + y + c) % 18446744073709551616), .int .u64 ((x + y + c) / 18446744073709551616)])) w := by
  rw [run_callFunc_extern Tryd.func79 (by kernel_rfl) (by kernel_rfl) (by kernel_rfl) (e := add64Entry) (by kernel_rfl), run_add64 x y c hx hy hc0 hc]
  rfl

/-- 1 where x is less than y, else 0: the borrow. -/
def lessI (x y : Int) : Int := if x < y then 1 else 0
theorem lessI_01 (x y : Int) : 0 ≤ lessI x y ∧ lessI x y ≤ 1 := by unfold lessI; split <;> omega

set_option maxHeartbeats 400000 in
theorem of_w (n : Int) (w : World) :
    Calls Tryd.prog 63 #[.int .u64 n] w fun e w' => e = .returned (nv 0 n) ∧ Below w.heap.size w w' := by
  go_enter Tryd.func63, Tryd.ntmps63
  go_wp2
  exact bodyPost_ret (v := nv 0 n) (by simp [results, Tryd.results63, go_sem]) rfl ⟨rfl, by repeat (first | with_reducible exact Below.refl _ _ | with_reducible refine Below.drew ?_ | with_reducible refine Below.alloc ?_ (by first | omega | (simp <;> omega)) _ | with_reducible refine Below.setCell ?_ (by first | omega | (simp <;> omega)) _)⟩

set_option maxHeartbeats 400000 in
theorem add_w (ah al bh bl : Int) (a0 : 0 ≤ ah) (a1 : 0 ≤ al) (b0 : 0 ≤ bh) (b1 : 0 ≤ bl) (al1 : al < 18446744073709551616) (bl1 : bl < 18446744073709551616) (w : World) :
    Calls Tryd.prog 62 #[nv ah al, nv bh bl] w fun e w' => e = .returned (.tuple #[nv ((ah + bh + (al + bl) / 18446744073709551616) % 18446744073709551616) ((al + bl) % 18446744073709551616), .bool ((ah + bh + (al + bl) / 18446744073709551616) / 18446744073709551616 == 0)]) ∧ Below w.heap.size w w' := by
  have hc := run_Add64
  have k0 : 0 ≤ (al + bl) / 18446744073709551616 := by omega
  have k1 : (al + bl) / 18446744073709551616 ≤ 1 := by omega
  go_enter Tryd.func62, Tryd.ntmps62
  go_wp2
  exact bodyPost_ret (v := .tuple #[nv ((ah + bh + (al + bl) / 18446744073709551616) % 18446744073709551616) ((al + bl) % 18446744073709551616), .bool ((ah + bh + (al + bl) / 18446744073709551616) / 18446744073709551616 == 0)]) (by simp [results, Tryd.results62, go_sem]) rfl ⟨rfl, by repeat (first | with_reducible exact Below.refl _ _ | with_reducible refine Below.drew ?_ | with_reducible refine Below.alloc ?_ (by first | omega | (simp <;> omega)) _ | with_reducible refine Below.setCell ?_ (by first | omega | (simp <;> omega)) _)⟩

/-- Add: the sum modulo 2^128, and whether it is the true one. -/
theorem add_c {ah al bh bl : Int} {a b : Nat} (ha : IsNum ah al a) (hb : IsNum bh bl b) (w : World) :
    Calls Tryd.prog 62 #[nv ah al, nv bh bl] w fun e w' => ∃ h l, e = .returned (.tuple #[nv h l, .bool (decide (a + b < 340282366920938463463374607431768211456))]) ∧ IsNum h l ((a + b) % 340282366920938463463374607431768211456) ∧ Below w.heap.size w w' := by
  obtain ⟨a0, a1, a2, a3, a4⟩ := ha
  obtain ⟨b0, b1, b2, b3, b4⟩ := hb
  refine (add_w ah al bh bl a0 a2 b0 b2 a3 b3 w).mono fun e w' ⟨he, hb⟩ => ?_
  have : ((ah + bh + (al + bl) / 18446744073709551616) / 18446744073709551616 == 0) = decide (a + b < 340282366920938463463374607431768211456) := by
    rw [Bool.eq_iff_iff]; simp only [beq_iff_eq, decide_eq_true_eq]; omega
  rw [this] at he
  exact ⟨_, _, he, ⟨by omega, by omega, by omega, by omega, by omega⟩, hb⟩

set_option maxHeartbeats 400000 in
theorem not_w (ah al : Int) (w : World) :
    Calls Tryd.prog 84 #[nv ah al] w fun e w' => e = .returned (nv (bits .xor .u64 IntKind.u64.max ah) (bits .xor .u64 IntKind.u64.max al)) ∧ Below w.heap.size w w' := by
  have hs : ¬IntKind.u64.signed = true := by decide
  go_enter Tryd.func84, Tryd.ntmps84
  go_wp2
  exact bodyPost_ret (v := nv (bits .xor .u64 IntKind.u64.max ah) (bits .xor .u64 IntKind.u64.max al)) (by simp [results, Tryd.results84, go_sem]) rfl ⟨rfl, by repeat (first | with_reducible exact Below.refl _ _ | with_reducible refine Below.drew ?_ | with_reducible refine Below.alloc ?_ (by first | omega | (simp <;> omega)) _ | with_reducible refine Below.setCell ?_ (by first | omega | (simp <;> omega)) _)⟩

set_option maxHeartbeats 400000 in
theorem left_lo (ah al k : Int) (a0 : 0 ≤ ah) (a1 : 0 ≤ al) (k0 : 0 ≤ k) (k1 : k < 64) (w : World) :
    Calls Tryd.prog 66 #[nv ah al, .int .i64 k] w fun e w' => e = .returned (nv (bits .or .u64 (IntKind.u64.wrap (ah * 2 ^ k.toNat)) (al / 2 ^ (64 - k).toNat)) (IntKind.u64.wrap (al * 2 ^ k.toNat))) ∧ Below w.heap.size w w' := by
  go_enter Tryd.func66, Tryd.ntmps66
  go_wp2
  go_region
  go_wp2
  exact bodyPost_ret (v := nv (bits .or .u64 (IntKind.u64.wrap (ah * 2 ^ k.toNat)) (al / 2 ^ (64 - k).toNat)) (IntKind.u64.wrap (al * 2 ^ k.toNat))) (by simp [results, Tryd.results66, go_sem]) rfl ⟨rfl, by repeat (first | with_reducible exact Below.refl _ _ | with_reducible refine Below.drew ?_ | with_reducible refine Below.alloc ?_ (by first | omega | (simp <;> omega)) _ | with_reducible refine Below.setCell ?_ (by first | omega | (simp <;> omega)) _)⟩

set_option maxHeartbeats 400000 in
theorem left_hi (ah al k : Int) (a0 : 0 ≤ ah) (a1 : 0 ≤ al) (k0 : 64 ≤ k) (k1 : k < 128) (w : World) :
    Calls Tryd.prog 66 #[nv ah al, .int .i64 k] w fun e w' => e = .returned (nv (IntKind.u64.wrap (al * 2 ^ (k - 64).toNat)) 0) ∧ Below w.heap.size w w' := by
  go_enter Tryd.func66, Tryd.ntmps66
  go_wp2
  exact bodyPost_ret (v := nv (IntKind.u64.wrap (al * 2 ^ (k - 64).toNat)) 0) (by simp [results, Tryd.results66, go_sem]) rfl ⟨rfl, by repeat (first | with_reducible exact Below.refl _ _ | with_reducible refine Below.drew ?_ | with_reducible refine Below.alloc ?_ (by first | omega | (simp <;> omega)) _ | with_reducible refine Below.setCell ?_ (by first | omega | (simp <;> omega)) _)⟩

set_option maxHeartbeats 400000 in
theorem right_lo (ah al k : Int) (a0 : 0 ≤ ah) (a1 : 0 ≤ al) (k0 : 0 ≤ k) (k1 : k < 64) (w : World) :
    Calls Tryd.prog 65 #[nv ah al, .int .i64 k] w fun e w' => e = .returned (nv (ah / 2 ^ k.toNat) (bits .or .u64 (al / 2 ^ k.toNat) (IntKind.u64.wrap (ah * 2 ^ (64 - k).toNat)))) ∧ Below w.heap.size w w' := by
  go_enter Tryd.func65, Tryd.ntmps65
  go_wp2
  go_region
  go_wp2
  exact bodyPost_ret (v := nv (ah / 2 ^ k.toNat) (bits .or .u64 (al / 2 ^ k.toNat) (IntKind.u64.wrap (ah * 2 ^ (64 - k).toNat)))) (by simp [results, Tryd.results65, go_sem]) rfl ⟨rfl, by repeat (first | with_reducible exact Below.refl _ _ | with_reducible refine Below.drew ?_ | with_reducible refine Below.alloc ?_ (by first | omega | (simp <;> omega)) _ | with_reducible refine Below.setCell ?_ (by first | omega | (simp <;> omega)) _)⟩

set_option maxHeartbeats 400000 in
theorem right_hi (ah al k : Int) (a0 : 0 ≤ ah) (a1 : 0 ≤ al) (k0 : 64 ≤ k) (k1 : k < 128) (w : World) :
    Calls Tryd.prog 65 #[nv ah al, .int .i64 k] w fun e w' => e = .returned (nv 0 (ah / 2 ^ (k - 64).toNat)) ∧ Below w.heap.size w w' := by
  go_enter Tryd.func65, Tryd.ntmps65
  go_wp2
  exact bodyPost_ret (v := nv 0 (ah / 2 ^ (k - 64).toNat)) (by simp [results, Tryd.results65, go_sem]) rfl ⟨rfl, by repeat (first | with_reducible exact Below.refl _ _ | with_reducible refine Below.drew ?_ | with_reducible refine Below.alloc ?_ (by first | omega | (simp <;> omega)) _ | with_reducible refine Below.setCell ?_ (by first | omega | (simp <;> omega)) _)⟩

end Go.Proofs.YtgbpnekinbdadaaDoor

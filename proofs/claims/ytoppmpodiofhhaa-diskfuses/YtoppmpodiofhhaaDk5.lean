/-
  New; pick; the plain facts of Start.
-/
import Derived.Test.YtoppmpodiofhhaaDkL
import Derived.Test.YtoppmpodiofhhaaDk3
namespace Go.Proofs.Ytoppmpodiofhhaa
open Go.ChangeShapes Go.WideShapes Go.ChangeAt Go.RowKit
set_option linter.unusedVariables false
set_option linter.unusedSimpArgs false

theorem new_s {B : Nat} {W : World} (hB : B ≤ W.heap.size) : Calls Try.prog 7 #[] W fun e W' => ∃ d, e = .returned (.pointer (some ⟨d, 0, none⟩)) ∧ DkS B d ⟨[], 0, 0, true⟩ W' ∧ Below W.heap.size W W' := by
  have hmm := @run_makeMap Try.prog
  have S : Hid (DkS B (W.heap.size + 1) ⟨[], 0, 0, true⟩ ((W.alloc (.map #[] 0)).alloc (.cells #[.map (some W.heap.size), .int .i64 0, .int .i64 0, .bool true] 51))) := by
    refine ⟨W.heap.size, [], ⟨?_, (World.ownsMap_made W Try.prog 3 ptrElem).alloc _, (fun f hf => by cases hf), List.Pairwise.nil, by omega, hB, by simp, Int.le_refl _, by decide⟩, rfl⟩
    have q := Blk.new (W.alloc (.map #[] 0)) #[.map (some W.heap.size), .int .i64 0, .int .i64 0, .bool true] 51
    rwa [show (W.alloc (.map #[] 0)).heap.size = W.heap.size + 1 by simp] at q
  have b0 : Below W.heap.size W ((W.alloc (.map #[] 0)).alloc (.cells #[.map (some W.heap.size), .int .i64 0, .int .i64 0, .bool true] 51)) := by repeat (first | with_reducible exact Below.refl _ _ | with_reducible refine Below.drew ?_ | with_reducible refine Below.alloc ?_ (by first | omega | (simp <;> omega)) _ | with_reducible refine Below.setCell ?_ (by first | omega | (simp <;> omega)) _)
  have b := hide b0
  clear b0
  go_enter Try.func7, Try.ntmps7
  go_wp2_with fail
  go_ret
  exact ⟨_, rfl, S.out, b.out⟩

/-- A slice of numbers. -/
structure PkAt (W : World) (x : Option Addr) (xs : List Int) : Prop where
  at_ : xs.length = 0 ∨ ∃ b o, x = some ⟨b, o, none⟩ ∧ ∀ i, i < xs.length → W.cell? ⟨b, o + i, none⟩ = some (.int .i64 (xs.getD i 0))
  ok : ∀ i, i < xs.length → -9223372036854775808 ≤ xs.getD i 0 ∧ xs.getD i 0 ≤ 9223372036854775807
  len : xs.length ≤ 9223372036854775807

theorem pick_c {W : World} {x : Option Addr} {xs : List Int} (P : PkAt W x xs) (cap k : Nat) (hk : k < 1000000000) :
    Calls Try.prog 36 #[.slice x xs.length cap, .int .i64 (k : Int)] W fun e W' => e = .returned (.int .i64 (pickV xs k : Nat)) ∧ W' = W := by
  have hl := P.len
  unfold pickV
  by_cases h0 : xs.length = 0
  · rw [if_pos h0, h0]
    go_enter Try.func36, Try.ntmps36
    go_wp2_with fail
    go_ret
    exact ⟨rfl, rfl⟩
  · rw [if_neg h0]
    obtain ⟨b, o, rfl, hc⟩ := P.at_.resolve_left h0
    have hj : k % xs.length < xs.length := Nat.mod_lt _ (by omega)
    have c0 := hc _ hj
    have hok := P.ok _ hj
    have e1 : (k : Int).tmod (xs.length : Int) = ((k % xs.length : Nat) : Int) := by rw [Int.tmod_eq_emod_of_nonneg (by omega)]; omega
    have e2 : (k : Int) % (xs.length : Int) = ((k % xs.length : Nat) : Int) := by omega
    obtain ⟨j, ej⟩ : ∃ j, k % xs.length = j := ⟨_, rfl⟩
    obtain ⟨y, ey⟩ : ∃ y, xs.getD j 0 = y := ⟨_, rfl⟩
    rw [ej] at c0 hj e1 e2 hok ⊢
    rw [ey] at c0 hok ⊢
    obtain ⟨ok1, ok2⟩ := hok
    obtain ⟨n, hn⟩ : ∃ n, xs.length = n := ⟨_, rfl⟩
    rw [hn] at h0 hl hj e1 e2 ⊢
    have EY : Hid (∀ u : Int, u = max y 0 → u = (y.toNat : Int)) := by rintro u rfl; show max y 0 = _; omega
    have nb : ((n : Int) == 0) = false := by simp; omega
    have nz : ¬ (n : Int) = 0 := by omega
    have jn : (j : Int) < (n : Int) := by omega
    clear P hc ej ey hn hk h0
    go_enter Try.func36, Try.ntmps36
    go_wp2_with fail
    all_goals
      go_ret
      exact ⟨by show Ending.returned (.int .i64 (max y 0)) = _; rw [EY.out _ rfl], rfl⟩

end Go.Proofs.Ytoppmpodiofhhaa

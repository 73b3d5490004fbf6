/-
  Texts Bm5, Bm6, Bm7, Bm8, Bm9, Bm10, BmA, BmR of the proof.
-/
import Derived.Test.YtgbpnekinbdadaaGreatDoorPQ14
import Derived.Test.YtgbpnekinbdadaaGreatDoorPQ15

namespace Go.Proofs.YtgbpnekinbdadaaGreatDoor
open Go.ChangeShapes Go.WideShapes Go.ChangeAt Go.RowKit
set_option linter.unusedVariables false
set_option linter.unusedSimpArgs false

/-- Ahead of word i. -/
def TurnI (w0 : World) (a g n c1 c2 c3 fn : Nat) (f h : Nat → Bool) (i : Nat) (W : World) : Prop :=
 ∃ us, MapAt W a g n us ∧ (∀ p, bitL us p = if p < 64 * i then h p else f p) ∧ Blk W c1 #[.pointer (some ⟨a, 0, none⟩)] 77 ∧ Blk W c2 #[.func (.func fn) #[] #[]] 179 ∧
  Blk W c3 #[.int .i64 (cnt (fun p => f p != h p) (64 * i) : Nat)] 3 ∧ But [g] w0.heap.size w0 W

theorem turn_keep {w0 W W' : World} {a g n c1 c2 c3 fn : Nat} {f h : Nat → Bool} {i y : Nat} {us : List Nat} (hi : i < us.length) (hm : MapAt W a g n us) (hb : ∀ p, bitL us p = if p < 64 * i then h p else f p)
  (h1 : Blk W c1 #[.pointer (some ⟨a, 0, none⟩)] 77) (h2 : Blk W c2 #[.func (.func fn) #[] #[]] 179) (h3 : Blk W c3 #[.int .i64 (cnt (fun p => f p != h p) (64 * i) : Nat)] 3) (hk : But [g] w0.heap.size w0 W) (hc3 : w0.heap.size ≤ c3)
  (hyl : y < 18446744073709551616) (hyb : ∀ j, j < 64 → y.testBit j = h (64 * i + j))
  (A : Alike W' ((W.setCell ⟨g, i, none⟩ (.int .u64 y)).setCell ⟨c3, 0, none⟩ (.int .i64 (((cnt (fun p => f p != h p) (64 * i) : Nat) : Int) + (pc (us.getD i 0 ^^^ y) : Int))))) : TurnI w0 a g n c1 c2 c3 fn f h (i + 1) W' := by
 have n1 := hm.row.ne h1 (by decide)
 have n2 := hm.row.ne h2 (by decide)
 have n3 := hm.row.ne h3 (by decide)
 have n4 := hm.row.ne hm.head (by decide)
 have q1 := h3.ne h1 (by decide)
 have q2 := h3.ne h2 (by decide)
 have q4 := h3.ne hm.head (by decide)
 have hm2 := hm.put n4.symm (i := i) hyl
 refine ⟨us.set i y, ⟨?_, ?_, hm2.len, hm2.small, hm2.word⟩, ?_, ?_, ?_, ?_, ?_⟩
 ·exact (hm2.head.far q4.symm 0 _).alike A
 ·exact (hm2.row.far n3 0 _).alike A
 ·intro p
  rw [bitL_set hi, hb p]
  by_cases hp : p / 64 = i
  ·rw [if_pos hp, if_pos (by omega), hyb _ (Nat.mod_lt _ (by decide))]
   congr 1; omega
  ·rw [if_neg hp]
   by_cases hq : p < 64 * i
   ·rw [if_pos hq, if_pos (by omega)]
   ·rw [if_neg hq, if_neg (by omega)]
 ·exact ((h1.far n1.symm i _).far q1.symm 0 _).alike A
 ·exact ((h2.far n2.symm i _).far q2.symm 0 _).alike A
 ·have e := ((h3.far n3.symm i (.int .u64 y)).put 0 (.int .i64 (((cnt (fun p => f p != h p) (64 * i) : Nat) : Int) + (pc (us.getD i 0 ^^^ y) : Int)))).alike A
  have ec : cnt (fun p => f p != h p) (64 * (i + 1)) = cnt (fun p => f p != h p) (64 * i) + pc (us.getD i 0 ^^^ y) := by
   refine cnt_word (fun j hj => ?_)
   rw [Nat.testBit_xor, hyb j hj, ← bitL_at hj, hb, if_neg (by omega)]
  rw [ec]
  simpa using e
 ·refine ⟨A.os.trans hk.os, A.tape.trans hk.tape, A.output.trans hk.output, ?_, fun k hkk hn => ?_⟩
  ·rw [A.heap]; simpa using hk.size
  ·have e1 : k ≠ g := by simpa using hn
   have e2 : k ≠ c3 := by omega
   rw [A.heap, Deep.blk_setCell_other _ ⟨c3, 0, none⟩ _ k e2, Deep.blk_setCell_other _ ⟨g, i, none⟩ _ k e1]
   exact hk.block k hkk hn

theorem not_bit {r j : Nat} (hr : r < 18446744073709551616) : (18446744073709551615 - r).testBit j = (decide (j < 64) && !r.testBit j) := by
 have := Nat.testBit_two_pow_sub_succ (n := 64) (x := r) hr j
 rw [← this, show (2 : Nat) ^ 64 - (r + 1) = 18446744073709551615 - r by omega]

theorem xor_lt {x y : Nat} (hx : x < 18446744073709551616) (hy : y < 18446744073709551616) : x ^^^ y < 18446744073709551616 := Nat.xor_lt_two_pow (n := 64) hx hy

/-- A row of bits is so. -/
def rowB (a b : Nat) (v : Bool) (f : Nat → Bool) : Nat → Bool := fun p => if a ≤ p ∧ p ≤ b then v else f p

theorem step_or (w0 : World) (a g n c1 c2 c3 A B : Nat) (f : Nat → Bool) (hAB : A ≤ B) (hB : B < n) (hc3 : w0.heap.size ≤ c3) (i : Nat) (W : World) (hi1 : A / 64 ≤ i) (hi2 : i ≤ B / 64)
  (H : TurnI w0 a g n c1 c2 c3 160 f (rowB A B true f) i W) :
  Calls Tryz.prog 176 #[.int .i64 i, .int .u64 (rowM A B i), .pointer (some ⟨c1, 0, none⟩), .pointer (some ⟨c2, 0, none⟩), .pointer (some ⟨c3, 0, none⟩)] W fun e W' =>
   (e = .returned (.bool true) ∧ TurnI w0 a g n c1 c2 c3 160 f (rowB A B true f) (i + 1) W') ∨ (e = .returned (.bool false) ∧ False) := by
 obtain ⟨us, hm, hb, h1, h2, h3, hk⟩ := H
 have hlen := hm.len
 have hsm := hm.small
 have hi : i < us.length := by omega
 obtain ⟨hx, hxl⟩ := hm.get hi
 have hrl := rowM_lt A B i
 have hrb : ∀ j, j < 64 → (rowM A B i).testBit j = decide (A ≤ 64 * i + j ∧ 64 * i + j ≤ B) := fun j hj => by
  rw [rowM_bit hi1 hi2]; simp [hj]
 have hxb : ∀ j, j < 64 → (us.getD i 0).testBit j = f (64 * i + j) := fun j hj => by
  rw [← bitL_at hj, hb, if_neg (by omega)]
 obtain ⟨y, hy, hyl, hyb⟩ : ∃ y : Nat, bits .or .u64 ((us.getD i 0 : Nat) : Int) ((rowM A B i : Nat) : Int) = (y : Int) ∧ y < 18446744073709551616 ∧ ∀ j, j < 64 → y.testBit j = rowB A B true f (64 * i + j) := by
  refine ⟨us.getD i 0 ||| rowM A B i, bits_or_u64_nat _ _ hxl hrl, Nat.or_lt_two_pow (n := 64) hxl hrl, fun j hj => ?_⟩
  rw [Nat.testBit_or, hxb j hj, hrb j hj]
  unfold rowB
  split <;> simp [*]
 have ht := cnt_le (fun p => f p != rowB A B true f p) (64 * i)
 refine (turn1_or a g n us.length c1 c2 c3 i (us.getD i 0) y (us.getD i 0 ^^^ y) (rowM A B i) _ _ W h1 h2 h3 hm.head hm.row hi (by omega) hx hy (bits_xor_u64_nat _ _ hxl hyl) (xor_lt hxl hyl) (by omega)).mono ?_
 rintro e W' ⟨rfl, A1⟩
 exact Or.inl ⟨rfl, turn_keep hi hm hb h1 h2 h3 hk hc3 hyl hyb A1⟩

theorem step_not (w0 : World) (a g n c1 c2 c3 A B : Nat) (f : Nat → Bool) (hAB : A ≤ B) (hB : B < n) (hc3 : w0.heap.size ≤ c3) (i : Nat) (W : World) (hi1 : A / 64 ≤ i) (hi2 : i ≤ B / 64)
  (H : TurnI w0 a g n c1 c2 c3 162 f (rowB A B false f) i W) :
  Calls Tryz.prog 176 #[.int .i64 i, .int .u64 (rowM A B i), .pointer (some ⟨c1, 0, none⟩), .pointer (some ⟨c2, 0, none⟩), .pointer (some ⟨c3, 0, none⟩)] W fun e W' =>
   (e = .returned (.bool true) ∧ TurnI w0 a g n c1 c2 c3 162 f (rowB A B false f) (i + 1) W') ∨ (e = .returned (.bool false) ∧ False) := by
 obtain ⟨us, hm, hb, h1, h2, h3, hk⟩ := H
 have hlen := hm.len
 have hsm := hm.small
 have hi : i < us.length := by omega
 obtain ⟨hx, hxl⟩ := hm.get hi
 have hrl := rowM_lt A B i
 have hrb : ∀ j, j < 64 → (rowM A B i).testBit j = decide (A ≤ 64 * i + j ∧ 64 * i + j ≤ B) := fun j hj => by
  rw [rowM_bit hi1 hi2]; simp [hj]
 have hxb : ∀ j, j < 64 → (us.getD i 0).testBit j = f (64 * i + j) := fun j hj => by
  rw [← bitL_at hj, hb, if_neg (by omega)]
 obtain ⟨y, hy, hyl, hyb⟩ : ∃ y : Nat, bits .andNot .u64 ((us.getD i 0 : Nat) : Int) ((rowM A B i : Nat) : Int) = (y : Int) ∧ y < 18446744073709551616 ∧ ∀ j, j < 64 → y.testBit j = rowB A B false f (64 * i + j) := by
  refine ⟨us.getD i 0 &&& (18446744073709551615 - rowM A B i), ?_, Nat.lt_of_le_of_lt Nat.and_le_left hxl, fun j hj => ?_⟩
  ·rw [u64_andNot _ _ (by omega) (by omega) (by omega) (by omega)]
   simp
  ·rw [Nat.testBit_and, hxb j hj, not_bit hrl, hrb j hj]
   unfold rowB
   split <;> simp [*]
 have ht := cnt_le (fun p => f p != rowB A B false f p) (64 * i)
 refine (turn1_not a g n us.length c1 c2 c3 i (us.getD i 0) y (us.getD i 0 ^^^ y) (rowM A B i) _ _ W h1 h2 h3 hm.head hm.row hi (by omega) hx hy (bits_xor_u64_nat _ _ hxl hyl) (xor_lt hxl hyl) (by omega)).mono ?_
 rintro e W' ⟨rfl, A1⟩
 exact Or.inl ⟨rfl, turn_keep hi hm hb h1 h2 h3 hk hc3 hyl hyb A1⟩



theorem reach_yes (a : Nat) (n i : Int) (w : World) (hc : w.cell? ⟨a, 0, none⟩ = some (.int .i64 n)) (h : 0 ≤ i ∧ i < n) : Calls Tryz.prog 106 #[.pointer (some ⟨a, 0, none⟩), .int .i64 i] w fun e w' => e = .returned (.bool true) ∧ w' = w := by
 refine (reach_c a n i w hc).mono ?_
 rintro e w' ⟨rfl, rfl⟩
 exact ⟨by simp [h], rfl⟩

theorem reach_no (a : Nat) (n i : Int) (w : World) (hc : w.cell? ⟨a, 0, none⟩ = some (.int .i64 n)) (h : ¬ (0 ≤ i ∧ i < n)) : Calls Tryz.prog 106 #[.pointer (some ⟨a, 0, none⟩), .int .i64 i] w fun e w' => e = .returned (.bool false) ∧ w' = w := by
 refine (reach_c a n i w hc).mono ?_
 rintro e w' ⟨rfl, rfl⟩
 exact ⟨by simp only [decide_eq_false h], rfl⟩

theorem turn_nil_or (A B : Int) (w : World) : Calls Tryz.prog 159 #[.pointer none, .int .i64 A, .int .i64 B, .func (.func 160) #[] #[]] w fun e w' => e = .returned (.tuple #[.int .i64 0, .int .i64 2]) ∧ Below w.heap.size w w' := by
 go_enter Tryz.func159, Tryz.ntmps159
 go_wp2_with fail
 go_ret2
 exact ⟨rfl, by repeat (first | with_reducible exact Below.refl _ _ | with_reducible refine Below.drew ?_ | with_reducible refine Below.alloc ?_ (by first | omega | (simp <;> omega)) _ | with_reducible refine Below.setCell ?_ (by first | omega | (simp <;> omega)) _)⟩

set_option maxHeartbeats 1000000 in
theorem turn_bad_or (a g n : Nat) (A B : Int) (hbad : ¬ (0 ≤ A ∧ A ≤ B ∧ B < n)) (w : World) (k : Nat) (hc : Blk w a #[.int .i64 n, .slice (some ⟨g, 0, none⟩) k k] 122) :
  Calls Tryz.prog 159 #[.pointer (some ⟨a, 0, none⟩), .int .i64 A, .int .i64 B, .func (.func 160) #[] #[]] w fun e w' => e = .returned (.tuple #[.int .i64 0, .int .i64 1]) ∧ Below w.heap.size w w' := by
 by_cases h1 : 0 ≤ A ∧ A < n
 ·by_cases h2 : 0 ≤ B ∧ B < n
  ·have h3 : B < A := by omega
   go_enter Tryz.func159, Tryz.ntmps159
   go_wp2_with fail
   refine (reach_yes a n A _ (((hc.alloc _).alloc _).cell 0) h1).mono ?_
   rintro e w1 ⟨rfl, rfl⟩
   go_wp2_with fail
   refine (reach_yes a n B _ (((hc.alloc _).alloc _).cell 0) h2).mono ?_
   rintro e w1 ⟨rfl, rfl⟩
   go_wp2_with fail
   go_ret2
   exact ⟨rfl, by repeat (first | with_reducible exact Below.refl _ _ | with_reducible refine Below.drew ?_ | with_reducible refine Below.alloc ?_ (by first | omega | (simp <;> omega)) _ | with_reducible refine Below.setCell ?_ (by first | omega | (simp <;> omega)) _)⟩
  ·go_enter Tryz.func159, Tryz.ntmps159
   go_wp2_with fail
   refine (reach_yes a n A _ (((hc.alloc _).alloc _).cell 0) h1).mono ?_
   rintro e w1 ⟨rfl, rfl⟩
   go_wp2_with fail
   refine (reach_no a n B _ (((hc.alloc _).alloc _).cell 0) h2).mono ?_
   rintro e w1 ⟨rfl, rfl⟩
   go_wp2_with fail
   go_ret2
   exact ⟨rfl, by repeat (first | with_reducible exact Below.refl _ _ | with_reducible refine Below.drew ?_ | with_reducible refine Below.alloc ?_ (by first | omega | (simp <;> omega)) _ | with_reducible refine Below.setCell ?_ (by first | omega | (simp <;> omega)) _)⟩
 ·go_enter Tryz.func159, Tryz.ntmps159
  go_wp2_with fail
  refine (reach_no a n A _ (((hc.alloc _).alloc _).cell 0) h1).mono ?_
  rintro e w1 ⟨rfl, rfl⟩
  go_wp2_with fail
  go_ret2
  exact ⟨rfl, by repeat (first | with_reducible exact Below.refl _ _ | with_reducible refine Below.drew ?_ | with_reducible refine Below.alloc ?_ (by first | omega | (simp <;> omega)) _ | with_reducible refine Below.setCell ?_ (by first | omega | (simp <;> omega)) _)⟩

set_option maxHeartbeats 1000000 in
theorem turn_bad_not (a g n : Nat) (A B : Int) (hbad : ¬ (0 ≤ A ∧ A ≤ B ∧ B < n)) (w : World) (k : Nat) (hc : Blk w a #[.int .i64 n, .slice (some ⟨g, 0, none⟩) k k] 122) :
  Calls Tryz.prog 159 #[.pointer (some ⟨a, 0, none⟩), .int .i64 A, .int .i64 B, .func (.func 162) #[] #[]] w fun e w' => e = .returned (.tuple #[.int .i64 0, .int .i64 1]) ∧ Below w.heap.size w w' := by
 by_cases h1 : 0 ≤ A ∧ A < n
 ·by_cases h2 : 0 ≤ B ∧ B < n
  ·have h3 : B < A := by omega
   go_enter Tryz.func159, Tryz.ntmps159
   go_wp2_with fail
   refine (reach_yes a n A _ (((hc.alloc _).alloc _).cell 0) h1).mono ?_
   rintro e w1 ⟨rfl, rfl⟩
   go_wp2_with fail
   refine (reach_yes a n B _ (((hc.alloc _).alloc _).cell 0) h2).mono ?_
   rintro e w1 ⟨rfl, rfl⟩
   go_wp2_with fail
   go_ret2
   exact ⟨rfl, by repeat (first | with_reducible exact Below.refl _ _ | with_reducible refine Below.drew ?_ | with_reducible refine Below.alloc ?_ (by first | omega | (simp <;> omega)) _ | with_reducible refine Below.setCell ?_ (by first | omega | (simp <;> omega)) _)⟩
  ·go_enter Tryz.func159, Tryz.ntmps159
   go_wp2_with fail
   refine (reach_yes a n A _ (((hc.alloc _).alloc _).cell 0) h1).mono ?_
   rintro e w1 ⟨rfl, rfl⟩
   go_wp2_with fail
   refine (reach_no a n B _ (((hc.alloc _).alloc _).cell 0) h2).mono ?_
   rintro e w1 ⟨rfl, rfl⟩
   go_wp2_with fail
   go_ret2
   exact ⟨rfl, by repeat (first | with_reducible exact Below.refl _ _ | with_reducible refine Below.drew ?_ | with_reducible refine Below.alloc ?_ (by first | omega | (simp <;> omega)) _ | with_reducible refine Below.setCell ?_ (by first | omega | (simp <;> omega)) _)⟩
 ·go_enter Tryz.func159, Tryz.ntmps159
  go_wp2_with fail
  refine (reach_no a n A _ (((hc.alloc _).alloc _).cell 0) h1).mono ?_
  rintro e w1 ⟨rfl, rfl⟩
  go_wp2_with fail
  go_ret2
  exact ⟨rfl, by repeat (first | with_reducible exact Below.refl _ _ | with_reducible refine Below.drew ?_ | with_reducible refine Below.alloc ?_ (by first | omega | (simp <;> omega)) _ | with_reducible refine Below.setCell ?_ (by first | omega | (simp <;> omega)) _)⟩

theorem turn_start {w : World} {a g n fn : Nat} {f : Nat → Bool} {A B : Nat} {v : Bool} (H : MapB w a g n f) (hAB : A ≤ B) :
  TurnI w a g n w.heap.size (w.heap.size + 1) (w.heap.size + 1 + 1) fn f (rowB A B v f) (A / 64) (((w.alloc (.cells #[.pointer (some ⟨a, 0, none⟩)] 77)).alloc (.cells #[.func (.func fn) #[] #[]] 179)).alloc (.cells #[.int .i64 0] 3)) := by
 obtain ⟨⟨ws, hm, hbits⟩, hbeh⟩ := H
 have lt : ∀ p, p < 64 * (A / 64) → rowB A B v f p = f p := fun p hp => by
  unfold rowB; rw [if_neg (by omega)]
 have c0 : cnt (fun p => f p != rowB A B v f p) (64 * (A / 64)) = 0 := cnt_zero (fun p hp => by rw [lt p hp]; simp)
 have e1 := Blk.new w #[.pointer (some ⟨a, 0, none⟩)] 77
 have e2 := Blk.new (w.alloc (.cells #[.pointer (some ⟨a, 0, none⟩)] 77)) #[.func (.func fn) #[] #[]] 179
 have e3 := Blk.new ((w.alloc (.cells #[.pointer (some ⟨a, 0, none⟩)] 77)).alloc (.cells #[.func (.func fn) #[] #[]] 179)) #[.int .i64 0] 3
 rw [show (w.alloc (.cells #[.pointer (some ⟨a, 0, none⟩)] 77)).heap.size = w.heap.size + 1 by simp] at e2
 rw [show ((w.alloc (.cells #[.pointer (some ⟨a, 0, none⟩)] 77)).alloc (.cells #[.func (.func fn) #[] #[]] 179)).heap.size = w.heap.size + 1 + 1 by simp] at e3
 have bl : Below w.heap.size w (((w.alloc (.cells #[.pointer (some ⟨a, 0, none⟩)] 77)).alloc (.cells #[.func (.func fn) #[] #[]] 179)).alloc (.cells #[.int .i64 0] 3)) := by repeat (first | with_reducible exact Below.refl _ _ | with_reducible refine Below.drew ?_ | with_reducible refine Below.alloc ?_ (by first | omega | (simp <;> omega)) _ | with_reducible refine Below.setCell ?_ (by first | omega | (simp <;> omega)) _)
 refine ⟨ws, hm.but (But.of (L := []) bl (Nat.le_refl _)) hm.head.lt hm.row.lt (by simp) (by simp), fun p => ?_, (e1.alloc _).alloc _, e2.alloc _, ?_, But.of bl (Nat.le_refl _)⟩
 ·rw [hbits]
  split
  ·rename_i h; rw [lt p h]
  ·rfl
 ·rw [c0]; exact e3

theorem turn_end {w W : World} {a g n fn c1 c2 c3 : Nat} {f : Nat → Bool} {A B : Nat} {v : Bool} (hAB : A ≤ B) (hB : B < n) (hbeh : ∀ p, n ≤ p → f p = false) (H : TurnI w a g n c1 c2 c3 fn f (rowB A B v f) (B / 64 + 1) W) :
  MapB W a g n (rowB A B v f) ∧ But [g] w.heap.size w W ∧ W.cell? ⟨c3, 0, none⟩ = some (.int .i64 (cnt (fun p => f p != rowB A B v f p) 65536 : Nat)) := by
 obtain ⟨us, hm, hb, h1, h2, h3, hk⟩ := H
 have hn := hm.small
 have far : ∀ p, 64 * (B / 64 + 1) ≤ p → rowB A B v f p = f p := fun p hp => by
  unfold rowB; rw [if_neg (by omega)]
 refine ⟨⟨⟨us, hm, fun p => ?_⟩, fun p hp => ?_⟩, hk, ?_⟩
 ·rw [hb]
  split
  ·rfl
  ·rename_i h; rw [far p (by omega)]
 ·unfold rowB; rw [if_neg (by omega), hbeh p hp]
 ·rw [h3.cell 0, cnt_more (a := 64 * (B / 64 + 1)) (b := 65536) (by omega) (fun k h4 h5 => by rw [far k h4]; simp)]
  rfl

theorem Each_or (w : World) (a g n A B : Nat) (f : Nat → Bool) (hAB : A ≤ B) (hB : B < n) (hn : n ≤ 65536) (hbeh : ∀ p, n ≤ p → f p = false) (W : World) (S0 : TurnI w a g n w.heap.size (w.heap.size + 1) (w.heap.size + 1 + 1) 160 f (rowB A B true f) (A / 64) W) :
  Calls Tryz.prog 96 #[.int .i64 A, .int .i64 B, .func (.func 176) #[] #[.pointer (some ⟨w.heap.size, 0, none⟩), .pointer (some ⟨w.heap.size + 1, 0, none⟩), .pointer (some ⟨w.heap.size + 1 + 1, 0, none⟩)]] W fun e W' => e = .returned (.tuple #[]) ∧
   MapB W' a g n (rowB A B true f) ∧ But [g] w.heap.size w W' ∧ W'.cell? ⟨w.heap.size + 1 + 1, 0, none⟩ = some (.int .i64 (cnt (fun p => f p != rowB A B true f p) 65536 : Nat)) := by
 refine (each_turn A B w.heap.size (w.heap.size + 1) (w.heap.size + 1 + 1) hAB (by omega) (TurnI w a g n w.heap.size (w.heap.size + 1) (w.heap.size + 1 + 1) 160 f (rowB A B true f)) (fun _ => False) W (fun i V h1 h2 h => step_or w a g n _ _ _ A B f hAB hB (by omega) i V h1 h2 h) S0).mono ?_
 rintro e W' ⟨rfl, h | h⟩
 ·exact ⟨rfl, turn_end hAB hB hbeh h⟩
 ·exact h.elim

theorem Each_not (w : World) (a g n A B : Nat) (f : Nat → Bool) (hAB : A ≤ B) (hB : B < n) (hn : n ≤ 65536) (hbeh : ∀ p, n ≤ p → f p = false) (W : World) (S0 : TurnI w a g n w.heap.size (w.heap.size + 1) (w.heap.size + 1 + 1) 162 f (rowB A B false f) (A / 64) W) :
  Calls Tryz.prog 96 #[.int .i64 A, .int .i64 B, .func (.func 176) #[] #[.pointer (some ⟨w.heap.size, 0, none⟩), .pointer (some ⟨w.heap.size + 1, 0, none⟩), .pointer (some ⟨w.heap.size + 1 + 1, 0, none⟩)]] W fun e W' => e = .returned (.tuple #[]) ∧
   MapB W' a g n (rowB A B false f) ∧ But [g] w.heap.size w W' ∧ W'.cell? ⟨w.heap.size + 1 + 1, 0, none⟩ = some (.int .i64 (cnt (fun p => f p != rowB A B false f p) 65536 : Nat)) := by
 refine (each_turn A B w.heap.size (w.heap.size + 1) (w.heap.size + 1 + 1) hAB (by omega) (TurnI w a g n w.heap.size (w.heap.size + 1) (w.heap.size + 1 + 1) 162 f (rowB A B false f)) (fun _ => False) W (fun i V h1 h2 h => step_not w a g n _ _ _ A B f hAB hB (by omega) i V h1 h2 h) S0).mono ?_
 rintro e W' ⟨rfl, h | h⟩
 ·exact ⟨rfl, turn_end hAB hB hbeh h⟩
 ·exact h.elim

set_option maxHeartbeats 1000000 in
theorem turn_or (a g n A B : Nat) (f : Nat → Bool) (hAB : A ≤ B) (hB : B < n) (w : World) (H : MapB w a g n f) :
  Calls Tryz.prog 159 #[.pointer (some ⟨a, 0, none⟩), .int .i64 A, .int .i64 B, .func (.func 160) #[] #[]] w fun e w' =>
   e = .returned (.tuple #[.int .i64 (cnt (fun p => f p != rowB A B true f p) 65536 : Nat), .int .i64 0]) ∧ MapB w' a g n (rowB A B true f) ∧ But [g] w.heap.size w w' := by
 obtain ⟨hla, hlg, hne, hn⟩ := H.lt
 have S0 := turn_start (fn := 160) (v := true) H hAB
 have HE := Each_or w a g n A B f hAB hB hn H.behind
 obtain ⟨⟨ws, hm, hbits⟩, hbeh⟩ := H
 have hc := hm.head
 have hBA : ¬ ((B : Int) < A) := by omega
 have hmf : ∀ (fn : Fn) (first cap : Array Value) (w : World), (Instr.makeFunc fn first cap).run Tryz.prog w = .ok (.func fn first cap) w := fun _ _ _ _ => rfl
 have SH : Hid _ := S0
 have EH : Hid _ := HE
 clear S0 HE hm hbits hbeh
 go_enter Tryz.func159, Tryz.ntmps159
 go_wp2_with fail
 refine (reach_yes a n A _ (((hc.alloc _).alloc _).cell 0) (by omega)).mono ?_
 rintro e w1 ⟨rfl, rfl⟩
 go_wp2_with fail
 refine (reach_yes a n B _ (((hc.alloc _).alloc _).cell 0) (by omega)).mono ?_
 rintro e w1 ⟨rfl, rfl⟩
 go_wp2_with fail
 refine (EH.out _ SH.out).mono ?_
 rintro e w1 ⟨rfl, hM, hK, hcell⟩
 clear EH SH hc
 generalize hcc : cnt (fun p => f p != rowB A B true f p) 65536 = c at *
 have HC : Hid _ := hcc
 clear hcc
 go_wp2_with fail
 go_ret2
 exact ⟨by rw [HC.out]; rfl, hM, hK⟩

set_option maxHeartbeats 1000000 in
theorem turn_not (a g n A B : Nat) (f : Nat → Bool) (hAB : A ≤ B) (hB : B < n) (w : World) (H : MapB w a g n f) :
  Calls Tryz.prog 159 #[.pointer (some ⟨a, 0, none⟩), .int .i64 A, .int .i64 B, .func (.func 162) #[] #[]] w fun e w' =>
   e = .returned (.tuple #[.int .i64 (cnt (fun p => f p != rowB A B false f p) 65536 : Nat), .int .i64 0]) ∧ MapB w' a g n (rowB A B false f) ∧ But [g] w.heap.size w w' := by
 obtain ⟨hla, hlg, hne, hn⟩ := H.lt
 have S0 := turn_start (fn := 162) (v := false) H hAB
 have HE := Each_not w a g n A B f hAB hB hn H.behind
 obtain ⟨⟨ws, hm, hbits⟩, hbeh⟩ := H
 have hc := hm.head
 have hBA : ¬ ((B : Int) < A) := by omega
 have hmf : ∀ (fn : Fn) (first cap : Array Value) (w : World), (Instr.makeFunc fn first cap).run Tryz.prog w = .ok (.func fn first cap) w := fun _ _ _ _ => rfl
 have SH : Hid _ := S0
 have EH : Hid _ := HE
 clear S0 HE hm hbits hbeh
 go_enter Tryz.func159, Tryz.ntmps159
 go_wp2_with fail
 refine (reach_yes a n A _ (((hc.alloc _).alloc _).cell 0) (by omega)).mono ?_
 rintro e w1 ⟨rfl, rfl⟩
 go_wp2_with fail
 refine (reach_yes a n B _ (((hc.alloc _).alloc _).cell 0) (by omega)).mono ?_
 rintro e w1 ⟨rfl, rfl⟩
 go_wp2_with fail
 refine (EH.out _ SH.out).mono ?_
 rintro e w1 ⟨rfl, hM, hK, hcell⟩
 clear EH SH hc
 generalize hcc : cnt (fun p => f p != rowB A B false f p) 65536 = c at *
 have HC : Hid _ := hcc
 clear hcc
 go_wp2_with fail
 go_ret2
 exact ⟨by rw [HC.out]; rfl, hM, hK⟩

theorem fill_bad (a g n : Nat) (A B : Int) (hbad : ¬ (0 ≤ A ∧ A ≤ B ∧ B < n)) (w : World) (k : Nat) (hc : Blk w a #[.int .i64 n, .slice (some ⟨g, 0, none⟩) k k] 122) :
  Calls Tryz.prog 128 #[.pointer (some ⟨a, 0, none⟩), .int .i64 A, .int .i64 B] w fun e w' => e = .returned (.tuple #[.int .i64 0, .int .i64 1]) ∧ Below w.heap.size w w' := by
 have hmf : ∀ (fn : Fn) (first cap : Array Value) (w : World), (Instr.makeFunc fn first cap).run Tryz.prog w = .ok (.func fn first cap) w := fun _ _ _ _ => rfl
 go_enter Tryz.func128, Tryz.ntmps128
 go_wp2_with fail
 refine (turn_bad_or a g n A B hbad _ k hc).mono ?_
 rintro e w1 ⟨rfl, hb⟩
 go_wp2_with fail
 go_ret2
 exact ⟨rfl, hb⟩

theorem clear_bad (a g n : Nat) (A B : Int) (hbad : ¬ (0 ≤ A ∧ A ≤ B ∧ B < n)) (w : World) (k : Nat) (hc : Blk w a #[.int .i64 n, .slice (some ⟨g, 0, none⟩) k k] 122) :
  Calls Tryz.prog 130 #[.pointer (some ⟨a, 0, none⟩), .int .i64 A, .int .i64 B] w fun e w' => e = .returned (.tuple #[.int .i64 0, .int .i64 1]) ∧ Below w.heap.size w w' := by
 have hmf : ∀ (fn : Fn) (first cap : Array Value) (w : World), (Instr.makeFunc fn first cap).run Tryz.prog w = .ok (.func fn first cap) w := fun _ _ _ _ => rfl
 go_enter Tryz.func130, Tryz.ntmps130
 go_wp2_with fail
 refine (turn_bad_not a g n A B hbad _ k hc).mono ?_
 rintro e w1 ⟨rfl, hb⟩
 go_wp2_with fail
 go_ret2
 exact ⟨rfl, hb⟩

theorem fill_ok (a g n A B : Nat) (f : Nat → Bool) (hAB : A ≤ B) (hB : B < n) (w : World) (H : MapB w a g n f) :
  Calls Tryz.prog 128 #[.pointer (some ⟨a, 0, none⟩), .int .i64 A, .int .i64 B] w fun e w' =>
   e = .returned (.tuple #[.int .i64 (cnt (fun p => f p != rowB A B true f p) 65536 : Nat), .int .i64 0]) ∧ MapB w' a g n (rowB A B true f) ∧ But [g] w.heap.size w w' := by
 have hmf : ∀ (fn : Fn) (first cap : Array Value) (w : World), (Instr.makeFunc fn first cap).run Tryz.prog w = .ok (.func fn first cap) w := fun _ _ _ _ => rfl
 have TH : Hid _ := fun w H => turn_or a g n A B f hAB hB w H
 have HH : Hid _ := H
 clear H
 go_enter Tryz.func128, Tryz.ntmps128
 go_wp2_with fail
 refine (TH.out _ HH.out).mono ?_
 rintro e w1 ⟨rfl, hM, hK⟩
 clear TH HH
 generalize hcc : cnt (fun p => f p != rowB A B true f p) 65536 = c at *
 have HC : Hid _ := hcc
 clear hcc
 go_wp2_with fail
 go_ret2
 exact ⟨by rw [HC.out]; rfl, hM, hK⟩

theorem clear_ok (a g n A B : Nat) (f : Nat → Bool) (hAB : A ≤ B) (hB : B < n) (w : World) (H : MapB w a g n f) :
  Calls Tryz.prog 130 #[.pointer (some ⟨a, 0, none⟩), .int .i64 A, .int .i64 B] w fun e w' =>
   e = .returned (.tuple #[.int .i64 (cnt (fun p => f p != rowB A B false f p) 65536 : Nat), .int .i64 0]) ∧ MapB w' a g n (rowB A B false f) ∧ But [g] w.heap.size w w' := by
 have hmf : ∀ (fn : Fn) (first cap : Array Value) (w : World), (Instr.makeFunc fn first cap).run Tryz.prog w = .ok (.func fn first cap) w := fun _ _ _ _ => rfl
 have TH : Hid _ := fun w H => turn_not a g n A B f hAB hB w H
 have HH : Hid _ := H
 clear H
 go_enter Tryz.func130, Tryz.ntmps130
 go_wp2_with fail
 refine (TH.out _ HH.out).mono ?_
 rintro e w1 ⟨rfl, hM, hK⟩
 clear TH HH
 generalize hcc : cnt (fun p => f p != rowB A B false f p) 65536 = c at *
 have HC : Hid _ := hcc
 clear hcc
 go_wp2_with fail
 go_ret2
 exact ⟨by rw [HC.out]; rfl, hM, hK⟩

/-- A bit is so. -/
def upd (f : Nat → Bool) (i : Nat) (v : Bool) : Nat → Bool := fun p => if p = i then v else f p

theorem rowB_one (f : Nat → Bool) (i : Nat) (v : Bool) : rowB i i v f = upd f i v := by
 funext p
 unfold rowB upd
 by_cases h : p = i
 ·rw [if_pos h, if_pos (by omega)]
 ·rw [if_neg h, if_neg (by omega)]

theorem cnt_upd (f : Nat → Bool) (i : Nat) (v : Bool) (hi : i < 65536) : cnt (fun p => f p != rowB i i v f p) 65536 = if f i = v then 0 else 1 := by
 rw [rowB_one, cnt_one hi (fun k hk => by unfold upd; rw [if_neg hk]; simp)]
 unfold upd
 cases f i <;> cases v <;> simp



theorem put_bad (a g n : Nat) (A : Int) (hbad : ¬ (0 ≤ A ∧ A < n)) (w : World) (k : Nat) (hc : Blk w a #[.int .i64 n, .slice (some ⟨g, 0, none⟩) k k] 122) :
  Calls Tryz.prog 93 #[.pointer (some ⟨a, 0, none⟩), .int .i64 A] w fun e w' => e = .returned (.int .i64 1) ∧ Below w.heap.size w w' := by
 go_enter Tryz.func93, Tryz.ntmps93
 go_wp2_with fail
 refine (fill_bad a g n A A (by omega) _ k hc).mono ?_
 rintro e w1 ⟨rfl, hb⟩
 go_wp2_with fail
 go_ret
 exact ⟨rfl, hb⟩

theorem drop_bad (a g n : Nat) (A : Int) (hbad : ¬ (0 ≤ A ∧ A < n)) (w : World) (k : Nat) (hc : Blk w a #[.int .i64 n, .slice (some ⟨g, 0, none⟩) k k] 122) :
  Calls Tryz.prog 99 #[.pointer (some ⟨a, 0, none⟩), .int .i64 A] w fun e w' => e = .returned (.int .i64 1) ∧ Below w.heap.size w w' := by
 go_enter Tryz.func99, Tryz.ntmps99
 go_wp2_with fail
 refine (clear_bad a g n A A (by omega) _ k hc).mono ?_
 rintro e w1 ⟨rfl, hb⟩
 go_wp2_with fail
 go_ret
 exact ⟨rfl, hb⟩

theorem put_same (a g n i : Nat) (f : Nat → Bool) (hi : i < n) (hf : f i = true) (w : World) (H : MapB w a g n f) :
  Calls Tryz.prog 93 #[.pointer (some ⟨a, 0, none⟩), .int .i64 i] w fun e w' => e = .returned (.int .i64 14) ∧ MapB w' a g n (upd f i true) ∧ But [g] w.heap.size w w' := by
 have hn := H.lt.2.2.2
 have FH := hide (fill_ok a g n i i f (Nat.le_refl _) hi w H)
 clear H
 go_enter Tryz.func93, Tryz.ntmps93
 go_wp2_with fail
 refine FH.out.mono ?_
 rintro e w1 ⟨rfl, hM, hK⟩
 clear FH
 rw [cnt_upd f i true (by omega), if_pos hf]
 go_wp2_with fail
 go_ret
 exact ⟨rfl, rowB_one f i true ▸ hM, hK⟩

theorem drop_same (a g n i : Nat) (f : Nat → Bool) (hi : i < n) (hf : f i = false) (w : World) (H : MapB w a g n f) :
  Calls Tryz.prog 99 #[.pointer (some ⟨a, 0, none⟩), .int .i64 i] w fun e w' => e = .returned (.int .i64 7) ∧ MapB w' a g n (upd f i false) ∧ But [g] w.heap.size w w' := by
 have hn := H.lt.2.2.2
 have FH := hide (clear_ok a g n i i f (Nat.le_refl _) hi w H)
 clear H
 go_enter Tryz.func99, Tryz.ntmps99
 go_wp2_with fail
 refine FH.out.mono ?_
 rintro e w1 ⟨rfl, hM, hK⟩
 clear FH
 rw [cnt_upd f i false (by omega), if_pos hf]
 go_wp2_with fail
 go_ret
 exact ⟨rfl, rowB_one f i false ▸ hM, hK⟩

theorem put_new (a g n i : Nat) (f : Nat → Bool) (hi : i < n) (hf : f i = false) (w : World) (H : MapB w a g n f) :
  Calls Tryz.prog 93 #[.pointer (some ⟨a, 0, none⟩), .int .i64 i] w fun e w' => e = .returned (.int .i64 0) ∧ MapB w' a g n (upd f i true) ∧ But [g] w.heap.size w w' := by
 have hn := H.lt.2.2.2
 have FH := hide (fill_ok a g n i i f (Nat.le_refl _) hi w H)
 clear H
 go_enter Tryz.func93, Tryz.ntmps93
 go_wp2_with fail
 refine FH.out.mono ?_
 rintro e w1 ⟨rfl, hM, hK⟩
 clear FH
 rw [cnt_upd f i true (by omega), if_neg (by simp [hf])]
 go_wp2_with fail
 go_ret
 exact ⟨rfl, rowB_one f i true ▸ hM, hK⟩

theorem drop_new (a g n i : Nat) (f : Nat → Bool) (hi : i < n) (hf : f i = true) (w : World) (H : MapB w a g n f) :
  Calls Tryz.prog 99 #[.pointer (some ⟨a, 0, none⟩), .int .i64 i] w fun e w' => e = .returned (.int .i64 0) ∧ MapB w' a g n (upd f i false) ∧ But [g] w.heap.size w w' := by
 have hn := H.lt.2.2.2
 have FH := hide (clear_ok a g n i i f (Nat.le_refl _) hi w H)
 clear H
 go_enter Tryz.func99, Tryz.ntmps99
 go_wp2_with fail
 refine FH.out.mono ?_
 rintro e w1 ⟨rfl, hM, hK⟩
 clear FH
 rw [cnt_upd f i false (by omega), if_neg (by simp [hf])]
 go_wp2_with fail
 go_ret
 exact ⟨rfl, rowB_one f i false ▸ hM, hK⟩

theorem has_core (a g n k i x : Nat) (b : Bool) (hi : i < n) (hn : n ≤ 65536) (hk : k = (n + 63) / 64) (w : World) (hc : w.cell? ⟨a, 0, none⟩ = some (.int .i64 n)) (hs : w.cell? ⟨a, 1, none⟩ = some (.slice (some ⟨g, 0, none⟩) k k)) (hx : w.cell? ⟨g, i / 64, none⟩ = some (.int .u64 x))
  (hb : (bits .and .u64 ((x : Int) / 2 ^ (i % 64)) 1 == 1) = b) :
  Calls Tryz.prog 61 #[.pointer (some ⟨a, 0, none⟩), .int .i64 i] w fun e w' => e = .returned (.bool b) ∧ Below w.heap.size w w' := by
 have hik : i / 64 < k := by omega
 have R := hide (reach_yes a n i w hc (by omega))
 clear hc hk
 go_enter Tryz.func61, Tryz.ntmps61
 go_wp2_with fail
 refine R.out.mono ?_
 rintro e w1 ⟨rfl, rfl⟩
 go_wp2_with fail
 go_ret
 exact ⟨rfl, Below.refl _ _⟩

theorem bit_one {x : Nat} (r : Nat) (hx : x < 18446744073709551616) : (bits .and .u64 ((x : Int) / 2 ^ r) 1 == 1) = x.testBit r := by
 have e : (x : Int) / 2 ^ r = ((x / 2 ^ r : Nat) : Int) := by
  have e2 : (2 : Int) ^ r = ((2 ^ r : Nat) : Int) := by rw [Int.natCast_pow]; rfl
  rw [e2]; rfl
 rw [e, and_nat (a := x / 2 ^ r) (b := 1) (Nat.lt_of_le_of_lt (Nat.div_le_self _ _) hx) (by decide) _ 1 rfl rfl, Nat.and_one_is_mod, Nat.testBit_eq_decide_div_mod_eq]
 have : x / 2 ^ r % 2 = 0 ∨ x / 2 ^ r % 2 = 1 := by omega
 rcases this with h | h <;> rw [h] <;> rfl

theorem bhas_ok (a g n i : Nat) (f : Nat → Bool) (hi : i < n) (w : World) (H : MapB w a g n f) : Calls Tryz.prog 61 #[.pointer (some ⟨a, 0, none⟩), .int .i64 i] w fun e w' => e = .returned (.bool (f i)) ∧ Below w.heap.size w w' := by
 have hn := H.lt.2.2.2
 obtain ⟨⟨ws, hm, hb⟩, _⟩ := H
 have hl := hm.len
 obtain ⟨h1, h2⟩ := hm.get (i := i / 64) (by omega)
 refine has_core a g n ws.length i (ws.getD (i / 64) 0) (f i) hi hn hl w (hm.head.cell 0) (hm.head.cell 1) ((hm.row.cell (i / 64)).trans h1) ?_
 rw [bit_one _ h2, ← hb]
 rfl



set_option maxHeartbeats 4000000 in
theorem count1_w (a g n k c1 c2 i x y r t : Nat) (cs : Array Value) (W : World)
  (hT : Blk W c1 #[.int .i64 t] 3) (hM : Blk W c2 #[.pointer (some ⟨a, 0, none⟩)] 77)
  (hH : Blk W a #[.int .i64 n, .slice (some ⟨g, 0, none⟩) k k] 122) (hR : Blk W g cs 22) (hi : i < k) (hk : k < 2000) (hx : cs[i]? = some (.int .u64 x))
  (hy : bits .and .u64 (x : Int) (r : Int) = (y : Int)) (hyl : y < 18446744073709551616) (ht : t < 1000000) :
  Calls Tryz.prog 97 #[.int .i64 i, .int .u64 r, .pointer (some ⟨c1, 0, none⟩), .pointer (some ⟨c2, 0, none⟩)] W fun e W' => e = .returned (.bool true) ∧
   Alike W' (W.setCell ⟨c1, 0, none⟩ (.int .i64 ((t : Int) + (pc y : Int)))) := by
 have t0 := hT.cell 0
 have t1 := hT.frozen 0
 have m0 := hM.cell 0
 have a1 := hH.cell 1
 have g0 := (hR.cell i).trans hx
 have hp := pc_le y
 have ew : IntKind.i64.wrap ((t : Int) + (pc y : Int)) = (t : Int) + (pc y : Int) := by rw [IntKind.wrap_i64]; omega
 simp at m0 a1 t0
 have hi' : (i : Int) < k := by omega
 clear hT hM hH hR hx
 go_enter Tryz.func97, Tryz.ntmps97
 go_upto_region 1 with fail
 go_region_with (go_at_call 98; refine (ones_w y hyl _).mono ?_; rintro e w1 ⟨rfl, rfl⟩)
 all_goals go_wp2_with fail
 all_goals go_ret
 all_goals exact ⟨rfl, by first | with_reducible exact Alike.drew _ | exact ⟨rfl, rfl, rfl, rfl⟩⟩



/-- Ahead of word i. -/
def CountI (w0 : World) (a g n c1 c2 : Nat) (f : Nat → Bool) (i : Nat) (W : World) : Prop :=
 MapB W a g n f ∧ Blk W c1 #[.int .i64 (cnt f (64 * i) : Nat)] 3 ∧ Blk W c2 #[.pointer (some ⟨a, 0, none⟩)] 77 ∧ Below w0.heap.size w0 W

theorem MapB.setFar {W : World} {a g n c : Nat} {f : Nat → Bool} (H : MapB W a g n f) (na : a ≠ c) (ng : g ≠ c) (i : Nat) (u : Value) : MapB (W.setCell ⟨c, i, none⟩ u) a g n f := by
 obtain ⟨⟨ws, hm, hb⟩, hbeh⟩ := H
 exact ⟨⟨ws, ⟨hm.head.far na i u, hm.row.far ng i u, hm.len, hm.small, hm.word⟩, hb⟩, hbeh⟩

theorem MapB.alike {W V : World} {a g n : Nat} {f : Nat → Bool} (H : MapB V a g n f) (A : Alike W V) : MapB W a g n f := by
 obtain ⟨⟨ws, hm, hb⟩, hbeh⟩ := H
 exact ⟨⟨ws, ⟨hm.head.alike A, hm.row.alike A, hm.len, hm.small, hm.word⟩, hb⟩, hbeh⟩

theorem below_alike {B : Nat} {w W V : World} (h : Below B w V) (A : Alike W V) : Below B w W :=
 ⟨A.os.trans h.os, A.tape.trans h.tape, A.output.trans h.output, by rw [A.heap]; exact h.size, fun k hk => by rw [A.heap]; exact h.block k hk⟩

theorem MapB.neOf {W : World} {a g n c : Nat} {f : Nat → Bool} {cs : Array Value} {t : TypeId} (H : MapB W a g n f) (h : Blk W c cs t) (h1 : 122 ≠ t) (h2 : 22 ≠ t) : a ≠ c ∧ g ≠ c := by
 obtain ⟨⟨ws, hm, hb⟩, hbeh⟩ := H
 exact ⟨hm.head.ne h h1, hm.row.ne h h2⟩

theorem count_step (w0 : World) (a g n c1 c2 : Nat) (f : Nat → Bool) (hn : 0 < n) (hc1 : w0.heap.size ≤ c1) (i : Nat) (W : World) (hi2 : i ≤ (n - 1) / 64) (H : CountI w0 a g n c1 c2 f i W) :
  Calls Tryz.prog 97 #[.int .i64 i, .int .u64 (rowM 0 (n - 1) i), .pointer (some ⟨c1, 0, none⟩), .pointer (some ⟨c2, 0, none⟩)] W fun e W' =>
   (e = .returned (.bool true) ∧ CountI w0 a g n c1 c2 f (i + 1) W') ∨ (e = .returned (.bool false) ∧ False) := by
 obtain ⟨hM, h1, h2, hb⟩ := H
 obtain ⟨na, ng⟩ := hM.neOf h1 (by decide) (by decide)
 have hn6 := hM.lt.2.2.2
 have hbeh := hM.behind
 have hM' := hM
 obtain ⟨⟨ws, hm, hbits⟩, _⟩ := hM
 have hlen := hm.len
 have hi : i < ws.length := by omega
 obtain ⟨hx, hxl⟩ := hm.get hi
 have hrl := rowM_lt 0 (n - 1) i
 have hyb : ∀ j, j < 64 → (ws.getD i 0 &&& rowM 0 (n - 1) i).testBit j = f (64 * i + j) := fun j hj => by
  rw [Nat.testBit_and, rowM_bit (by omega) hi2, ← bitL_at hj, hbits]
  by_cases h : 64 * i + j < n
  ·simp [hj, show 64 * i + j ≤ n - 1 by omega]
  ·rw [hbeh _ (by omega)]; rfl
 have ec := cnt_word (q := f) (i := i) hyb
 have ht := cnt_le f (64 * i)
 refine (count1_w a g n ws.length c1 c2 i (ws.getD i 0) (ws.getD i 0 &&& rowM 0 (n - 1) i) (rowM 0 (n - 1) i) (cnt f (64 * i)) _ W h1 h2 hm.head hm.row hi (by omega) hx (and_nat hxl hrl _ _ rfl rfl) (Nat.lt_of_le_of_lt Nat.and_le_left hxl) (by omega)).mono ?_
 rintro e W' ⟨rfl, A⟩
 have q := h1.ne h2 (by decide)
 refine Or.inl ⟨rfl, (hM'.setFar na ng _ _).alike A, ?_, (h2.far q.symm _ _).alike A, below_alike (hb.setCell (p := ⟨c1, 0, none⟩) hc1 _) A⟩
 have e := (h1.put 0 (.int .i64 ((cnt f (64 * i) : Int) + (pc (ws.getD i 0 &&& rowM 0 (n - 1) i) : Int)))).alike A
 rw [ec]
 simpa using e

theorem count_start {w : World} {a g n : Nat} {f : Nat → Bool} (H : MapB w a g n f) :
  CountI w a g n (w.heap.size + 1) w.heap.size f (0 / 64) ((w.alloc (.cells #[.pointer (some ⟨a, 0, none⟩)] 77)).alloc (.cells #[.int .i64 0] 3)) := by
 have e1 := Blk.new w #[.pointer (some ⟨a, 0, none⟩)] 77
 have e2 := Blk.new (w.alloc (.cells #[.pointer (some ⟨a, 0, none⟩)] 77)) #[.int .i64 0] 3
 rw [show (w.alloc (.cells #[.pointer (some ⟨a, 0, none⟩)] 77)).heap.size = w.heap.size + 1 by simp] at e2
 have bl : Below w.heap.size w ((w.alloc (.cells #[.pointer (some ⟨a, 0, none⟩)] 77)).alloc (.cells #[.int .i64 0] 3)) := by repeat (first | with_reducible exact Below.refl _ _ | with_reducible refine Below.drew ?_ | with_reducible refine Below.alloc ?_ (by first | omega | (simp <;> omega)) _ | with_reducible refine Below.setCell ?_ (by first | omega | (simp <;> omega)) _)
 exact ⟨H.below bl, e2, e1.alloc _, bl⟩

theorem count_each (w : World) (a g n : Nat) (f : Nat → Bool) (hn : 0 < n) (hn6 : n ≤ 65536) (hbeh : ∀ p, n ≤ p → f p = false) (W : World) (S0 : CountI w a g n (w.heap.size + 1) w.heap.size f (0 / 64) W) :
  Calls Tryz.prog 96 #[.int .i64 0, .int .i64 ((n : Int) - 1), .func (.func 97) #[] #[.pointer (some ⟨w.heap.size + 1, 0, none⟩), .pointer (some ⟨w.heap.size, 0, none⟩)]] W fun e W' => e = .returned (.tuple #[]) ∧
   W'.cell? ⟨w.heap.size + 1, 0, none⟩ = some (.int .i64 (cnt f n : Nat)) ∧ Below w.heap.size w W' := by
 have E := each_count 0 (n - 1) (w.heap.size + 1) w.heap.size (by omega) (by omega) (CountI w a g n (w.heap.size + 1) w.heap.size f) (fun _ => False) W (fun i V h1 h2 h => count_step w a g n _ _ f hn (by omega) i V h2 h) S0
 rw [show ((n - 1 : Nat) : Int) = (n : Int) - 1 by omega] at E
 refine E.mono ?_
 rintro e W' ⟨rfl, h | h⟩
 ·refine ⟨rfl, ?_, h.2.2.2⟩
  rw [h.2.1.cell 0, cnt_more (a := n) (b := 64 * ((n - 1) / 64 + 1)) (by omega) (fun k h4 h5 => hbeh k h4)]
  rfl
 ·exact h.elim

set_option maxHeartbeats 1000000 in
theorem count_nil (w : World) : Calls Tryz.prog 50 #[.pointer none] w fun e w' => e = .returned (.int .i64 0) ∧ Below w.heap.size w w' := by
 have hmf : ∀ (fn : Fn) (first cap : Array Value) (w : World), (Instr.makeFunc fn first cap).run Tryz.prog w = .ok (.func fn first cap) w := fun _ _ _ _ => rfl
 go_enter Tryz.func50, Tryz.ntmps50
 go_wp2_with fail
 refine (size_nil _).mono ?_
 rintro e w1 ⟨rfl, rfl⟩
 go_wp2_with fail
 refine (each0_count _ _ _).mono ?_
 rintro e w1 ⟨rfl, rfl⟩
 go_wp2_with fail
 go_ret
 exact ⟨rfl, by repeat (first | with_reducible exact Below.refl _ _ | with_reducible refine Below.drew ?_ | with_reducible refine Below.alloc ?_ (by first | omega | (simp <;> omega)) _ | with_reducible refine Below.setCell ?_ (by first | omega | (simp <;> omega)) _)⟩

set_option maxHeartbeats 1000000 in
theorem count_ok (a g n : Nat) (f : Nat → Bool) (w : World) (H : MapB w a g n f) : Calls Tryz.prog 50 #[.pointer (some ⟨a, 0, none⟩)] w fun e w' => e = .returned (.int .i64 (cnt f n : Nat)) ∧ Below w.heap.size w w' := by
 have hmf : ∀ (fn : Fn) (first cap : Array Value) (w : World), (Instr.makeFunc fn first cap).run Tryz.prog w = .ok (.func fn first cap) w := fun _ _ _ _ => rfl
 have hn6 := H.lt.2.2.2
 obtain ⟨ws, hm, _⟩ := H.is
 have hc := hm.head
 clear hm
 by_cases h0 : n = 0
 ·subst h0
  clear H
  go_enter Tryz.func50, Tryz.ntmps50
  go_wp2_with fail
  refine (size_c a (0 : Nat) _ (((hc.alloc _).alloc _).cell 0)).mono ?_
  rintro e w1 ⟨rfl, rfl⟩
  clear hc
  go_wp2_with fail
  refine (each0_count _ _ _).mono ?_
  rintro e w1 ⟨rfl, rfl⟩
  go_wp2_with fail
  go_ret
  exact ⟨rfl, by repeat (first | with_reducible exact Below.refl _ _ | with_reducible refine Below.drew ?_ | with_reducible refine Below.alloc ?_ (by first | omega | (simp <;> omega)) _ | with_reducible refine Below.setCell ?_ (by first | omega | (simp <;> omega)) _)⟩
 ·have S0 := count_start H
  have E0 := fun W S => count_each w a g n f (by omega) hn6 H.behind W S
  have SH := hide S0
  have EH := hide E0
  clear S0 E0 H
  obtain ⟨c, hcc⟩ : ∃ c, cnt f n = c := ⟨_, rfl⟩
  rw [hcc] at EH
  have HC := hide hcc
  clear hcc
  go_enter Tryz.func50, Tryz.ntmps50
  go_wp2_with fail
  refine (size_c a n _ (((hc.alloc _).alloc _).cell 0)).mono ?_
  rintro e w1 ⟨rfl, rfl⟩
  clear hc
  go_wp2_with fail
  refine (EH.out _ SH.out).mono ?_
  rintro e w1 ⟨rfl, hcell, hb⟩
  clear EH SH
  go_wp2_with fail
  go_ret
  exact ⟨by rw [HC.out]; rfl, hb⟩



/-- What the library's table holds. -/
def TB (w : World) : Prop := TabAt 2 Lib.deBruijn64tab w

theorem TB.lt {w : World} (h : TB w) : 2 < w.heap.size := by
 have e := h 0 (by decide)
 apply Classical.byContradiction
 intro c
 simp only [World.cell?] at e
 rw [Array.getElem?_eq_none (by omega)] at e
 cases e

theorem TB.below {w w' : World} (h : TB w) (hb : Below w.heap.size w w') : TB w' := fun j hj => (hb.cell (p := ⟨2, j, none⟩) h.lt).trans (h j hj)

/-- The lowest one of a word. -/
theorem ctz_low {y : Nat} (h0 : y ≠ 0) (h : y < 18446744073709551616) : Lib.ctz 64 y < 64 ∧ y.testBit (Lib.ctz 64 y) = true ∧ ∀ j, j < Lib.ctz 64 y → y.testBit j = false := by
 obtain ⟨m, e, lt⟩ := Lib.ctzFrom_spec 64 y (by omega) h
 have ec : Lib.ctz 64 y = Lib.ctzFrom 64 y := by unfold Lib.ctz; rw [if_neg h0]
 rw [ec]
 generalize Lib.ctzFrom 64 y = z at *
 subst e
 refine ⟨lt, ?_, fun j hj => ?_⟩
 ·rw [Nat.testBit_two_pow_mul]
  simp
 ·rw [Nat.testBit_two_pow_mul]
  simp [show ¬ z ≤ j by omega]

set_option maxHeartbeats 1000000 in
theorem first1_zero (a g n k c1 c2 c3 i x r : Nat) (W : World)
  (m0 : W.cell? ⟨c1, 0, none⟩ = some (.pointer (some ⟨a, 0, none⟩))) (f0 : W.cell? ⟨c3, 0, none⟩ = some (.bool false)) (a1 : W.cell? ⟨a, 1, none⟩ = some (.slice (some ⟨g, 0, none⟩) k k)) (g0 : W.cell? ⟨g, i, none⟩ = some (.int .u64 x))
  (hi : i < k) (hk : k < 2000) (hy : bits .andNot .u64 (r : Int) (x : Int) = 0) :
  Calls Tryz.prog 157 #[.int .i64 i, .int .u64 r, .pointer (some ⟨c1, 0, none⟩), .pointer (some ⟨c2, 0, none⟩), .pointer (some ⟨c3, 0, none⟩)] W fun e W' => e = .returned (.bool true) ∧ W' = W := by
 have hi' : (i : Int) < k := by omega
 go_enter Tryz.func157, Tryz.ntmps157
 go_wp2_with fail
 go_ret
 exact ⟨rfl, rfl⟩

set_option maxHeartbeats 1000000 in
theorem first1_some (a g n k c1 c2 c3 i x r y z : Nat) (W : World)
  (m0 : W.cell? ⟨c1, 0, none⟩ = some (.pointer (some ⟨a, 0, none⟩))) (a1 : W.cell? ⟨a, 1, none⟩ = some (.slice (some ⟨g, 0, none⟩) k k)) (g0 : W.cell? ⟨g, i, none⟩ = some (.int .u64 x))
  (s1 : W.frozen? ⟨c2, 0, none⟩ = false) (f1 : W.frozen? ⟨c3, 0, none⟩ = false) (s0 : W.cell? ⟨c2, 0, none⟩ = some (.int .i64 0)) (f0 : W.cell? ⟨c3, 0, none⟩ = some (.bool false)) (hne : c2 ≠ c3)
  (hi : i < k) (hk : k < 2000) (hy : bits .andNot .u64 (r : Int) (x : Int) = (y : Int)) (hy0 : y ≠ 0) (hyl : y < 18446744073709551616) (hz : Lib.ctz 64 y = z) (hzl : z < 64) (hT : TB W) :
  Calls Tryz.prog 157 #[.int .i64 i, .int .u64 r, .pointer (some ⟨c1, 0, none⟩), .pointer (some ⟨c2, 0, none⟩), .pointer (some ⟨c3, 0, none⟩)] W fun e W' => e = .returned (.bool false) ∧
   W' = (W.setCell ⟨c2, 0, none⟩ (.int .i64 ((i : Int) * 64 + (z : Int)))).setCell ⟨c3, 0, none⟩ (.bool true) := by
 have hi' : (i : Int) < k := by omega
 have TZ := hide (tz_w y hyl hy0 W hT)
 rw [hz] at TZ
 have hb : ((y : Int) != 0) = true := by simp; omega
 have hzz := hide hz
 clear hz hT hy0 hyl
 go_enter Tryz.func157, Tryz.ntmps157
 go_wp2_with fail
 refine TZ.out.mono ?_
 rintro e w1 ⟨rfl, rfl⟩
 go_wp2_with fail
 go_ret
 exact ⟨rfl, rfl⟩

/-- Ahead of word i: none has been found. -/
def FirstI (w0 : World) (a g n c1 c2 c3 : Nat) (f : Nat → Bool) (A B : Nat) (i : Nat) (W : World) : Prop :=
 MapB W a g n f ∧ Blk W c1 #[.pointer (some ⟨a, 0, none⟩)] 77 ∧ Blk W c2 #[.int .i64 0] 3 ∧ Blk W c3 #[.bool false] 4 ∧ Below w0.heap.size w0 W ∧ (∀ p, A ≤ p → p < 64 * i → p ≤ B → f p = true)

/-- One has been found. -/
def FirstQ (w0 : World) (c2 c3 : Nat) (f : Nat → Bool) (A B : Nat) (W : World) : Prop :=
 ∃ p, A ≤ p ∧ p ≤ B ∧ f p = false ∧ (∀ q, A ≤ q → q < p → f q = true) ∧ W.cell? ⟨c2, 0, none⟩ = some (.int .i64 (p : Nat)) ∧ W.cell? ⟨c3, 0, none⟩ = some (.bool true) ∧ Below w0.heap.size w0 W

theorem first_step (w0 : World) (a g n c1 c2 c3 : Nat) (f : Nat → Bool) (A B : Nat) (hAB : A ≤ B) (hB : B < n) (hc2 : w0.heap.size ≤ c2) (hc3 : w0.heap.size ≤ c3) (hT : TB w0) (i : Nat) (W : World) (hi1 : A / 64 ≤ i) (hi2 : i ≤ B / 64) (H : FirstI w0 a g n c1 c2 c3 f A B i W) :
  Calls Tryz.prog 157 #[.int .i64 i, .int .u64 (rowM A B i), .pointer (some ⟨c1, 0, none⟩), .pointer (some ⟨c2, 0, none⟩), .pointer (some ⟨c3, 0, none⟩)] W fun e W' =>
   (e = .returned (.bool true) ∧ FirstI w0 a g n c1 c2 c3 f A B (i + 1) W') ∨ (e = .returned (.bool false) ∧ FirstQ w0 c2 c3 f A B W') := by
 have H' := H
 obtain ⟨hM, h1, h2, h3, hb, hall⟩ := H
 have hn6 := hM.lt.2.2.2
 obtain ⟨⟨ws, hm, hbits⟩, _⟩ := hM
 have hlen := hm.len
 have hi : i < ws.length := by omega
 obtain ⟨hx, hxl⟩ := hm.get hi
 have hrl := rowM_lt A B i
 have q := h2.ne h3 (by decide)
 have ey : bits .andNot .u64 ((rowM A B i : Nat) : Int) ((ws.getD i 0 : Nat) : Int) = ((rowM A B i &&& (18446744073709551615 - ws.getD i 0) : Nat) : Int) := by
  rw [u64_andNot _ _ (by omega) (by omega) (by omega) (by omega)]
  simp
 have hyb : ∀ j, j < 64 → (rowM A B i &&& (18446744073709551615 - ws.getD i 0)).testBit j = (decide (A ≤ 64 * i + j ∧ 64 * i + j ≤ B) && !f (64 * i + j)) := fun j hj => by
  rw [Nat.testBit_and, rowM_bit hi1 hi2, not_bit hxl, ← bitL_at hj, hbits]
  simp [hj]
 have hyl : (rowM A B i &&& (18446744073709551615 - ws.getD i 0)) < 18446744073709551616 := Nat.lt_of_le_of_lt Nat.and_le_left hrl
 generalize (rowM A B i &&& (18446744073709551615 - ws.getD i 0)) = y at *
 by_cases hy0 : y = 0
 ·subst hy0
  refine (first1_zero a g n ws.length c1 c2 c3 i (ws.getD i 0) (rowM A B i) W (h1.cell 0) (h3.cell 0) (hm.head.cell 1) ((hm.row.cell i).trans hx) hi (by omega) ey).mono ?_
  rintro e W' ⟨rfl, rfl⟩
  refine Or.inl ⟨rfl, H'.1, h1, h2, h3, hb, fun p p1 p2 p3 => ?_⟩
  by_cases hp : p < 64 * i
  ·exact hall p p1 hp p3
  ·have := hyb (p - 64 * i) (by omega)
   rw [show 64 * i + (p - 64 * i) = p by omega, decide_eq_true ⟨p1, p3⟩] at this
   simpa using this
 ·obtain ⟨z1, z2, z3⟩ := ctz_low hy0 hyl
  refine (first1_some a g n ws.length c1 c2 c3 i (ws.getD i 0) (rowM A B i) y _ W (h1.cell 0) (hm.head.cell 1) ((hm.row.cell i).trans hx) (h2.frozen 0) (h3.frozen 0) (h2.cell 0) (h3.cell 0) q hi (by omega) ey hy0 hyl rfl z1 (hT.below hb)).mono ?_
  generalize Lib.ctz 64 y = z at *
  rintro e W' ⟨rfl, rfl⟩
  have b1 := hyb z z1
  rw [z2] at b1
  have b2 : (A ≤ 64 * i + z ∧ 64 * i + z ≤ B) ∧ f (64 * i + z) = false := by simpa using b1.symm
  have e2 := ((h2.put 0 (.int .i64 ((i : Int) * 64 + (z : Int)))).far q 0 (.bool true)).cell 0
  have e3 := ((h3.far q.symm 0 (.int .i64 ((i : Int) * 64 + (z : Int)))).put 0 (.bool true)).cell 0
  refine Or.inr ⟨rfl, 64 * i + z, b2.1.1, b2.1.2, b2.2, fun p p1 p2 => ?_, ?_, ?_, (hb.setCell (p := ⟨c2, 0, none⟩) hc2 _).setCell (p := ⟨c3, 0, none⟩) hc3 _⟩
  ·by_cases hp : p < 64 * i
   ·exact hall p p1 hp (by omega)
   ·have := hyb (p - 64 * i) (by omega)
    rw [show 64 * i + (p - 64 * i) = p by omega, decide_eq_true ⟨p1, by omega⟩, z3 _ (by omega)] at this
    simpa using this.symm
  ·rw [e2, show (((64 * i + z : Nat)) : Int) = (i : Int) * 64 + (z : Int) by omega]
   rfl
  ·rw [e3]; rfl

theorem first_start {w : World} {a g n : Nat} {f : Nat → Bool} {A B : Nat} (H : MapB w a g n f) :
  FirstI w a g n w.heap.size (w.heap.size + 1) (w.heap.size + 1 + 1) f A B (A / 64) (((w.alloc (.cells #[.pointer (some ⟨a, 0, none⟩)] 77)).alloc (.cells #[.int .i64 0] 3)).alloc (.cells #[.bool false] 4)) := by
 have e1 := Blk.new w #[.pointer (some ⟨a, 0, none⟩)] 77
 have e2 := Blk.new (w.alloc (.cells #[.pointer (some ⟨a, 0, none⟩)] 77)) #[.int .i64 0] 3
 have e3 := Blk.new ((w.alloc (.cells #[.pointer (some ⟨a, 0, none⟩)] 77)).alloc (.cells #[.int .i64 0] 3)) #[.bool false] 4
 rw [show (w.alloc (.cells #[.pointer (some ⟨a, 0, none⟩)] 77)).heap.size = w.heap.size + 1 by simp] at e2
 rw [show ((w.alloc (.cells #[.pointer (some ⟨a, 0, none⟩)] 77)).alloc (.cells #[.int .i64 0] 3)).heap.size = w.heap.size + 1 + 1 by simp] at e3
 have bl : Below w.heap.size w (((w.alloc (.cells #[.pointer (some ⟨a, 0, none⟩)] 77)).alloc (.cells #[.int .i64 0] 3)).alloc (.cells #[.bool false] 4)) := by repeat (first | with_reducible exact Below.refl _ _ | with_reducible refine Below.drew ?_ | with_reducible refine Below.alloc ?_ (by first | omega | (simp <;> omega)) _ | with_reducible refine Below.setCell ?_ (by first | omega | (simp <;> omega)) _)
 exact ⟨H.below bl, (e1.alloc _).alloc _, e2.alloc _, e3, bl, fun p p1 p2 p3 => by omega⟩

/-- What is found, and whether. -/
def skP (f : Nat → Bool) (a k : Nat) : Nat := (seek f a k).getD 0

def skB (f : Nat → Bool) (a k : Nat) : Bool := (seek f a k).isSome

theorem first_each (w : World) (a g n : Nat) (f : Nat → Bool) (A B : Nat) (hAB : A ≤ B) (hB : B < n) (hn6 : n ≤ 65536) (hT : TB w) (W : World) (S0 : FirstI w a g n w.heap.size (w.heap.size + 1) (w.heap.size + 1 + 1) f A B (A / 64) W) :
  Calls Tryz.prog 96 #[.int .i64 A, .int .i64 B, .func (.func 157) #[] #[.pointer (some ⟨w.heap.size, 0, none⟩), .pointer (some ⟨w.heap.size + 1, 0, none⟩), .pointer (some ⟨w.heap.size + 1 + 1, 0, none⟩)]] W fun e W' => e = .returned (.tuple #[]) ∧
   W'.cell? ⟨w.heap.size + 1, 0, none⟩ = some (.int .i64 (skP f A (B + 1 - A) : Nat)) ∧ W'.cell? ⟨w.heap.size + 1 + 1, 0, none⟩ = some (.bool (skB f A (B + 1 - A))) ∧ Below w.heap.size w W' := by
 refine (each_first A B w.heap.size (w.heap.size + 1) (w.heap.size + 1 + 1) hAB (by omega) (FirstI w a g n w.heap.size (w.heap.size + 1) (w.heap.size + 1 + 1) f A B) (FirstQ w (w.heap.size + 1) (w.heap.size + 1 + 1) f A B) W (fun i V h1 h2 h => first_step w a g n _ _ _ f A B hAB hB (by omega) (by omega) hT i V h1 h2 h) S0).mono ?_
 rintro e W' ⟨rfl, h | h⟩
 ·obtain ⟨_, _, h2, h3, hb, hall⟩ := h
  have es : seek f A (B + 1 - A) = none := seek_none (fun p p1 p2 => hall p p1 (by omega) (by omega))
  refine ⟨rfl, ?_, ?_, hb⟩
  ·rw [h2.cell 0, skP, es]; rfl
  ·rw [h3.cell 0, skB, es]; rfl
 ·obtain ⟨p, p1, p2, p3, p4, h2, h3, hb⟩ := h
  have es : seek f A (B + 1 - A) = some p := seek_some p1 (by omega) p3 p4
  refine ⟨rfl, ?_, ?_, hb⟩
  ·rw [h2, skP, es]; rfl
  ·rw [h3, skB, es]; rfl

set_option maxHeartbeats 1000000 in
theorem fn_ok (a g n : Nat) (f : Nat → Bool) (A B : Nat) (hAB : A ≤ B) (hB : B < n) (w : World) (H : MapB w a g n f) (hT : TB w) : Calls Tryz.prog 127 #[.pointer (some ⟨a, 0, none⟩), .int .i64 A, .int .i64 B] w fun e w' =>
  e = .returned (.tuple #[.int .i64 (skP f A (B + 1 - A) : Nat), .bool (skB f A (B + 1 - A))]) ∧ Below w.heap.size w w' := by
 have hmf : ∀ (fn : Fn) (first cap : Array Value) (w : World), (Instr.makeFunc fn first cap).run Tryz.prog w = .ok (.func fn first cap) w := fun _ _ _ _ => rfl
 have hn6 := H.lt.2.2.2
 have SH := hide (first_start (A := A) (B := B) H)
 have EH := hide (fun W S => first_each w a g n f A B hAB hB hn6 hT W S)
 clear H hT
 obtain ⟨p, hp⟩ : ∃ p, skP f A (B + 1 - A) = p := ⟨_, rfl⟩
 obtain ⟨b, hb⟩ : ∃ b, skB f A (B + 1 - A) = b := ⟨_, rfl⟩
 rw [hp, hb] at EH
 have HP := hide hp
 have HB := hide hb
 clear hp hb
 go_enter Tryz.func127, Tryz.ntmps127
 go_wp2_with fail
 refine (EH.out _ SH.out).mono ?_
 rintro e w1 ⟨rfl, c1, c2, hb⟩
 clear EH SH
 go_wp2_with fail
 go_region
 all_goals go_wp2_with fail
 all_goals go_ret2
 all_goals exact ⟨by rw [HP.out, HB.out]; rfl, by first | with_reducible exact hb | exact Below.drew hb⟩

set_option maxHeartbeats 1000000 in
theorem fn_none (a : Nat) (w : World) : Calls Tryz.prog 127 #[.pointer (some ⟨a, 0, none⟩), .int .i64 0, .int .i64 (-1)] w fun e w' =>
  e = .returned (.tuple #[.int .i64 0, .bool false]) ∧ Below w.heap.size w w' := by
 have hmf : ∀ (fn : Fn) (first cap : Array Value) (w : World), (Instr.makeFunc fn first cap).run Tryz.prog w = .ok (.func fn first cap) w := fun _ _ _ _ => rfl
 go_enter Tryz.func127, Tryz.ntmps127
 go_wp2_with fail
 refine (each0_first _ _ _ _).mono ?_
 rintro e w1 ⟨rfl, rfl⟩
 go_wp2_with fail
 go_region
 all_goals go_wp2_with fail
 all_goals go_ret2
 all_goals exact ⟨rfl, by repeat (first | with_reducible exact Below.refl _ _ | with_reducible refine Below.drew ?_ | with_reducible refine Below.alloc ?_ (by first | omega | (simp <;> omega)) _ | with_reducible refine Below.setCell ?_ (by first | omega | (simp <;> omega)) _)⟩

theorem nx_first {f : Nat → Bool} {n s p : Nat} (h : seek f s (n - s) = some p) : nxP f n s = p ∧ nxB f n s = true := by
 unfold nxP nxB nextF
 rw [h]; exact ⟨rfl, rfl⟩

theorem nx_second {f : Nat → Bool} {n s : Nat} (h : seek f s (n - s) = none) : nxP f n s = skP f 0 s ∧ nxB f n s = skB f 0 s := by
 unfold nxP nxB nextF
 rw [h]; exact ⟨rfl, rfl⟩

theorem fn_second (a g n : Nat) (f : Nat → Bool) (s : Nat) (hs : s < n) (w : World) (H : MapB w a g n f) (hT : TB w) (T : Int) (e : T = (s : Int) - 1) : Calls Tryz.prog 127 #[.pointer (some ⟨a, 0, none⟩), .int .i64 0, .int .i64 T] w fun e w' =>
  e = .returned (.tuple #[.int .i64 (skP f 0 s : Nat), .bool (skB f 0 s)]) ∧ Below w.heap.size w w' := by
 by_cases h : s = 0
 ·subst h
  obtain rfl : T = -1 := by omega
  exact fn_none a w
 ·have F := fn_ok a g n f 0 (s - 1) (by omega) (by omega) w H hT
  rw [show s - 1 + 1 - 0 = s by omega, show ((s - 1 : Nat) : Int) = T by omega] at F
  exact F

set_option maxHeartbeats 1000000 in
theorem next_ok (a g n : Nat) (f : Nat → Bool) (i : Int) (i0 : -9223372036854775808 ≤ i) (i1 : i ≤ 9223372036854775807) (hn0 : 0 < n) (w : World) (H : MapB w a g n f) (hT : TB w) : Calls Tryz.prog 92 #[.pointer (some ⟨a, 0, none⟩), .int .i64 i] w fun e w' =>
  e = .returned (.tuple #[.int .i64 (nxP f n (i.toNat % n) : Nat), .bool (nxB f n (i.toNat % n))]) ∧ Below w.heap.size w w' := by
 have hn6 := H.lt.2.2.2
 obtain ⟨ws, hm, _⟩ := H.is
 have hc := hm.head.cell 0
 obtain ⟨s, hs⟩ : ∃ s, i.toNat % n = s := ⟨_, rfl⟩
 have hsl : s < n := by rw [← hs]; exact Nat.mod_lt _ hn0
 have hz : ((n : Int) == 0) = false := by simp; omega
 rw [hs]
 simp at hc
 have F1 : ∀ S : Int, S = (s : Int) → Calls Tryz.prog 127 #[.pointer (some ⟨a, 0, none⟩), .int .i64 S, .int .i64 ((n : Int) - 1)] w fun e w' =>
  e = .returned (.tuple #[.int .i64 (skP f s (n - s) : Nat), .bool (skB f s (n - s))]) ∧ Below w.heap.size w w' := by
  rintro _ rfl
  have F1 := fn_ok a g n f s (n - 1) (by omega) (by omega) w H hT
  rw [show n - 1 + 1 - s = n - s by omega, show ((n - 1 : Nat) : Int) = (n : Int) - 1 by omega] at F1
  exact F1
 have F2 : ∀ W, Below w.heap.size w W → ∀ T : Int, T = (s : Int) - 1 → _ := fun W hb T e => fn_second a g n f s hsl W (H.below hb) (hT.below hb) T e
 have em : (i < 0 ∧ s = 0) ∨ (0 ≤ i ∧ i % (n : Int) = (s : Int)) := by
  by_cases h : i < 0
  ·left
   refine ⟨h, ?_⟩
   rw [← hs, show i.toNat = 0 by omega, Nat.zero_mod]
  ·right
   refine ⟨by omega, ?_⟩
   rw [← hs]
   obtain ⟨m, rfl⟩ := Int.eq_ofNat_of_zero_le (show 0 ≤ i by omega)
   simp
 have F1H := hide F1
 have F2H := hide F2
 have NF := hide (fun p => nx_first (f := f) (n := n) (s := s) (p := p))
 have NS := hide (nx_second (f := f) (n := n) (s := s))
 obtain ⟨o, ho⟩ : ∃ o, seek f s (n - s) = o := ⟨_, rfl⟩
 have eP : skP f s (n - s) = o.getD 0 := by unfold skP; rw [ho]
 have eB : skB f s (n - s) = o.isSome := by unfold skB; rw [ho]
 rw [eP, eB] at F1H
 rw [ho] at NF NS
 clear F1 F2 H hT hm hs ho eP eB
 rcases em with ⟨hi, rfl⟩ | ⟨hi, em⟩
 ·cases o with
  | none =>
   have NS' := hide (NS.out rfl)
   clear NS NF
   go_enter Tryz.func92, Tryz.ntmps92
   go_wp2_with fail
   refine (size_c a n _ hc).mono ?_
   rintro e w1 ⟨rfl, rfl⟩
   go_wp2_with fail
   refine (F1H.out _ (by simp)).mono ?_
   rintro e w2 ⟨rfl, hb⟩
   go_wp2_with fail
   refine (F2H.out _ hb _ (by simp)).mono ?_
   rintro e w3 ⟨rfl, hb2⟩
   go_wp2_with fail
   go_ret2
   exact ⟨by rw [NS'.out.1, NS'.out.2]; rfl, hb.trans (hb2.mono hb.size)⟩
  | some p =>
   have NF' := hide (NF.out p rfl)
   clear NS NF F2H
   go_enter Tryz.func92, Tryz.ntmps92
   go_wp2_with fail
   refine (size_c a n _ hc).mono ?_
   rintro e w1 ⟨rfl, rfl⟩
   go_wp2_with fail
   refine (F1H.out _ (by simp)).mono ?_
   rintro e w2 ⟨rfl, hb⟩
   go_wp2_with fail
   go_ret2
   exact ⟨by rw [NF'.out.1, NF'.out.2]; rfl, hb⟩
 ·have EM := hide em
  have m0 : 0 ≤ i % (n : Int) := by omega
  have m1 : i % (n : Int) < n := by omega
  clear em
  cases o with
  | none =>
   have NS' := hide (NS.out rfl)
   clear NS NF
   go_enter Tryz.func92, Tryz.ntmps92
   go_wp2_with fail
   refine (size_c a n _ hc).mono ?_
   rintro e w1 ⟨rfl, rfl⟩
   go_wp2_with fail
   refine (F1H.out _ EM.out).mono ?_
   rintro e w2 ⟨rfl, hb⟩
   go_wp2_with fail
   refine (F2H.out _ hb _ (by rw [EM.out])).mono ?_
   rintro e w3 ⟨rfl, hb2⟩
   go_wp2_with fail
   go_ret2
   exact ⟨by rw [NS'.out.1, NS'.out.2]; rfl, hb.trans (hb2.mono hb.size)⟩
  | some p =>
   have NF' := hide (NF.out p rfl)
   clear NS NF F2H
   go_enter Tryz.func92, Tryz.ntmps92
   go_wp2_with fail
   refine (size_c a n _ hc).mono ?_
   rintro e w1 ⟨rfl, rfl⟩
   go_wp2_with fail
   refine (F1H.out _ EM.out).mono ?_
   rintro e w2 ⟨rfl, hb⟩
   go_wp2_with fail
   go_ret2
   exact ⟨by rw [NF'.out.1, NF'.out.2]; rfl, hb⟩



theorem But.to {b B g : Nat} {w W W' : World} (k : But [g] B W W') (h : Below b w W) (hg : b ≤ g) (hB : b ≤ B) : Below b w W' :=
 ⟨k.os.trans h.os, k.tape.trans h.tape, k.output.trans h.output, Nat.le_trans h.size k.size, fun i hi => (k.block i (by omega) (by simp; omega)).trans (h.block i hi)⟩

/-- New, as bits. -/
theorem new_b (n : Nat) (hn : n ≤ 65536) (w : World) : Calls Tryz.prog 47 #[.int .i64 n] w fun e w' =>
  e = .returned (.tuple #[.pointer (some ⟨w.heap.size + 1, 0, none⟩), .int .i64 0]) ∧ MapB w' (w.heap.size + 1) w.heap.size n (fun _ => false) ∧ Below w.heap.size w w' ∧ w'.heap.size = w.heap.size + 2 := by
 refine (new_w n hn w).mono ?_
 rintro e w' ⟨rfl, hm, hb, hs⟩
 refine ⟨rfl, ⟨⟨_, hm, fun p => ?_⟩, fun _ _ => rfl⟩, hb, hs⟩
 unfold bitL
 rw [List.getD_eq_getElem?_getD, List.getElem?_replicate]
 split <;> simp



/-- The reference's map at a, its truths at g. -/
structure RefAt (W : World) (a g n : Nat) (f : Nat → Bool) : Prop where
 head : Blk W a #[.slice (some ⟨g, 0, none⟩) n n] 94
 row : Blk W g ((List.range n).map (fun p => Value.bool (f p))).toArray 4
 small : n ≤ 65536

theorem RefAt.get {W : World} {a g n : Nat} {f : Nat → Bool} (h : RefAt W a g n f) {i : Nat} (hi : i < n) : W.cell? ⟨g, i, none⟩ = some (.bool (f i)) := by
 rw [h.row.cell i]
 simp [hi]

theorem RefAt.slice {W : World} {a g n : Nat} {f : Nat → Bool} (h : RefAt W a g n f) : W.cell? ⟨a, 0, none⟩ = some (.slice (some ⟨g, 0, none⟩) n n) := h.head.cell 0

theorem RefAt.ne {W : World} {a g n : Nat} {f : Nat → Bool} (h : RefAt W a g n f) : a ≠ g := h.head.ne h.row (by decide)

theorem RefAt.put {W : World} {a g n : Nat} {f : Nat → Bool} (h : RefAt W a g n f) (i : Nat) (v : Bool) : RefAt (W.setCell ⟨g, i, none⟩ (.bool v)) a g n (upd f i v) := by
 refine ⟨h.head.far h.ne i _, ?_, h.small⟩
 have e : ((List.range n).map (fun p => Value.bool (f p))).toArray.setIfInBounds i (.bool v) = ((List.range n).map (fun p => Value.bool (upd f i v p))).toArray := by
  apply Array.ext'
  simp only [Array.toList_setIfInBounds]
  apply List.ext_getElem?
  intro p
  rw [List.getElem?_set]
  by_cases hp : i = p
  ·subst hp
   by_cases hi : i < n <;> simp [hi, upd]
  ·rw [if_neg hp]
   by_cases hi : p < n
   ·simp [hi, upd, Ne.symm hp]
   ·simp [hi]
 rw [← e]
 exact h.row.put i _

theorem RefAt.cast {W : World} {a g n : Nat} {f f' : Nat → Bool} (h : RefAt W a g n f) (e : ∀ p, p < n → f p = f' p) : RefAt W a g n f' := by
 refine ⟨h.head, ?_, h.small⟩
 rw [← List.map_congr_left (l := List.range n) (f := fun p => Value.bool (f p)) (g := fun p => Value.bool (f' p)) (fun p hp => by rw [e p (List.mem_range.1 hp)])]
 exact h.row

theorem RefAt.blks {W W' : World} {a g n : Nat} {f : Nat → Bool} (h : RefAt W a g n f) (ha : W'.heap[a]? = W.heap[a]?) (hg : W'.heap[g]? = W.heap[g]?) : RefAt W' a g n f := ⟨ha.trans h.head, hg.trans h.row, h.small⟩

theorem RefAt.below {W W' : World} {a g n : Nat} {f : Nat → Bool} (h : RefAt W a g n f) (k : Below W.heap.size W W') : RefAt W' a g n f := h.blks (k.block _ h.head.lt) (k.block _ h.row.lt)

theorem infoBool : (Tryz.prog.info? 4).map (fun i => (i.zero, i.size, i.bytes)) = some (some (.bool false), 1, 1) := by kernel_rfl

theorem rnew_c (n : Nat) (hn : n ≤ 65536) (w : World) : Calls Tryz.prog 65 #[.int .i64 n] w fun e w' =>
  e = .returned (.tuple #[.pointer (some ⟨w.heap.size + 1, 0, none⟩), .int .i64 0]) ∧ RefAt w' (w.heap.size + 1) w.heap.size n (fun _ => false) ∧ Below w.heap.size w w' ∧ w'.heap.size = w.heap.size + 2 := by
 go_enter Tryz.func65, Tryz.ntmps65
 have h0 : ¬ ((n : Int) < 0) := by omega
 have h1 : ¬ ((n : Int) > 65536) := by omega
 have hmk : ∀ w, (Instr.makeSlice 92 (.int .i64 (n : Int)) (.int .i64 (n : Int))).run Tryz.prog w = .ok (.slice (some ⟨w.heap.size, 0, none⟩) n n) (w.alloc (.cells (madeCells #[.bool false] n) 4)) := fun w =>
  run_make_row' (P := Tryz.prog) 92 4 (.bool false) 1 Tryz.underlying92 infoBool rfl .i64 .i64 n (by omega) (by omega) w
 go_wp2
 go_ret2
 refine ⟨rfl, ⟨?_, ?_, hn⟩, by repeat (first | with_reducible exact Below.refl _ _ | with_reducible refine Below.drew ?_ | with_reducible refine Below.alloc ?_ (by first | omega | (simp <;> omega)) _ | with_reducible refine Below.setCell ?_ (by first | omega | (simp <;> omega)) _), ?_⟩
 ·have e := Blk.new (w.alloc (.cells (madeCells #[.bool false] n) 4)) #[.slice (some ⟨w.heap.size, 0, none⟩) n n] 94
  rw [show (w.alloc (.cells (madeCells #[.bool false] n) 4)).heap.size = w.heap.size + 1 by simp] at e
  exact e
 ·refine Blk.alloc ?_ _
  have e : madeCells #[Value.bool false] n = ((List.range n).map (fun p => Value.bool ((fun _ => false) p))).toArray := by
   apply Array.ext'; rw [toList_madeCells_one]; simp [List.map_const']
  rw [← e]
  exact Blk.new _ _ _
 ·simp

end Go.Proofs.YtgbpnekinbdadaaGreatDoor

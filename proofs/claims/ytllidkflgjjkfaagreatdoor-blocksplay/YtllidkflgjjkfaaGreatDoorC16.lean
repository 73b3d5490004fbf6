/-
  Texts Bm5, Bm6, Bm7 of the proof.
-/
import Derived.Test.YtllidkflgjjkfaaGreatDoorC14
import Derived.Test.YtllidkflgjjkfaaGreatDoorC15

namespace Go.Proofs.YtllidkflgjjkfaaGreatDoor
open Go.ChangeShapes Go.WideShapes Go.ChangeAt Go.RowKit
set_option linter.unusedVariables false
set_option linter.unusedSimpArgs false

/-- Ahead of word i. -/
def TurnI (w0 : World) (a g n c1 c2 c3 fn : Nat) (f h : Nat → Bool) (i : Nat) (W : World) : Prop :=
  ∃ us, MapAt W a g n us ∧ (∀ p, bitL us p = if p < 64 * i then h p else f p) ∧ Blk W c1 #[.pointer (some ⟨a, 0, none⟩)] 92 ∧ Blk W c2 #[.func (.func fn) #[] #[]] 155 ∧
    Blk W c3 #[.int .i64 (cnt (fun p => f p != h p) (64 * i) : Nat)] 3 ∧ But [g] w0.heap.size w0 W

theorem turn_keep {w0 W W' : World} {a g n c1 c2 c3 fn : Nat} {f h : Nat → Bool} {i y : Nat} {us : List Nat} (hi : i < us.length) (hm : MapAt W a g n us) (hb : ∀ p, bitL us p = if p < 64 * i then h p else f p)
    (h1 : Blk W c1 #[.pointer (some ⟨a, 0, none⟩)] 92) (h2 : Blk W c2 #[.func (.func fn) #[] #[]] 155) (h3 : Blk W c3 #[.int .i64 (cnt (fun p => f p != h p) (64 * i) : Nat)] 3) (hk : But [g] w0.heap.size w0 W) (hc3 : w0.heap.size ≤ c3)
    (hyl : y < 18446744073709551616) (hyb : ∀ j, j < 64 → y.testBit j = h (64 * i + j))
    (A : Alike W' ((W.setCell ⟨g, i, none⟩ (.int .u64 y)).setCell ⟨c3, 0, none⟩ (.int .i64 (((cnt (fun p => f p != h p) (64 * i) : Nat) : Int) + (pc (us.getD i 0 ^^^ y) : Int))))) : TurnI w0 a g n c1 c2 c3 fn f h (i + 1) W' := by
  have n1 := hm.row.ne h1 (by decide)
  have n2 := hm.row.ne h2 (by decide)
  have n3 := hm.row.ne h3 (by decide)
  have n4 := hm.row.ne hm.head (by decide)
  have q1 := h3.ne h1 (by decide)
  have q2 := h3.ne h2 (by decide)
  have q4 := h3.ne hm.head (by decide)
  have hm2 := hm.put n4.symm (i := i) hyl
  refine ⟨us.set i y, ⟨?_, ?_, hm2.len, hm2.small, hm2.word⟩, ?_, ?_, ?_, ?_, ?_⟩
  · exact (hm2.head.far q4.symm 0 _).alike A
  · exact (hm2.row.far n3 0 _).alike A
  · intro p
    rw [bitL_set hi, hb p]
    by_cases hp : p / 64 = i
    · rw [if_pos hp, if_pos (by omega), hyb _ (Nat.mod_lt _ (by decide))]
      congr 1; omega
    · rw [if_neg hp]
      by_cases hq : p < 64 * i
      · rw [if_pos hq, if_pos (by omega)]
      · rw [if_neg hq, if_neg (by omega)]
  · exact ((h1.far n1.symm i _).far q1.symm 0 _).alike A
  · exact ((h2.far n2.symm i _).far q2.symm 0 _).alike A
  · have e := ((h3.far n3.symm i (.int .u64 y)).put 0 (.int .i64 (((cnt (fun p => f p != h p) (64 * i) : Nat) : Int) + (pc (us.getD i 0 ^^^ y) : Int)))).alike A
    have ec : cnt (fun p => f p != h p) (64 * (i + 1)) = cnt (fun p => f p != h p) (64 * i) + pc (us.getD i 0 ^^^ y) := by
      refine cnt_word (fun j hj => ?_)
      rw [Nat.testBit_xor, hyb j hj, ← bitL_at hj, hb, if_neg (by omega)]
    rw [ec]
    simpa using e
  · refine ⟨A.os.trans hk.os, A.tape.trans hk.tape, A.output.trans hk.output, ?_, fun k hkk hn => ?_⟩
    · rw [A.heap]; simpa using hk.size
    · have e1 : k ≠ g := by simpa using hn
      have e2 : k ≠ c3 := by omega
      rw [A.heap, Deep.blk_setCell_other _ ⟨c3, 0, none⟩ _ k e2, Deep.blk_setCell_other _ ⟨g, i, none⟩ _ k e1]
      exact hk.block k hkk hn

theorem not_bit {r j : Nat} (hr : r < 18446744073709551616) : (18446744073709551615 - r).testBit j = (decide (j < 64) && !r.testBit j) := by
  have := Nat.testBit_two_pow_sub_succ (n := 64) (x := r) hr j
  rw [← this, show (2 : Nat) ^ 64 - (r + 1) = 18446744073709551615 - r by omega]

theorem xor_lt {x y : Nat} (hx : x < 18446744073709551616) (hy : y < 18446744073709551616) : x ^^^ y < 18446744073709551616 := Nat.xor_lt_two_pow (n := 64) hx hy

/-- A row of bits is so. -/
def rowB (a b : Nat) (v : Bool) (f : Nat → Bool) : Nat → Bool := fun p => if a ≤ p ∧ p ≤ b then v else f p

theorem step_or (w0 : World) (a g n c1 c2 c3 A B : Nat) (f : Nat → Bool) (hAB : A ≤ B) (hB : B < n) (hc3 : w0.heap.size ≤ c3) (i : Nat) (W : World) (hi1 : A / 64 ≤ i) (hi2 : i ≤ B / 64)
    (H : TurnI w0 a g n c1 c2 c3 129 f (rowB A B true f) i W) :
    Calls Tryz.prog 162 #[.int .i64 i, .int .u64 (rowM A B i), .pointer (some ⟨c1, 0, none⟩), .pointer (some ⟨c2, 0, none⟩), .pointer (some ⟨c3, 0, none⟩)] W fun e W' =>
      (e = .returned (.bool true) ∧ TurnI w0 a g n c1 c2 c3 129 f (rowB A B true f) (i + 1) W') ∨ (e = .returned (.bool false) ∧ False) := by
  obtain ⟨us, hm, hb, h1, h2, h3, hk⟩ := H
  have hlen := hm.len
  have hsm := hm.small
  have hi : i < us.length := by omega
  obtain ⟨hx, hxl⟩ := hm.get hi
  have hrl := rowM_lt A B i
  have hrb : ∀ j, j < 64 → (rowM A B i).testBit j = decide (A ≤ 64 * i + j ∧ 64 * i + j ≤ B) := fun j hj => by
    rw [rowM_bit hi1 hi2]; simp [hj]
  have hxb : ∀ j, j < 64 → (us.getD i 0).testBit j = f (64 * i + j) := fun j hj => by
    rw [← bitL_at hj, hb, if_neg (by omega)]
  obtain ⟨y, hy, hyl, hyb⟩ : ∃ y : Nat, bits .or .u64 ((us.getD i 0 : Nat) : Int) ((rowM A B i : Nat) : Int) = (y : Int) ∧ y < 18446744073709551616 ∧ ∀ j, j < 64 → y.testBit j = rowB A B true f (64 * i + j) := by
    refine ⟨us.getD i 0 ||| rowM A B i, bits_or_u64_nat _ _ hxl hrl, Nat.or_lt_two_pow (n := 64) hxl hrl, fun j hj => ?_⟩
    rw [Nat.testBit_or, hxb j hj, hrb j hj]
    unfold rowB
    split <;> simp [*]
  have ht := cnt_le (fun p => f p != rowB A B true f p) (64 * i)
  refine (turn1_or a g n us.length c1 c2 c3 i (us.getD i 0) y (us.getD i 0 ^^^ y) (rowM A B i) _ _ W h1 h2 h3 hm.head hm.row hi (by omega) hx hy (bits_xor_u64_nat _ _ hxl hyl) (xor_lt hxl hyl) (by omega)).mono ?_
  rintro e W' ⟨rfl, A1⟩
  exact Or.inl ⟨rfl, turn_keep hi hm hb h1 h2 h3 hk hc3 hyl hyb A1⟩

theorem step_not (w0 : World) (a g n c1 c2 c3 A B : Nat) (f : Nat → Bool) (hAB : A ≤ B) (hB : B < n) (hc3 : w0.heap.size ≤ c3) (i : Nat) (W : World) (hi1 : A / 64 ≤ i) (hi2 : i ≤ B / 64)
    (H : TurnI w0 a g n c1 c2 c3 136 f (rowB A B false f) i W) :
    Calls Tryz.prog 162 #[.int .i64 i, .int .u64 (rowM A B i), .pointer (some ⟨c1, 0, none⟩), .pointer (some ⟨c2, 0, none⟩), .pointer (some ⟨c3, 0, none⟩)] W fun e W' =>
      (e = .returned (.bool true) ∧ TurnI w0 a g n c1 c2 c3 136 f (rowB A B false f) (i + 1) W') ∨ (e = .returned (.bool false) ∧ False) := by
  obtain ⟨us, hm, hb, h1, h2, h3, hk⟩ := H
  have hlen := hm.len
  have hsm := hm.small
  have hi : i < us.length := by omega
  obtain ⟨hx, hxl⟩ := hm.get hi
  have hrl := rowM_lt A B i
  have hrb : ∀ j, j < 64 → (rowM A B i).testBit j = decide (A ≤ 64 * i + j ∧ 64 * i + j ≤ B) := fun j hj => by
    rw [rowM_bit hi1 hi2]; simp [hj]
  have hxb : ∀ j, j < 64 → (us.getD i 0).testBit j = f (64 * i + j) := fun j hj => by
    rw [← bitL_at hj, hb, if_neg (by omega)]
  obtain ⟨y, hy, hyl, hyb⟩ : ∃ y : Nat, bits .andNot .u64 ((us.getD i 0 : Nat) : Int) ((rowM A B i : Nat) : Int) = (y : Int) ∧ y < 18446744073709551616 ∧ ∀ j, j < 64 → y.testBit j = rowB A B false f (64 * i + j) := by
    refine ⟨us.getD i 0 &&& (18446744073709551615 - rowM A B i), ?_, Nat.lt_of_le_of_lt Nat.and_le_left hxl, fun j hj => ?_⟩
    · rw [u64_andNot _ _ (by omega) (by omega) (by omega) (by omega)]
      simp
    · rw [Nat.testBit_and, hxb j hj, not_bit hrl, hrb j hj]
      unfold rowB
      split <;> simp [*]
  have ht := cnt_le (fun p => f p != rowB A B false f p) (64 * i)
  refine (turn1_not a g n us.length c1 c2 c3 i (us.getD i 0) y (us.getD i 0 ^^^ y) (rowM A B i) _ _ W h1 h2 h3 hm.head hm.row hi (by omega) hx hy (bits_xor_u64_nat _ _ hxl hyl) (xor_lt hxl hyl) (by omega)).mono ?_
  rintro e W' ⟨rfl, A1⟩
  exact Or.inl ⟨rfl, turn_keep hi hm hb h1 h2 h3 hk hc3 hyl hyb A1⟩

end Go.Proofs.YtllidkflgjjkfaaGreatDoor

namespace Go.Proofs.YtllidkflgjjkfaaGreatDoor
open Go.ChangeShapes Go.WideShapes Go.ChangeAt Go.RowKit
set_option linter.unusedVariables false
set_option linter.unusedSimpArgs false

theorem reach_yes (a : Nat) (n i : Int) (w : World) (hc : w.cell? ⟨a, 0, none⟩ = some (.int .i64 n)) (h : 0 ≤ i ∧ i < n) : Calls Tryz.prog 113 #[.pointer (some ⟨a, 0, none⟩), .int .i64 i] w fun e w' => e = .returned (.bool true) ∧ w' = w := by
  refine (reach_c a n i w hc).mono ?_
  rintro e w' ⟨rfl, rfl⟩
  exact ⟨by simp [h], rfl⟩

theorem turn_start {w : World} {a g n fn : Nat} {f : Nat → Bool} {A B : Nat} {v : Bool} (H : MapB w a g n f) (hAB : A ≤ B) :
    TurnI w a g n w.heap.size (w.heap.size + 1) (w.heap.size + 1 + 1) fn f (rowB A B v f) (A / 64) (((w.alloc (.cells #[.pointer (some ⟨a, 0, none⟩)] 92)).alloc (.cells #[.func (.func fn) #[] #[]] 155)).alloc (.cells #[.int .i64 0] 3)) := by
  obtain ⟨⟨ws, hm, hbits⟩, hbeh⟩ := H
  have lt : ∀ p, p < 64 * (A / 64) → rowB A B v f p = f p := fun p hp => by
    unfold rowB; rw [if_neg (by omega)]
  have c0 : cnt (fun p => f p != rowB A B v f p) (64 * (A / 64)) = 0 := cnt_zero (fun p hp => by rw [lt p hp]; simp)
  have e1 := Blk.new w #[.pointer (some ⟨a, 0, none⟩)] 92
  have e2 := Blk.new (w.alloc (.cells #[.pointer (some ⟨a, 0, none⟩)] 92)) #[.func (.func fn) #[] #[]] 155
  have e3 := Blk.new ((w.alloc (.cells #[.pointer (some ⟨a, 0, none⟩)] 92)).alloc (.cells #[.func (.func fn) #[] #[]] 155)) #[.int .i64 0] 3
  rw [show (w.alloc (.cells #[.pointer (some ⟨a, 0, none⟩)] 92)).heap.size = w.heap.size + 1 by simp] at e2
  rw [show ((w.alloc (.cells #[.pointer (some ⟨a, 0, none⟩)] 92)).alloc (.cells #[.func (.func fn) #[] #[]] 155)).heap.size = w.heap.size + 1 + 1 by simp] at e3
  have bl : Below w.heap.size w (((w.alloc (.cells #[.pointer (some ⟨a, 0, none⟩)] 92)).alloc (.cells #[.func (.func fn) #[] #[]] 155)).alloc (.cells #[.int .i64 0] 3)) := by repeat (first | with_reducible exact Below.refl _ _ | with_reducible refine Below.drew ?_ | with_reducible refine Below.alloc ?_ (by first | omega | (simp <;> omega)) _ | with_reducible refine Below.setCell ?_ (by first | omega | (simp <;> omega)) _)
  refine ⟨ws, hm.but (But.of (L := []) bl (Nat.le_refl _)) hm.head.lt hm.row.lt (by simp) (by simp), fun p => ?_, (e1.alloc _).alloc _, e2.alloc _, ?_, But.of bl (Nat.le_refl _)⟩
  · rw [hbits]
    split
    · rename_i h; rw [lt p h]
    · rfl
  · rw [c0]; exact e3

theorem turn_end {w W : World} {a g n fn c1 c2 c3 : Nat} {f : Nat → Bool} {A B : Nat} {v : Bool} (hAB : A ≤ B) (hB : B < n) (hbeh : ∀ p, n ≤ p → f p = false) (H : TurnI w a g n c1 c2 c3 fn f (rowB A B v f) (B / 64 + 1) W) :
    MapB W a g n (rowB A B v f) ∧ But [g] w.heap.size w W ∧ W.cell? ⟨c3, 0, none⟩ = some (.int .i64 (cnt (fun p => f p != rowB A B v f p) 65536 : Nat)) := by
  obtain ⟨us, hm, hb, h1, h2, h3, hk⟩ := H
  have hn := hm.small
  have far : ∀ p, 64 * (B / 64 + 1) ≤ p → rowB A B v f p = f p := fun p hp => by
    unfold rowB; rw [if_neg (by omega)]
  refine ⟨⟨⟨us, hm, fun p => ?_⟩, fun p hp => ?_⟩, hk, ?_⟩
  · rw [hb]
    split
    · rfl
    · rename_i h; rw [far p (by omega)]
  · unfold rowB; rw [if_neg (by omega), hbeh p hp]
  · rw [h3.cell 0, cnt_more (a := 64 * (B / 64 + 1)) (b := 65536) (by omega) (fun k h4 h5 => by rw [far k h4]; simp)]
    rfl

theorem Each_or (w : World) (a g n A B : Nat) (f : Nat → Bool) (hAB : A ≤ B) (hB : B < n) (hn : n ≤ 65536) (hbeh : ∀ p, n ≤ p → f p = false) (W : World) (S0 : TurnI w a g n w.heap.size (w.heap.size + 1) (w.heap.size + 1 + 1) 129 f (rowB A B true f) (A / 64) W) :
    Calls Tryz.prog 105 #[.int .i64 A, .int .i64 B, .func (.func 162) #[] #[.pointer (some ⟨w.heap.size, 0, none⟩), .pointer (some ⟨w.heap.size + 1, 0, none⟩), .pointer (some ⟨w.heap.size + 1 + 1, 0, none⟩)]] W fun e W' => e = .returned (.tuple #[]) ∧
      MapB W' a g n (rowB A B true f) ∧ But [g] w.heap.size w W' ∧ W'.cell? ⟨w.heap.size + 1 + 1, 0, none⟩ = some (.int .i64 (cnt (fun p => f p != rowB A B true f p) 65536 : Nat)) := by
  refine (each_turn A B w.heap.size (w.heap.size + 1) (w.heap.size + 1 + 1) hAB (by omega) (TurnI w a g n w.heap.size (w.heap.size + 1) (w.heap.size + 1 + 1) 129 f (rowB A B true f)) (fun _ => False) W (fun i V h1 h2 h => step_or w a g n _ _ _ A B f hAB hB (by omega) i V h1 h2 h) S0).mono ?_
  rintro e W' ⟨rfl, h | h⟩
  · exact ⟨rfl, turn_end hAB hB hbeh h⟩
  · exact h.elim

theorem Each_not (w : World) (a g n A B : Nat) (f : Nat → Bool) (hAB : A ≤ B) (hB : B < n) (hn : n ≤ 65536) (hbeh : ∀ p, n ≤ p → f p = false) (W : World) (S0 : TurnI w a g n w.heap.size (w.heap.size + 1) (w.heap.size + 1 + 1) 136 f (rowB A B false f) (A / 64) W) :
    Calls Tryz.prog 105 #[.int .i64 A, .int .i64 B, .func (.func 162) #[] #[.pointer (some ⟨w.heap.size, 0, none⟩), .pointer (some ⟨w.heap.size + 1, 0, none⟩), .pointer (some ⟨w.heap.size + 1 + 1, 0, none⟩)]] W fun e W' => e = .returned (.tuple #[]) ∧
      MapB W' a g n (rowB A B false f) ∧ But [g] w.heap.size w W' ∧ W'.cell? ⟨w.heap.size + 1 + 1, 0, none⟩ = some (.int .i64 (cnt (fun p => f p != rowB A B false f p) 65536 : Nat)) := by
  refine (each_turn A B w.heap.size (w.heap.size + 1) (w.heap.size + 1 + 1) hAB (by omega) (TurnI w a g n w.heap.size (w.heap.size + 1) (w.heap.size + 1 + 1) 136 f (rowB A B false f)) (fun _ => False) W (fun i V h1 h2 h => step_not w a g n _ _ _ A B f hAB hB (by omega) i V h1 h2 h) S0).mono ?_
  rintro e W' ⟨rfl, h | h⟩
  · exact ⟨rfl, turn_end hAB hB hbeh h⟩
  · exact h.elim

set_option maxHeartbeats 1000000 in
theorem turn_or (a g n A B : Nat) (f : Nat → Bool) (hAB : A ≤ B) (hB : B < n) (w : World) (H : MapB w a g n f) :
    Calls Tryz.prog 128 #[.pointer (some ⟨a, 0, none⟩), .int .i64 A, .int .i64 B, .func (.func 129) #[] #[]] w fun e w' =>
      e = .returned (.tuple #[.int .i64 (cnt (fun p => f p != rowB A B true f p) 65536 : Nat), .int .i64 0]) ∧ MapB w' a g n (rowB A B true f) ∧ But [g] w.heap.size w w' := by
  obtain ⟨hla, hlg, hne, hn⟩ := H.lt
  have S0 := turn_start (fn := 129) (v := true) H hAB
  have HE := Each_or w a g n A B f hAB hB hn H.behind
  obtain ⟨⟨ws, hm, hbits⟩, hbeh⟩ := H
  have hc := hm.head
  have hBA : ¬ ((B : Int) < A) := by omega
  have hmf : ∀ (fn : Fn) (first cap : Array Value) (w : World), (Instr.makeFunc fn first cap).run Tryz.prog w = .ok (.func fn first cap) w := fun _ _ _ _ => rfl
  have SH : Hid _ := S0
  have EH : Hid _ := HE
  clear S0 HE hm hbits hbeh
  go_enter Tryz.func128, Tryz.ntmps128
  go_wp2_with fail
  refine (reach_yes a n A _ (((hc.alloc _).alloc _).cell 0) (by omega)).mono ?_
  rintro e w1 ⟨rfl, rfl⟩
  go_wp2_with fail
  refine (reach_yes a n B _ (((hc.alloc _).alloc _).cell 0) (by omega)).mono ?_
  rintro e w1 ⟨rfl, rfl⟩
  go_wp2_with fail
  refine (EH.out _ SH.out).mono ?_
  rintro e w1 ⟨rfl, hM, hK, hcell⟩
  clear EH SH hc
  generalize hcc : cnt (fun p => f p != rowB A B true f p) 65536 = c at *
  have HC : Hid _ := hcc
  clear hcc
  go_wp2_with fail
  go_ret2
  exact ⟨by rw [HC.out]; rfl, hM, hK⟩

set_option maxHeartbeats 1000000 in
theorem turn_not (a g n A B : Nat) (f : Nat → Bool) (hAB : A ≤ B) (hB : B < n) (w : World) (H : MapB w a g n f) :
    Calls Tryz.prog 128 #[.pointer (some ⟨a, 0, none⟩), .int .i64 A, .int .i64 B, .func (.func 136) #[] #[]] w fun e w' =>
      e = .returned (.tuple #[.int .i64 (cnt (fun p => f p != rowB A B false f p) 65536 : Nat), .int .i64 0]) ∧ MapB w' a g n (rowB A B false f) ∧ But [g] w.heap.size w w' := by
  obtain ⟨hla, hlg, hne, hn⟩ := H.lt
  have S0 := turn_start (fn := 136) (v := false) H hAB
  have HE := Each_not w a g n A B f hAB hB hn H.behind
  obtain ⟨⟨ws, hm, hbits⟩, hbeh⟩ := H
  have hc := hm.head
  have hBA : ¬ ((B : Int) < A) := by omega
  have hmf : ∀ (fn : Fn) (first cap : Array Value) (w : World), (Instr.makeFunc fn first cap).run Tryz.prog w = .ok (.func fn first cap) w := fun _ _ _ _ => rfl
  have SH : Hid _ := S0
  have EH : Hid _ := HE
  clear S0 HE hm hbits hbeh
  go_enter Tryz.func128, Tryz.ntmps128
  go_wp2_with fail
  refine (reach_yes a n A _ (((hc.alloc _).alloc _).cell 0) (by omega)).mono ?_
  rintro e w1 ⟨rfl, rfl⟩
  go_wp2_with fail
  refine (reach_yes a n B _ (((hc.alloc _).alloc _).cell 0) (by omega)).mono ?_
  rintro e w1 ⟨rfl, rfl⟩
  go_wp2_with fail
  refine (EH.out _ SH.out).mono ?_
  rintro e w1 ⟨rfl, hM, hK, hcell⟩
  clear EH SH hc
  generalize hcc : cnt (fun p => f p != rowB A B false f p) 65536 = c at *
  have HC : Hid _ := hcc
  clear hcc
  go_wp2_with fail
  go_ret2
  exact ⟨by rw [HC.out]; rfl, hM, hK⟩

theorem fill_ok (a g n A B : Nat) (f : Nat → Bool) (hAB : A ≤ B) (hB : B < n) (w : World) (H : MapB w a g n f) :
    Calls Tryz.prog 86 #[.pointer (some ⟨a, 0, none⟩), .int .i64 A, .int .i64 B] w fun e w' =>
      e = .returned (.tuple #[.int .i64 (cnt (fun p => f p != rowB A B true f p) 65536 : Nat), .int .i64 0]) ∧ MapB w' a g n (rowB A B true f) ∧ But [g] w.heap.size w w' := by
  have hmf : ∀ (fn : Fn) (first cap : Array Value) (w : World), (Instr.makeFunc fn first cap).run Tryz.prog w = .ok (.func fn first cap) w := fun _ _ _ _ => rfl
  have TH : Hid _ := fun w H => turn_or a g n A B f hAB hB w H
  have HH : Hid _ := H
  clear H
  go_enter Tryz.func86, Tryz.ntmps86
  go_wp2_with fail
  refine (TH.out _ HH.out).mono ?_
  rintro e w1 ⟨rfl, hM, hK⟩
  clear TH HH
  generalize hcc : cnt (fun p => f p != rowB A B true f p) 65536 = c at *
  have HC : Hid _ := hcc
  clear hcc
  go_wp2_with fail
  go_ret2
  exact ⟨by rw [HC.out]; rfl, hM, hK⟩

theorem clear_ok (a g n A B : Nat) (f : Nat → Bool) (hAB : A ≤ B) (hB : B < n) (w : World) (H : MapB w a g n f) :
    Calls Tryz.prog 94 #[.pointer (some ⟨a, 0, none⟩), .int .i64 A, .int .i64 B] w fun e w' =>
      e = .returned (.tuple #[.int .i64 (cnt (fun p => f p != rowB A B false f p) 65536 : Nat), .int .i64 0]) ∧ MapB w' a g n (rowB A B false f) ∧ But [g] w.heap.size w w' := by
  have hmf : ∀ (fn : Fn) (first cap : Array Value) (w : World), (Instr.makeFunc fn first cap).run Tryz.prog w = .ok (.func fn first cap) w := fun _ _ _ _ => rfl
  have TH : Hid _ := fun w H => turn_not a g n A B f hAB hB w H
  have HH : Hid _ := H
  clear H
  go_enter Tryz.func94, Tryz.ntmps94
  go_wp2_with fail
  refine (TH.out _ HH.out).mono ?_
  rintro e w1 ⟨rfl, hM, hK⟩
  clear TH HH
  generalize hcc : cnt (fun p => f p != rowB A B false f p) 65536 = c at *
  have HC : Hid _ := hcc
  clear hcc
  go_wp2_with fail
  go_ret2
  exact ⟨by rw [HC.out]; rfl, hM, hK⟩

/-- A bit is so. -/
def upd (f : Nat → Bool) (i : Nat) (v : Bool) : Nat → Bool := fun p => if p = i then v else f p

theorem rowB_one (f : Nat → Bool) (i : Nat) (v : Bool) : rowB i i v f = upd f i v := by
  funext p
  unfold rowB upd
  by_cases h : p = i
  · rw [if_pos h, if_pos (by omega)]
  · rw [if_neg h, if_neg (by omega)]

theorem cnt_upd (f : Nat → Bool) (i : Nat) (v : Bool) (hi : i < 65536) : cnt (fun p => f p != rowB i i v f p) 65536 = if f i = v then 0 else 1 := by
  rw [rowB_one, cnt_one hi (fun k hk => by unfold upd; rw [if_neg hk]; simp)]
  unfold upd
  cases f i <;> cases v <;> simp

end Go.Proofs.YtllidkflgjjkfaaGreatDoor

namespace Go.Proofs.YtllidkflgjjkfaaGreatDoor
open Go.ChangeShapes Go.WideShapes Go.ChangeAt Go.RowKit
set_option linter.unusedVariables false
set_option linter.unusedSimpArgs false

theorem put_same (a g n i : Nat) (f : Nat → Bool) (hi : i < n) (hf : f i = true) (w : World) (H : MapB w a g n f) :
    Calls Tryz.prog 91 #[.pointer (some ⟨a, 0, none⟩), .int .i64 i] w fun e w' => e = .returned (.int .i64 14) ∧ MapB w' a g n (upd f i true) ∧ But [g] w.heap.size w w' := by
  have hn := H.lt.2.2.2
  have FH := hide (fill_ok a g n i i f (Nat.le_refl _) hi w H)
  clear H
  go_enter Tryz.func91, Tryz.ntmps91
  go_wp2_with fail
  refine FH.out.mono ?_
  rintro e w1 ⟨rfl, hM, hK⟩
  clear FH
  rw [cnt_upd f i true (by omega), if_pos hf]
  go_wp2_with fail
  go_ret
  exact ⟨rfl, rowB_one f i true ▸ hM, hK⟩

theorem put_new (a g n i : Nat) (f : Nat → Bool) (hi : i < n) (hf : f i = false) (w : World) (H : MapB w a g n f) :
    Calls Tryz.prog 91 #[.pointer (some ⟨a, 0, none⟩), .int .i64 i] w fun e w' => e = .returned (.int .i64 0) ∧ MapB w' a g n (upd f i true) ∧ But [g] w.heap.size w w' := by
  have hn := H.lt.2.2.2
  have FH := hide (fill_ok a g n i i f (Nat.le_refl _) hi w H)
  clear H
  go_enter Tryz.func91, Tryz.ntmps91
  go_wp2_with fail
  refine FH.out.mono ?_
  rintro e w1 ⟨rfl, hM, hK⟩
  clear FH
  rw [cnt_upd f i true (by omega), if_neg (by simp [hf])]
  go_wp2_with fail
  go_ret
  exact ⟨rfl, rowB_one f i true ▸ hM, hK⟩

theorem has_core (a g n k i x : Nat) (b : Bool) (hi : i < n) (hn : n ≤ 65536) (hk : k = (n + 63) / 64) (w : World) (hc : w.cell? ⟨a, 0, none⟩ = some (.int .i64 n)) (hs : w.cell? ⟨a, 1, none⟩ = some (.slice (some ⟨g, 0, none⟩) k k)) (hx : w.cell? ⟨g, i / 64, none⟩ = some (.int .u64 x))
    (hb : (bits .and .u64 ((x : Int) / 2 ^ (i % 64)) 1 == 1) = b) :
    Calls Tryz.prog 70 #[.pointer (some ⟨a, 0, none⟩), .int .i64 i] w fun e w' => e = .returned (.bool b) ∧ Below w.heap.size w w' := by
  have hik : i / 64 < k := by omega
  have R := hide (reach_yes a n i w hc (by omega))
  clear hc hk
  go_enter Tryz.func70, Tryz.ntmps70
  go_wp2_with fail
  refine R.out.mono ?_
  rintro e w1 ⟨rfl, rfl⟩
  go_wp2_with fail
  go_ret
  exact ⟨rfl, Below.refl _ _⟩

theorem bit_one {x : Nat} (r : Nat) (hx : x < 18446744073709551616) : (bits .and .u64 ((x : Int) / 2 ^ r) 1 == 1) = x.testBit r := by
  have e : (x : Int) / 2 ^ r = ((x / 2 ^ r : Nat) : Int) := by
    have e2 : (2 : Int) ^ r = ((2 ^ r : Nat) : Int) := by rw [Int.natCast_pow]; rfl
    rw [e2]; rfl
  rw [e, and_nat (a := x / 2 ^ r) (b := 1) (Nat.lt_of_le_of_lt (Nat.div_le_self _ _) hx) (by decide) _ 1 rfl rfl, Nat.and_one_is_mod, Nat.testBit_eq_decide_div_mod_eq]
  have : x / 2 ^ r % 2 = 0 ∨ x / 2 ^ r % 2 = 1 := by omega
  rcases this with h | h <;> rw [h] <;> rfl

theorem bhas_ok (a g n i : Nat) (f : Nat → Bool) (hi : i < n) (w : World) (H : MapB w a g n f) : Calls Tryz.prog 70 #[.pointer (some ⟨a, 0, none⟩), .int .i64 i] w fun e w' => e = .returned (.bool (f i)) ∧ Below w.heap.size w w' := by
  have hn := H.lt.2.2.2
  obtain ⟨⟨ws, hm, hb⟩, _⟩ := H
  have hl := hm.len
  obtain ⟨h1, h2⟩ := hm.get (i := i / 64) (by omega)
  refine has_core a g n ws.length i (ws.getD (i / 64) 0) (f i) hi hn hl w (hm.head.cell 0) (hm.head.cell 1) ((hm.row.cell (i / 64)).trans h1) ?_
  rw [bit_one _ h2, ← hb]
  rfl

end Go.Proofs.YtllidkflgjjkfaaGreatDoor

/-
  What turn does to a map's bits, whichever of the two functions it is handed.
-/
import Derived.Test.YtkfglbmhpdcfpaaDoorBm3
import Derived.Test.YtkfglbmhpdcfpaaDoorBm4
namespace Go.Proofs.YtkfglbmhpdcfpaaDoor
open Go.ChangeShapes Go.WideShapes Go.ChangeAt Go.RowKit
set_option linter.unusedVariables false
set_option linter.unusedSimpArgs false

/-- Ahead of word i. -/
def TurnI (w0 : World) (a g n c1 c2 c3 fn : Nat) (f h : Nat → Bool) (i : Nat) (W : World) : Prop :=
  ∃ us, MapAt W a g n us ∧ (∀ p, bitL us p = if p < 64 * i then h p else f p) ∧ Blk W c1 #[.pointer (some ⟨a, 0, none⟩)] 35 ∧ Blk W c2 #[.func (.func fn) #[] #[]] 85 ∧
    Blk W c3 #[.int .i64 (cnt (fun p => f p != h p) (64 * i) : Nat)] 3 ∧ But [g] w0.heap.size w0 W

theorem turn_keep {w0 W W' : World} {a g n c1 c2 c3 fn : Nat} {f h : Nat → Bool} {i y : Nat} {us : List Nat} (hi : i < us.length) (hm : MapAt W a g n us) (hb : ∀ p, bitL us p = if p < 64 * i then h p else f p)
    (h1 : Blk W c1 #[.pointer (some ⟨a, 0, none⟩)] 35) (h2 : Blk W c2 #[.func (.func fn) #[] #[]] 85) (h3 : Blk W c3 #[.int .i64 (cnt (fun p => f p != h p) (64 * i) : Nat)] 3) (hk : But [g] w0.heap.size w0 W) (hc3 : w0.heap.size ≤ c3)
    (hyl : y < 18446744073709551616) (hyb : ∀ j, j < 64 → y.testBit j = h (64 * i + j))
    (A : Alike W' ((W.setCell ⟨g, i, none⟩ (.int .u64 y)).setCell ⟨c3, 0, none⟩ (.int .i64 (((cnt (fun p => f p != h p) (64 * i) : Nat) : Int) + (pc (us.getD i 0 ^^^ y) : Int))))) : TurnI w0 a g n c1 c2 c3 fn f h (i + 1) W' := by
  have n1 := hm.row.ne h1 (by decide)
  have n2 := hm.row.ne h2 (by decide)
  have n3 := hm.row.ne h3 (by decide)
  have n4 := hm.row.ne hm.head (by decide)
  have q1 := h3.ne h1 (by decide)
  have q2 := h3.ne h2 (by decide)
  have q4 := h3.ne hm.head (by decide)
  have hm2 := hm.put n4.symm (i := i) hyl
  refine ⟨us.set i y, ⟨?_, ?_, hm2.len, hm2.small, hm2.word⟩, ?_, ?_, ?_, ?_, ?_⟩
  · exact (hm2.head.far q4.symm 0 _).alike A
  · exact (hm2.row.far n3 0 _).alike A
  · intro p
    rw [bitL_set hi, hb p]
    by_cases hp : p / 64 = i
    · rw [if_pos hp, if_pos (by omega), hyb _ (Nat.mod_lt _ (by decide))]
      congr 1; omega
    · rw [if_neg hp]
      by_cases hq : p < 64 * i
      · rw [if_pos hq, if_pos (by omega)]
      · rw [if_neg hq, if_neg (by omega)]
  · exact ((h1.far n1.symm i _).far q1.symm 0 _).alike A
  · exact ((h2.far n2.symm i _).far q2.symm 0 _).alike A
  · have e := ((h3.far n3.symm i (.int .u64 y)).put 0 (.int .i64 (((cnt (fun p => f p != h p) (64 * i) : Nat) : Int) + (pc (us.getD i 0 ^^^ y) : Int)))).alike A
    have ec : cnt (fun p => f p != h p) (64 * (i + 1)) = cnt (fun p => f p != h p) (64 * i) + pc (us.getD i 0 ^^^ y) := by
      refine cnt_word (fun j hj => ?_)
      rw [Nat.testBit_xor, hyb j hj, ← bitL_at hj, hb, if_neg (by omega)]
    rw [ec]
    simpa using e
  · refine ⟨A.os.trans hk.os, A.tape.trans hk.tape, A.output.trans hk.output, ?_, fun k hkk hn => ?_⟩
    · rw [A.heap]; simpa using hk.size
    · have e1 : k ≠ g := by simpa using hn
      have e2 : k ≠ c3 := by omega
      rw [A.heap, Deep.blk_setCell_other _ ⟨c3, 0, none⟩ _ k e2, Deep.blk_setCell_other _ ⟨g, i, none⟩ _ k e1]
      exact hk.block k hkk hn

theorem not_bit {r j : Nat} (hr : r < 18446744073709551616) : (18446744073709551615 - r).testBit j = (decide (j < 64) && !r.testBit j) := by
  have := Nat.testBit_two_pow_sub_succ (n := 64) (x := r) hr j
  rw [← this, show (2 : Nat) ^ 64 - (r + 1) = 18446744073709551615 - r by omega]

theorem xor_lt {x y : Nat} (hx : x < 18446744073709551616) (hy : y < 18446744073709551616) : x ^^^ y < 18446744073709551616 := Nat.xor_lt_two_pow (n := 64) hx hy

/-- A row of bits is so. -/
def rowB (a b : Nat) (v : Bool) (f : Nat → Bool) : Nat → Bool := fun p => if a ≤ p ∧ p ≤ b then v else f p

theorem step_or (w0 : World) (a g n c1 c2 c3 A B : Nat) (f : Nat → Bool) (hAB : A ≤ B) (hB : B < n) (hc3 : w0.heap.size ≤ c3) (i : Nat) (W : World) (hi1 : A / 64 ≤ i) (hi2 : i ≤ B / 64)
    (H : TurnI w0 a g n c1 c2 c3 59 f (rowB A B true f) i W) :
    Calls Tryd.prog 80 #[.int .i64 i, .int .u64 (rowM A B i), .pointer (some ⟨c1, 0, none⟩), .pointer (some ⟨c2, 0, none⟩), .pointer (some ⟨c3, 0, none⟩)] W fun e W' =>
      (e = .returned (.bool true) ∧ TurnI w0 a g n c1 c2 c3 59 f (rowB A B true f) (i + 1) W') ∨ (e = .returned (.bool false) ∧ False) := by
  obtain ⟨us, hm, hb, h1, h2, h3, hk⟩ := H
  have hlen := hm.len
  have hsm := hm.small
  have hi : i < us.length := by omega
  obtain ⟨hx, hxl⟩ := hm.get hi
  have hrl := rowM_lt A B i
  have hrb : ∀ j, j < 64 → (rowM A B i).testBit j = decide (A ≤ 64 * i + j ∧ 64 * i + j ≤ B) := fun j hj => by
    rw [rowM_bit hi1 hi2]; simp [hj]
  have hxb : ∀ j, j < 64 → (us.getD i 0).testBit j = f (64 * i + j) := fun j hj => by
    rw [← bitL_at hj, hb, if_neg (by omega)]
  obtain ⟨y, hy, hyl, hyb⟩ : ∃ y : Nat, bits .or .u64 ((us.getD i 0 : Nat) : Int) ((rowM A B i : Nat) : Int) = (y : Int) ∧ y < 18446744073709551616 ∧ ∀ j, j < 64 → y.testBit j = rowB A B true f (64 * i + j) := by
    refine ⟨us.getD i 0 ||| rowM A B i, bits_or_u64_nat _ _ hxl hrl, Nat.or_lt_two_pow (n := 64) hxl hrl, fun j hj => ?_⟩
    rw [Nat.testBit_or, hxb j hj, hrb j hj]
    unfold rowB
    split <;> simp [*]
  have ht := cnt_le (fun p => f p != rowB A B true f p) (64 * i)
  refine (turn1_or a g n us.length c1 c2 c3 i (us.getD i 0) y (us.getD i 0 ^^^ y) (rowM A B i) _ _ W h1 h2 h3 hm.head hm.row hi (by omega) hx hy (bits_xor_u64_nat _ _ hxl hyl) (xor_lt hxl hyl) (by omega)).mono ?_
  rintro e W' ⟨rfl, A1⟩
  exact Or.inl ⟨rfl, turn_keep hi hm hb h1 h2 h3 hk hc3 hyl hyb A1⟩

theorem step_not (w0 : World) (a g n c1 c2 c3 A B : Nat) (f : Nat → Bool) (hAB : A ≤ B) (hB : B < n) (hc3 : w0.heap.size ≤ c3) (i : Nat) (W : World) (hi1 : A / 64 ≤ i) (hi2 : i ≤ B / 64)
    (H : TurnI w0 a g n c1 c2 c3 60 f (rowB A B false f) i W) :
    Calls Tryd.prog 80 #[.int .i64 i, .int .u64 (rowM A B i), .pointer (some ⟨c1, 0, none⟩), .pointer (some ⟨c2, 0, none⟩), .pointer (some ⟨c3, 0, none⟩)] W fun e W' =>
      (e = .returned (.bool true) ∧ TurnI w0 a g n c1 c2 c3 60 f (rowB A B false f) (i + 1) W') ∨ (e = .returned (.bool false) ∧ False) := by
  obtain ⟨us, hm, hb, h1, h2, h3, hk⟩ := H
  have hlen := hm.len
  have hsm := hm.small
  have hi : i < us.length := by omega
  obtain ⟨hx, hxl⟩ := hm.get hi
  have hrl := rowM_lt A B i
  have hrb : ∀ j, j < 64 → (rowM A B i).testBit j = decide (A ≤ 64 * i + j ∧ 64 * i + j ≤ B) := fun j hj => by
    rw [rowM_bit hi1 hi2]; simp [hj]
  have hxb : ∀ j, j < 64 → (us.getD i 0).testBit j = f (64 * i + j) := fun j hj => by
    rw [← bitL_at hj, hb, if_neg (by omega)]
  obtain ⟨y, hy, hyl, hyb⟩ : ∃ y : Nat, bits .andNot .u64 ((us.getD i 0 : Nat) : Int) ((rowM A B i : Nat) : Int) = (y : Int) ∧ y < 18446744073709551616 ∧ ∀ j, j < 64 → y.testBit j = rowB A B false f (64 * i + j) := by
    refine ⟨us.getD i 0 &&& (18446744073709551615 - rowM A B i), ?_, Nat.lt_of_le_of_lt Nat.and_le_left hxl, fun j hj => ?_⟩
    · rw [u64_andNot _ _ (by omega) (by omega) (by omega) (by omega)]
      simp
    · rw [Nat.testBit_and, hxb j hj, not_bit hrl, hrb j hj]
      unfold rowB
      split <;> simp [*]
  have ht := cnt_le (fun p => f p != rowB A B false f p) (64 * i)
  refine (turn1_not a g n us.length c1 c2 c3 i (us.getD i 0) y (us.getD i 0 ^^^ y) (rowM A B i) _ _ W h1 h2 h3 hm.head hm.row hi (by omega) hx hy (bits_xor_u64_nat _ _ hxl hyl) (xor_lt hxl hyl) (by omega)).mono ?_
  rintro e W' ⟨rfl, A1⟩
  exact Or.inl ⟨rfl, turn_keep hi hm hb h1 h2 h3 hk hc3 hyl hyb A1⟩

end Go.Proofs.YtkfglbmhpdcfpaaDoor

/-
  The walk of BitmapGreat.
-/
import Derived.Test.YtkfglbmhpdcfpaaDoorBmS
namespace Go.Proofs.YtkfglbmhpdcfpaaDoor
open Go.ChangeShapes Go.WideShapes Go.ChangeAt Go.RowKit
set_option linter.unusedVariables false
set_option linter.unusedSimpArgs false

set_option maxRecDepth 100000 in
set_option maxHeartbeats 1000000 in
theorem great_no (n A B : Int) (hn : n < 0 ∨ 65536 < n) (w : World) (hT : TB w) : Calls Tryd.prog 6 #[.int .i64 n, .int .i64 A, .int .i64 B] w fun e w' => e = .returned (.bool true) ∧ Below w.heap.size w w' := by
  have AW := hide (bawake_c w hT)
  have NB := hide (new_bad n hn)
  clear hT
  by_cases h0 : n < 0
  · go_enter Tryd.func6, Tryd.ntmps6
    go_wp2_with fail
    refine AW.out.mono ?_
    rintro e w1 ⟨rfl, hb⟩
    go_wp2_with fail
    refine (NB.out _).mono ?_
    rintro e w2 ⟨rfl, rfl⟩
    go_wp2_with fail
    go_ret
    exact ⟨rfl, hb⟩
  · have h1 : n > 65536 := by omega
    go_enter Tryd.func6, Tryd.ntmps6
    go_wp2_with fail
    refine AW.out.mono ?_
    rintro e w1 ⟨rfl, hb⟩
    go_wp2_with fail
    refine (NB.out _).mono ?_
    rintro e w2 ⟨rfl, rfl⟩
    go_wp2_with fail
    go_ret
    exact ⟨rfl, hb⟩

set_option maxRecDepth 100000 in
set_option maxHeartbeats 1000000 in
theorem great_bad (n : Nat) (A B : Int) (hn : n ≤ 65536) (hbad : ¬ (0 ≤ A ∧ A ≤ B ∧ B < n)) (w : World) (hT : TB w) : Calls Tryd.prog 6 #[.int .i64 n, .int .i64 A, .int .i64 B] w fun e w' => e = .returned (.bool true) ∧ Below w.heap.size w w' := by
  have AW := hide (bawake_c w hT)
  clear hT
  rcases (show A < 0 ∨ (¬ A < 0 ∧ B < A) ∨ (¬ A < 0 ∧ ¬ B < A ∧ B ≥ n) by omega) with h1 | ⟨h1, h2⟩ | ⟨h1, h2, h3⟩
  · go_enter Tryd.func6, Tryd.ntmps6
    go_wp2_with fail
    refine AW.out.mono ?_
    rintro e w1 ⟨rfl, hb⟩
    have N1 := hide (new_s hb n hn)
    clear AW hb
    go_wp2_with fail
    refine N1.out.mono ?_
    rintro e w2 ⟨rfl, hS, _, _⟩
    have S := hide hS
    clear hS N1
    go_wp2_with fail
    refine (fill_sbad S.out hbad).mono ?_
    rintro e w3 ⟨rfl, hb⟩
    replace S := hide (S.out.quiet hb)
    clear hb
    go_wp2_with fail
    refine (count_s S.out (cnt_none n)).mono ?_
    rintro e w4 ⟨rfl, hb⟩
    replace S := hide (S.out.quiet hb)
    clear hb
    go_wp2_with fail
    go_ret
    exact ⟨rfl, S.out.2.1⟩
  · go_enter Tryd.func6, Tryd.ntmps6
    go_wp2_with fail
    refine AW.out.mono ?_
    rintro e w1 ⟨rfl, hb⟩
    have N1 := hide (new_s hb n hn)
    clear AW hb
    go_wp2_with fail
    refine N1.out.mono ?_
    rintro e w2 ⟨rfl, hS, _, _⟩
    have S := hide hS
    clear hS N1
    go_wp2_with fail
    refine (fill_sbad S.out hbad).mono ?_
    rintro e w3 ⟨rfl, hb⟩
    replace S := hide (S.out.quiet hb)
    clear hb
    go_wp2_with fail
    refine (count_s S.out (cnt_none n)).mono ?_
    rintro e w4 ⟨rfl, hb⟩
    replace S := hide (S.out.quiet hb)
    clear hb
    go_wp2_with fail
    go_ret
    exact ⟨rfl, S.out.2.1⟩
  · go_enter Tryd.func6, Tryd.ntmps6
    go_wp2_with fail
    refine AW.out.mono ?_
    rintro e w1 ⟨rfl, hb⟩
    have N1 := hide (new_s hb n hn)
    clear AW hb
    go_wp2_with fail
    refine N1.out.mono ?_
    rintro e w2 ⟨rfl, hS, _, _⟩
    have S := hide hS
    clear hS N1
    go_wp2_with fail
    refine (fill_sbad S.out hbad).mono ?_
    rintro e w3 ⟨rfl, hb⟩
    replace S := hide (S.out.quiet hb)
    clear hb
    go_wp2_with fail
    refine (count_s S.out (cnt_none n)).mono ?_
    rintro e w4 ⟨rfl, hb⟩
    replace S := hide (S.out.quiet hb)
    clear hb
    go_wp2_with fail
    go_ret
    exact ⟨rfl, S.out.2.1⟩

set_option maxRecDepth 100000 in
set_option maxHeartbeats 2000000 in
theorem great_full (n B : Nat) (hn : n ≤ 65536) (hB : B < n) (hl : B = n - 1) (w : World) (hT : TB w) : Calls Tryd.prog 6 #[.int .i64 n, .int .i64 0, .int .i64 B] w fun e w' => e = .returned (.bool true) ∧ Below w.heap.size w w' := by
  have AW := hide (bawake_c w hT)
  have TH := hide hT
  have LE : 0 ≤ B := by omega
  have EF := hide (show ((cnt (fun p => (fun _ => false) p != rowB 0 B true (fun _ => false) p) 65536 : Nat) : Int) = (B : Int) + 1 from (cnt_fill LE (show B < 65536 by omega)).trans (by omega))
  have EC := hide (show ((cnt (fun p => rowF 0 B p != rowB 0 B false (rowF 0 B) p) 65536 : Nat) : Int) = (B : Int) + 1 from (cnt_clear LE (show B < 65536 by omega)).trans (by omega))
  have ER := hide (show ((cnt (rowF 0 B) n : Nat) : Int) = (B : Int) + 1 from (cnt_rowF LE hB).trans (by omega))
  have EN := nxt_row LE hB
  have NX0 := nx_of (o := none) (n := n) (f := rowF 0 B) (A := 0) (by omega) (by rcases EN with ⟨_, _, h⟩ | ⟨h, _⟩ | ⟨h, _, _⟩; exact h; omega; omega)
  have NX := hide (show nxI (rowF 0 B) n (0 : Int) = 0 ∧ nxO (rowF 0 B) n (0 : Int) = false from ⟨NX0.1.trans (by simp), NX0.2⟩)
  have HA := hide (show (decide (0 ≤ (0 : Int) ∧ (0 : Int) < n) && rowF 0 B ((0 : Int)).toNat) = true by unfold rowF; rw [Bool.and_eq_true, decide_eq_true_iff, decide_eq_true_iff]; omega)
  have HB := hide (show (decide (0 ≤ (B : Int) ∧ (B : Int) < n) && rowF 0 B ((B : Int)).toNat) = true by unfold rowF; rw [Bool.and_eq_true, decide_eq_true_iff, decide_eq_true_iff]; omega)
  have hBA : ¬ ((B : Int) < 0) := by omega
  have hBn : ¬ ((B : Int) ≥ n) := by omega
  have gb : ¬ ((B : Int) < (n : Int) - 1) := by omega
  have ke : (((B : Int) + 1) == (n : Int)) = true := by simp; omega
  clear hT EN NX0 hl
  go_enter Tryd.func6, Tryd.ntmps6
  go_wp2_with fail
  refine AW.out.mono ?_
  rintro e w1 ⟨rfl, hb⟩
  have N1 := hide (new_s hb n hn)
  clear AW hb
  go_wp2_with fail
  refine N1.out.mono ?_
  rintro e w2 ⟨rfl, hS, _, _⟩
  have S := hide hS
  clear hS N1
  go_wp2_with fail
  refine (fill_s S.out LE hB EF.out).mono ?_
  rintro e w3 ⟨rfl, hS, _⟩
  replace S := hide (hS.cast (rowF_is 0 B))
  clear hS EF
  go_wp2_with fail
  refine (count_s S.out ER.out).mono ?_
  rintro e w4 ⟨rfl, hb⟩
  replace S := hide (S.out.quiet hb)
  clear hb
  go_wp2_with fail
  refine (has_s S.out HA.out).mono ?_
  rintro e w5 ⟨rfl, hb⟩
  replace S := hide (S.out.quiet hb)
  clear hb
  go_wp2_with fail
  refine (has_s S.out HB.out).mono ?_
  rintro e w6 ⟨rfl, hb⟩
  replace S := hide (S.out.quiet hb)
  clear hb
  go_wp2_with fail
  refine (next_s S.out TH.out (by omega) (by omega) NX.out.1 NX.out.2).mono ?_
  rintro e w9 ⟨rfl, hb⟩
  replace S := hide (S.out.quiet hb)
  clear hb
  go_wp2_with fail
  go_ret
  exact ⟨rfl, S.out.2.1⟩

set_option maxRecDepth 100000 in
set_option maxHeartbeats 2000000 in
theorem great_mid0 (n B : Nat) (hn : n ≤ 65536) (hB : B < n) (hl : B < n - 1) (w : World) (hT : TB w) : Calls Tryd.prog 6 #[.int .i64 n, .int .i64 0, .int .i64 B] w fun e w' => e = .returned (.bool true) ∧ Below w.heap.size w w' := by
  have AW := hide (bawake_c w hT)
  have TH := hide hT
  have LE : 0 ≤ B := by omega
  have EF := hide (show ((cnt (fun p => (fun _ => false) p != rowB 0 B true (fun _ => false) p) 65536 : Nat) : Int) = (B : Int) + 1 from (cnt_fill LE (show B < 65536 by omega)).trans (by omega))
  have EC := hide (show ((cnt (fun p => rowF 0 B p != rowB 0 B false (rowF 0 B) p) 65536 : Nat) : Int) = (B : Int) + 1 from (cnt_clear LE (show B < 65536 by omega)).trans (by omega))
  have ER := hide (show ((cnt (rowF 0 B) n : Nat) : Int) = (B : Int) + 1 from (cnt_rowF LE hB).trans (by omega))
  have EN := nxt_row LE hB
  have NX0 := nx_of (o := some (B + 1)) (n := n) (f := rowF 0 B) (A := 0) (by omega) (by rcases EN with ⟨_, h, _⟩ | ⟨_, h⟩ | ⟨_, h, _⟩; omega; exact h; omega)
  have NX := hide (show nxI (rowF 0 B) n (0 : Int) = (B : Int) + 1 ∧ nxO (rowF 0 B) n (0 : Int) = true from ⟨NX0.1.trans (by simp), NX0.2⟩)
  have HA := hide (show (decide (0 ≤ (0 : Int) ∧ (0 : Int) < n) && rowF 0 B ((0 : Int)).toNat) = true by unfold rowF; rw [Bool.and_eq_true, decide_eq_true_iff, decide_eq_true_iff]; omega)
  have HB := hide (show (decide (0 ≤ (B : Int) ∧ (B : Int) < n) && rowF 0 B ((B : Int)).toNat) = true by unfold rowF; rw [Bool.and_eq_true, decide_eq_true_iff, decide_eq_true_iff]; omega)
  have HB1 := hide (show (decide (0 ≤ (B : Int) + 1 ∧ (B : Int) + 1 < n) && rowF 0 B ((B : Int) + 1).toNat) = false by unfold rowF; rw [Bool.and_eq_false_iff, decide_eq_false_iff_not, decide_eq_false_iff_not]; omega)
  have hBA : ¬ ((B : Int) < 0) := by omega
  have hBn : ¬ ((B : Int) ≥ n) := by omega
  have gb : (B : Int) < (n : Int) - 1 := by omega
  have ke : (((B : Int) + 1) == (n : Int)) = false := by simp; omega
  clear hT EN NX0 hl
  go_enter Tryd.func6, Tryd.ntmps6
  go_wp2_with fail
  refine AW.out.mono ?_
  rintro e w1 ⟨rfl, hb⟩
  have N1 := hide (new_s hb n hn)
  clear AW hb
  go_wp2_with fail
  refine N1.out.mono ?_
  rintro e w2 ⟨rfl, hS, _, _⟩
  have S := hide hS
  clear hS N1
  go_wp2_with fail
  refine (fill_s S.out LE hB EF.out).mono ?_
  rintro e w3 ⟨rfl, hS, _⟩
  replace S := hide (hS.cast (rowF_is 0 B))
  clear hS EF
  go_wp2_with fail
  refine (count_s S.out ER.out).mono ?_
  rintro e w4 ⟨rfl, hb⟩
  replace S := hide (S.out.quiet hb)
  clear hb
  go_wp2_with fail
  refine (has_s S.out HA.out).mono ?_
  rintro e w5 ⟨rfl, hb⟩
  replace S := hide (S.out.quiet hb)
  clear hb
  go_wp2_with fail
  refine (has_s S.out HB.out).mono ?_
  rintro e w6 ⟨rfl, hb⟩
  replace S := hide (S.out.quiet hb)
  clear hb
  go_wp2_with fail
  refine (has_s S.out HB1.out).mono ?_
  rintro e w8 ⟨rfl, hb⟩
  replace S := hide (S.out.quiet hb)
  clear hb
  go_wp2_with fail
  refine (next_s S.out TH.out (by omega) (by omega) NX.out.1 NX.out.2).mono ?_
  rintro e w9 ⟨rfl, hb⟩
  replace S := hide (S.out.quiet hb)
  clear hb
  go_wp2_with fail
  refine (clear_s S.out LE hB EC.out).mono ?_
  rintro e w10 ⟨rfl, hS, _⟩
  replace S := hide (hS.cast (rowF_off 0 B))
  clear hS EC
  go_wp2_with fail
  refine (count_s S.out (cnt_none n)).mono ?_
  rintro e w11 ⟨rfl, hb⟩
  replace S := hide (S.out.quiet hb)
  clear hb
  go_wp2_with fail
  go_ret
  exact ⟨rfl, S.out.2.1⟩

set_option maxRecDepth 100000 in
set_option maxHeartbeats 2000000 in
theorem great_mid (n A B : Nat) (hn : n ≤ 65536) (hAB : A ≤ B) (hB : B < n) (h0 : ¬ A = 0) (hl : B < n - 1) (w : World) (hT : TB w) : Calls Tryd.prog 6 #[.int .i64 n, .int .i64 A, .int .i64 B] w fun e w' => e = .returned (.bool true) ∧ Below w.heap.size w w' := by
  have AW := hide (bawake_c w hT)
  have TH := hide hT
  have LE : A ≤ B := by omega
  have EF := hide (show ((cnt (fun p => (fun _ => false) p != rowB A B true (fun _ => false) p) 65536 : Nat) : Int) = (B : Int) - A + 1 from (cnt_fill LE (show B < 65536 by omega)).trans (by omega))
  have EC := hide (show ((cnt (fun p => rowF A B p != rowB A B false (rowF A B) p) 65536 : Nat) : Int) = (B : Int) - A + 1 from (cnt_clear LE (show B < 65536 by omega)).trans (by omega))
  have ER := hide (show ((cnt (rowF A B) n : Nat) : Int) = (B : Int) - A + 1 from (cnt_rowF LE hB).trans (by omega))
  have EN := nxt_row LE hB
  have NX0 := nx_of (o := some (B + 1)) (n := n) (f := rowF A B) (A := A) (by omega) (by rcases EN with ⟨_, h, _⟩ | ⟨_, h⟩ | ⟨_, h, _⟩; omega; exact h; omega)
  have NX := hide (show nxI (rowF A B) n (A : Int) = (B : Int) + 1 ∧ nxO (rowF A B) n (A : Int) = true from ⟨NX0.1.trans (by simp), NX0.2⟩)
  have HA := hide (show (decide (0 ≤ (A : Int) ∧ (A : Int) < n) && rowF A B ((A : Int)).toNat) = true by unfold rowF; rw [Bool.and_eq_true, decide_eq_true_iff, decide_eq_true_iff]; omega)
  have HB := hide (show (decide (0 ≤ (B : Int) ∧ (B : Int) < n) && rowF A B ((B : Int)).toNat) = true by unfold rowF; rw [Bool.and_eq_true, decide_eq_true_iff, decide_eq_true_iff]; omega)
  have HA1 := hide (show (decide (0 ≤ (A : Int) - 1 ∧ (A : Int) - 1 < n) && rowF A B ((A : Int) - 1).toNat) = false by unfold rowF; rw [Bool.and_eq_false_iff, decide_eq_false_iff_not, decide_eq_false_iff_not]; omega)
  have HB1 := hide (show (decide (0 ≤ (B : Int) + 1 ∧ (B : Int) + 1 < n) && rowF A B ((B : Int) + 1).toNat) = false by unfold rowF; rw [Bool.and_eq_false_iff, decide_eq_false_iff_not, decide_eq_false_iff_not]; omega)
  have hA0 : ¬ ((A : Int) < 0) := by omega
  have hBA : ¬ ((B : Int) < A) := by omega
  have hBn : ¬ ((B : Int) ≥ n) := by omega
  have ga : (A : Int) > 0 := by omega
  have gb : (B : Int) < (n : Int) - 1 := by omega
  have ke : (((B : Int) - A + 1) == (n : Int)) = false := by simp; omega
  clear hT EN NX0 hl h0
  go_enter Tryd.func6, Tryd.ntmps6
  go_wp2_with fail
  refine AW.out.mono ?_
  rintro e w1 ⟨rfl, hb⟩
  have N1 := hide (new_s hb n hn)
  clear AW hb
  go_wp2_with fail
  refine N1.out.mono ?_
  rintro e w2 ⟨rfl, hS, _, _⟩
  have S := hide hS
  clear hS N1
  go_wp2_with fail
  refine (fill_s S.out LE hB EF.out).mono ?_
  rintro e w3 ⟨rfl, hS, _⟩
  replace S := hide (hS.cast (rowF_is A B))
  clear hS EF
  go_wp2_with fail
  refine (count_s S.out ER.out).mono ?_
  rintro e w4 ⟨rfl, hb⟩
  replace S := hide (S.out.quiet hb)
  clear hb
  go_wp2_with fail
  refine (has_s S.out HA.out).mono ?_
  rintro e w5 ⟨rfl, hb⟩
  replace S := hide (S.out.quiet hb)
  clear hb
  go_wp2_with fail
  refine (has_s S.out HB.out).mono ?_
  rintro e w6 ⟨rfl, hb⟩
  replace S := hide (S.out.quiet hb)
  clear hb
  go_wp2_with fail
  refine (has_s S.out HA1.out).mono ?_
  rintro e w7 ⟨rfl, hb⟩
  replace S := hide (S.out.quiet hb)
  clear hb
  go_wp2_with fail
  refine (has_s S.out HB1.out).mono ?_
  rintro e w8 ⟨rfl, hb⟩
  replace S := hide (S.out.quiet hb)
  clear hb
  go_wp2_with fail
  refine (next_s S.out TH.out (by omega) (by omega) NX.out.1 NX.out.2).mono ?_
  rintro e w9 ⟨rfl, hb⟩
  replace S := hide (S.out.quiet hb)
  clear hb
  go_wp2_with fail
  refine (clear_s S.out LE hB EC.out).mono ?_
  rintro e w10 ⟨rfl, hS, _⟩
  replace S := hide (hS.cast (rowF_off A B))
  clear hS EC
  go_wp2_with fail
  refine (count_s S.out (cnt_none n)).mono ?_
  rintro e w11 ⟨rfl, hb⟩
  replace S := hide (S.out.quiet hb)
  clear hb
  go_wp2_with fail
  go_ret
  exact ⟨rfl, S.out.2.1⟩

set_option maxRecDepth 100000 in
set_option maxHeartbeats 2000000 in
theorem great_end (n A B : Nat) (hn : n ≤ 65536) (hAB : A ≤ B) (hB : B < n) (h0 : ¬ A = 0) (hl : B = n - 1) (w : World) (hT : TB w) : Calls Tryd.prog 6 #[.int .i64 n, .int .i64 A, .int .i64 B] w fun e w' => e = .returned (.bool true) ∧ Below w.heap.size w w' := by
  have AW := hide (bawake_c w hT)
  have TH := hide hT
  have LE : A ≤ B := by omega
  have EF := hide (show ((cnt (fun p => (fun _ => false) p != rowB A B true (fun _ => false) p) 65536 : Nat) : Int) = (B : Int) - A + 1 from (cnt_fill LE (show B < 65536 by omega)).trans (by omega))
  have EC := hide (show ((cnt (fun p => rowF A B p != rowB A B false (rowF A B) p) 65536 : Nat) : Int) = (B : Int) - A + 1 from (cnt_clear LE (show B < 65536 by omega)).trans (by omega))
  have ER := hide (show ((cnt (rowF A B) n : Nat) : Int) = (B : Int) - A + 1 from (cnt_rowF LE hB).trans (by omega))
  have EN := nxt_row LE hB
  have NX0 := nx_of (o := some 0) (n := n) (f := rowF A B) (A := A) (by omega) (by rcases EN with ⟨h, _, _⟩ | ⟨h, _⟩ | ⟨_, _, h⟩; omega; omega; exact h)
  have NX := hide (show nxI (rowF A B) n (A : Int) = 0 ∧ nxO (rowF A B) n (A : Int) = true from ⟨NX0.1.trans (by simp), NX0.2⟩)
  have HA := hide (show (decide (0 ≤ (A : Int) ∧ (A : Int) < n) && rowF A B ((A : Int)).toNat) = true by unfold rowF; rw [Bool.and_eq_true, decide_eq_true_iff, decide_eq_true_iff]; omega)
  have HB := hide (show (decide (0 ≤ (B : Int) ∧ (B : Int) < n) && rowF A B ((B : Int)).toNat) = true by unfold rowF; rw [Bool.and_eq_true, decide_eq_true_iff, decide_eq_true_iff]; omega)
  have HA1 := hide (show (decide (0 ≤ (A : Int) - 1 ∧ (A : Int) - 1 < n) && rowF A B ((A : Int) - 1).toNat) = false by unfold rowF; rw [Bool.and_eq_false_iff, decide_eq_false_iff_not, decide_eq_false_iff_not]; omega)
  have hA0 : ¬ ((A : Int) < 0) := by omega
  have hBA : ¬ ((B : Int) < A) := by omega
  have hBn : ¬ ((B : Int) ≥ n) := by omega
  have ga : (A : Int) > 0 := by omega
  have gb : ¬ ((B : Int) < (n : Int) - 1) := by omega
  have ke : (((B : Int) - A + 1) == (n : Int)) = false := by simp; omega
  clear hT EN NX0 hl h0
  go_enter Tryd.func6, Tryd.ntmps6
  go_wp2_with fail
  refine AW.out.mono ?_
  rintro e w1 ⟨rfl, hb⟩
  have N1 := hide (new_s hb n hn)
  clear AW hb
  go_wp2_with fail
  refine N1.out.mono ?_
  rintro e w2 ⟨rfl, hS, _, _⟩
  have S := hide hS
  clear hS N1
  go_wp2_with fail
  refine (fill_s S.out LE hB EF.out).mono ?_
  rintro e w3 ⟨rfl, hS, _⟩
  replace S := hide (hS.cast (rowF_is A B))
  clear hS EF
  go_wp2_with fail
  refine (count_s S.out ER.out).mono ?_
  rintro e w4 ⟨rfl, hb⟩
  replace S := hide (S.out.quiet hb)
  clear hb
  go_wp2_with fail
  refine (has_s S.out HA.out).mono ?_
  rintro e w5 ⟨rfl, hb⟩
  replace S := hide (S.out.quiet hb)
  clear hb
  go_wp2_with fail
  refine (has_s S.out HB.out).mono ?_
  rintro e w6 ⟨rfl, hb⟩
  replace S := hide (S.out.quiet hb)
  clear hb
  go_wp2_with fail
  refine (has_s S.out HA1.out).mono ?_
  rintro e w7 ⟨rfl, hb⟩
  replace S := hide (S.out.quiet hb)
  clear hb
  go_wp2_with fail
  refine (next_s S.out TH.out (by omega) (by omega) NX.out.1 NX.out.2).mono ?_
  rintro e w9 ⟨rfl, hb⟩
  replace S := hide (S.out.quiet hb)
  clear hb
  go_wp2_with fail
  refine (clear_s S.out LE hB EC.out).mono ?_
  rintro e w10 ⟨rfl, hS, _⟩
  replace S := hide (hS.cast (rowF_off A B))
  clear hS EC
  go_wp2_with fail
  refine (count_s S.out (cnt_none n)).mono ?_
  rintro e w11 ⟨rfl, hb⟩
  replace S := hide (S.out.quiet hb)
  clear hb
  go_wp2_with fail
  go_ret
  exact ⟨rfl, S.out.2.1⟩

theorem great_walk (n A B : Int) (w : World) (hT : TB w) : Calls Tryd.prog 6 #[.int .i64 n, .int .i64 A, .int .i64 B] w fun e w' => e = .returned (.bool true) ∧ Below w.heap.size w w' := by
  by_cases hn : n < 0 ∨ 65536 < n
  · exact great_no n A B hn w hT
  · obtain ⟨m, rfl⟩ := Int.eq_ofNat_of_zero_le (show 0 ≤ n by omega)
    by_cases hb : 0 ≤ A ∧ A ≤ B ∧ B < m
    · obtain ⟨a, rfl⟩ := Int.eq_ofNat_of_zero_le hb.1
      obtain ⟨b, rfl⟩ := Int.eq_ofNat_of_zero_le (show 0 ≤ B by omega)
      by_cases h0 : a = 0
      · subst h0
        by_cases hl : b = m - 1
        · exact great_full m b (by omega) (by omega) hl w hT
        · exact great_mid0 m b (by omega) (by omega) (by omega) w hT
      · by_cases hl : b = m - 1
        · exact great_end m a b (by omega) (by omega) (by omega) h0 hl w hT
        · exact great_mid m a b (by omega) (by omega) (by omega) h0 (by omega) w hT
    · exact great_bad m A B (by omega) hb w hT

end Go.Proofs.YtkfglbmhpdcfpaaDoor

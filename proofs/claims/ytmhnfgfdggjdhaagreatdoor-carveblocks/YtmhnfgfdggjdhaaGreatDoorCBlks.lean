/-
  The walk of CarveBlocks.
-/
import Derived.Test.YtmhnfgfdggjdhaaGreatDoorRef4
namespace Go.Proofs.YtmhnfgfdggjdhaaGreatDoor
open Go.ChangeShapes Go.WideShapes Go.ChangeAt Go.RowKit
set_option linter.unusedVariables false
set_option linter.unusedSimpArgs false

theorem cblks_start (w : World) (v : Bool) (h l b ih il : Int) : Kn w [(w.heap.size + 1, [.int .u64 ih, .int .u64 il], 24), (w.heap.size, [.bool v, .int .u64 h, .int .u64 l, .int .i64 b], 28)] ((w.alloc (.cells #[.bool v, .int .u64 h, .int .u64 l, .int .i64 b] 28)).alloc (.cells #[.int .u64 ih, .int .u64 il] 24)) :=
  ((Kn.nil w).push rfl).push (by simp)

/-- What both say of how many blocks there are. -/
theorem both_blks {v : Bool} {h l b : Int} {n : Nat} (hp : IsNum h l n) (k : Int) : ∃ (rh rl e : Int) (t : Bool), (∀ w', Calls Tryz.prog 30 #[pv v h l b, .int .i64 k] w' fun e' w1 => e' = .returned (.tuple #[nv rh rl, .bool t, .int .i64 e]) ∧ Below w'.heap.size w' w1) ∧ (∀ w', Calls Tryz.prog 31 #[pv v h l b, .int .i64 k] w' fun e' w1 => e' = .returned (.tuple #[nv rh rl, .bool t, .int .i64 e]) ∧ Below w'.heap.size w' w1) := by
  cases hc : cutB v n b k
  · exact ⟨0, 0, 1, false, fun w' => blks_no hp hc w', fun w' => rblks_no hp hc w'⟩
  · obtain ⟨_, b0, b1, b2, _⟩ := cutB_parts hc
    have hW2 := width_le v
    obtain ⟨rh, rl, t, hct⟩ := countIs_ex (K := (k - b).toNat) (by omega)
    exact ⟨rh, rl, 0, t, fun w' => blks_ok hp hc hct w', fun w' => rblks_ok hp hc hct w'⟩

/-- What both say of the block of a number. -/
theorem both_blk {v : Bool} {h l b ih il : Int} {n i : Nat} (hp : IsNum h l n) (hi : IsNum ih il i) (k : Int) : ∃ (xv : Bool) (xh xl xb e : Int), (∀ w', Calls Tryz.prog 32 #[pv v h l b, .int .i64 k, nv ih il] w' fun e' w1 => e' = .returned (.tuple #[pv xv xh xl xb, .int .i64 e]) ∧ Below w'.heap.size w' w1) ∧ (∀ w', Calls Tryz.prog 33 #[pv v h l b, .int .i64 k, nv ih il] w' fun e' w1 => e' = .returned (.tuple #[pv xv xh xl xb, .int .i64 e]) ∧ Below w'.heap.size w' w1) := by
  cases hc : cutB v n b k
  · exact ⟨false, 0, 0, 0, 1, fun w' => block_arg hp hc w', fun w' => rbk_no hp hc w'⟩
  · by_cases c : i < 2 ^ (k - b).toNat
    · obtain ⟨xh, xl, hx⟩ := IsNum.ex (blk_ok hc hp.lt c).2
      exact ⟨v, xh, xl, k, 0, fun w' => block_ok hp hi hc c hx w', fun w' => rbk_ok hp hi hc c hx w'⟩
    · exact ⟨false, 0, 0, 0, 12, fun w' => block_range hp hi hc c w', fun w' => rbk_range hp hi hc c w'⟩

set_option maxRecDepth 100000 in
set_option maxHeartbeats 3200000 in
theorem blks_walk {v : Bool} {h l b k ih il : Int} {n i : Nat} (hp : IsNum h l n) (hi : IsNum ih il i) (w : World) (hL : LW w)
    (aw : ∀ w, LW w → Calls Tryz.prog 29 #[] w fun e w' => e = .returned (.bool true) ∧ Below w.heap.size w w') :
    Calls Tryz.prog 6 #[pv v h l b, .int .i64 k, nv ih il] w fun e w' => e = .returned (.bool true) ∧ Below w.heap.size w w' := by
  have hz := hL.sz
  have K := cblks_start w v h l b ih il
  have AW : Hid (Calls Tryz.prog 29 #[] _ _) := aw _ (hL.of K.bel hz)
  obtain ⟨W, hW⟩ : ∃ W, widthA v = W := ⟨_, rfl⟩
  obtain ⟨rh, rl, e1, t, A10, A20⟩ := both_blks (v := v) (b := b) hp k
  obtain ⟨xv, xh, xl, xb, e2, B10, B20⟩ := both_blk (v := v) (b := b) hp hi k
  obtain ⟨sh, sl, e3, t3, C10, C20⟩ := both_blks (v := v) (b := b) hp W
  obtain ⟨yv, yh, yl, yb, e4, D10, D20⟩ := both_blk (v := v) (b := b) hp hi W
  have A1 : Hid _ := A10
  have A2 : Hid _ := A20
  have B1 : Hid _ := B10
  have B2 : Hid _ := B20
  have C1 : Hid (∀ w', Calls Tryz.prog 34 #[pv v h l b] w' fun e' w1 => e' = .returned (.tuple #[nv sh sl, .bool t3, .int .i64 e3]) ∧ Below w'.heap.size w' w1) := fun w' => hosts_any hW C10 w'
  have C2 : Hid _ := C20
  have D1 : Hid (∀ w', Calls Tryz.prog 35 #[pv v h l b, nv ih il] w' fun e' w1 => e' = .returned (.tuple #[av yv yh yl, .int .i64 e4]) ∧ Below w'.heap.size w' w1) := fun w' => host_any hW D10 w'
  have D2 : Hid _ := D20
  have CW : Hid (∀ w', Calls Tryz.prog 19 #[av v h l] w' fun e w1 => e = .returned (.int .i64 W) ∧ Below w'.heap.size w' w1) := fun w' => width_lit v W hW h l w'
  clear hp hi hL aw A10 A20 B10 B20 C10 C20 D10 D20 hW
  go_enter Tryz.func6, Tryz.ntmps6
  go_wp2_with fail
  refine AW.out.mono ?_
  rintro e w1 ⟨rfl, hb⟩
  replace K := K.below hb
  have F := K.1
  simp only [Facts, CellsAt] at F
  clear hb AW
  go_wp2_with fail
  refine (A1.out _).mono ?_
  rintro e w2 ⟨rfl, hb⟩
  replace K := ((K.below hb).push (b := w2.heap.size) (cs := [.int .u64 rh, .int .u64 rl]) (t := 24) (by simp))
  replace F := K.1
  simp only [Facts, CellsAt] at F
  clear hb A1
  go_wp2_with fail
  refine (A2.out _).mono ?_
  rintro e w3 ⟨rfl, hb⟩
  replace K := ((K.below hb).push (b := w3.heap.size) (cs := [.int .u64 rh, .int .u64 rl]) (t := 24) (by simp))
  replace F := K.1
  simp only [Facts, CellsAt] at F
  clear hb A2
  go_wp2_with fail
  refine (B1.out _).mono ?_
  rintro e w4 ⟨rfl, hb⟩
  replace K := ((K.below hb).push (b := w4.heap.size) (cs := [.bool xv, .int .u64 xh, .int .u64 xl, .int .i64 xb]) (t := 28) (by simp))
  replace F := K.1
  simp only [Facts, CellsAt] at F
  clear hb B1
  go_wp2_with fail
  refine (B2.out _).mono ?_
  rintro e w5 ⟨rfl, hb⟩
  replace K := ((K.below hb).push (b := w5.heap.size) (cs := [.bool xv, .int .u64 xh, .int .u64 xl, .int .i64 xb]) (t := 28) (by simp))
  replace F := K.1
  simp only [Facts, CellsAt] at F
  clear hb B2
  go_wp2_with fail
  refine (C1.out _).mono ?_
  rintro e w6 ⟨rfl, hb⟩
  replace K := ((K.below hb).push (b := w6.heap.size) (cs := [.int .u64 sh, .int .u64 sl]) (t := 24) (by simp))
  replace F := K.1
  simp only [Facts, CellsAt] at F
  clear hb C1
  go_wp2_with fail
  refine (D1.out _).mono ?_
  rintro e w7 ⟨rfl, hb⟩
  replace K := ((K.below hb).push (b := w7.heap.size) (cs := [.bool yv, .int .u64 yh, .int .u64 yl]) (t := 26) (by simp))
  replace F := K.1
  simp only [Facts, CellsAt] at F
  clear hb D1
  go_wp2_with fail
  refine (CW.out _).mono ?_
  rintro e w8 ⟨rfl, hb⟩
  replace K := (K.below hb)
  replace F := K.1
  simp only [Facts, CellsAt] at F
  clear hb CW
  go_wp2_with fail
  refine (C2.out _).mono ?_
  rintro e w9 ⟨rfl, hb⟩
  replace K := ((K.below hb).push (b := w9.heap.size) (cs := [.int .u64 sh, .int .u64 sl]) (t := 24) (by simp))
  replace F := K.1
  simp only [Facts, CellsAt] at F
  clear hb C2
  go_wp2_with fail
  refine (D2.out _).mono ?_
  rintro e w10 ⟨rfl, hb⟩
  replace K := ((K.below hb).push (b := w10.heap.size) (cs := [.bool yv, .int .u64 yh, .int .u64 yl, .int .i64 yb]) (t := 28) (by simp))
  replace F := K.1
  simp only [Facts, CellsAt] at F
  clear hb D2
  have B := K.bel
  clear K
  go_wp2
  go_ret
  exact ⟨by first | rfl | simp, B⟩
end Go.Proofs.YtmhnfgfdggjdhaaGreatDoor

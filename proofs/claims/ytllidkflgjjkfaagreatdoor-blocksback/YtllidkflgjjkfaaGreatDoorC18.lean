/-
  Texts Bm9, Bm10, BmA, BmS, BmR of the proof.
-/
import Derived.Test.YtllidkflgjjkfaaGreatDoorC17

namespace Go.Proofs.YtllidkflgjjkfaaGreatDoor
open Go.ChangeShapes Go.WideShapes Go.ChangeAt Go.RowKit
set_option linter.unusedVariables false
set_option linter.unusedSimpArgs false

/-- Ahead of word i. -/
def CountI (w0 : World) (a g n c1 c2 : Nat) (f : Nat → Bool) (i : Nat) (W : World) : Prop :=
  MapB W a g n f ∧ Blk W c1 #[.int .i64 (cnt f (64 * i) : Nat)] 3 ∧ Blk W c2 #[.pointer (some ⟨a, 0, none⟩)] 92 ∧ Below w0.heap.size w0 W

theorem MapB.setFar {W : World} {a g n c : Nat} {f : Nat → Bool} (H : MapB W a g n f) (na : a ≠ c) (ng : g ≠ c) (i : Nat) (u : Value) : MapB (W.setCell ⟨c, i, none⟩ u) a g n f := by
  obtain ⟨⟨ws, hm, hb⟩, hbeh⟩ := H
  exact ⟨⟨ws, ⟨hm.head.far na i u, hm.row.far ng i u, hm.len, hm.small, hm.word⟩, hb⟩, hbeh⟩

theorem MapB.alike {W V : World} {a g n : Nat} {f : Nat → Bool} (H : MapB V a g n f) (A : Alike W V) : MapB W a g n f := by
  obtain ⟨⟨ws, hm, hb⟩, hbeh⟩ := H
  exact ⟨⟨ws, ⟨hm.head.alike A, hm.row.alike A, hm.len, hm.small, hm.word⟩, hb⟩, hbeh⟩

theorem below_alike {B : Nat} {w W V : World} (h : Below B w V) (A : Alike W V) : Below B w W :=
  ⟨A.os.trans h.os, A.tape.trans h.tape, A.output.trans h.output, by rw [A.heap]; exact h.size, fun k hk => by rw [A.heap]; exact h.block k hk⟩

theorem MapB.neOf {W : World} {a g n c : Nat} {f : Nat → Bool} {cs : Array Value} {t : TypeId} (H : MapB W a g n f) (h : Blk W c cs t) (h1 : 134 ≠ t) (h2 : 22 ≠ t) : a ≠ c ∧ g ≠ c := by
  obtain ⟨⟨ws, hm, hb⟩, hbeh⟩ := H
  exact ⟨hm.head.ne h h1, hm.row.ne h h2⟩

theorem count_step (w0 : World) (a g n c1 c2 : Nat) (f : Nat → Bool) (hn : 0 < n) (hc1 : w0.heap.size ≤ c1) (i : Nat) (W : World) (hi2 : i ≤ (n - 1) / 64) (H : CountI w0 a g n c1 c2 f i W) :
    Calls Tryz.prog 106 #[.int .i64 i, .int .u64 (rowM 0 (n - 1) i), .pointer (some ⟨c1, 0, none⟩), .pointer (some ⟨c2, 0, none⟩)] W fun e W' =>
      (e = .returned (.bool true) ∧ CountI w0 a g n c1 c2 f (i + 1) W') ∨ (e = .returned (.bool false) ∧ False) := by
  obtain ⟨hM, h1, h2, hb⟩ := H
  obtain ⟨na, ng⟩ := hM.neOf h1 (by decide) (by decide)
  have hn6 := hM.lt.2.2.2
  have hbeh := hM.behind
  have hM' := hM
  obtain ⟨⟨ws, hm, hbits⟩, _⟩ := hM
  have hlen := hm.len
  have hi : i < ws.length := by omega
  obtain ⟨hx, hxl⟩ := hm.get hi
  have hrl := rowM_lt 0 (n - 1) i
  have hyb : ∀ j, j < 64 → (ws.getD i 0 &&& rowM 0 (n - 1) i).testBit j = f (64 * i + j) := fun j hj => by
    rw [Nat.testBit_and, rowM_bit (by omega) hi2, ← bitL_at hj, hbits]
    by_cases h : 64 * i + j < n
    · simp [hj, show 64 * i + j ≤ n - 1 by omega]
    · rw [hbeh _ (by omega)]; rfl
  have ec := cnt_word (q := f) (i := i) hyb
  have ht := cnt_le f (64 * i)
  refine (count1_w a g n ws.length c1 c2 i (ws.getD i 0) (ws.getD i 0 &&& rowM 0 (n - 1) i) (rowM 0 (n - 1) i) (cnt f (64 * i)) _ W h1 h2 hm.head hm.row hi (by omega) hx (and_nat hxl hrl _ _ rfl rfl) (Nat.lt_of_le_of_lt Nat.and_le_left hxl) (by omega)).mono ?_
  rintro e W' ⟨rfl, A⟩
  have q := h1.ne h2 (by decide)
  refine Or.inl ⟨rfl, (hM'.setFar na ng _ _).alike A, ?_, (h2.far q.symm _ _).alike A, below_alike (hb.setCell (p := ⟨c1, 0, none⟩) hc1 _) A⟩
  have e := (h1.put 0 (.int .i64 ((cnt f (64 * i) : Int) + (pc (ws.getD i 0 &&& rowM 0 (n - 1) i) : Int)))).alike A
  rw [ec]
  simpa using e

theorem count_start {w : World} {a g n : Nat} {f : Nat → Bool} (H : MapB w a g n f) :
    CountI w a g n (w.heap.size + 1) w.heap.size f (0 / 64) ((w.alloc (.cells #[.pointer (some ⟨a, 0, none⟩)] 92)).alloc (.cells #[.int .i64 0] 3)) := by
  have e1 := Blk.new w #[.pointer (some ⟨a, 0, none⟩)] 92
  have e2 := Blk.new (w.alloc (.cells #[.pointer (some ⟨a, 0, none⟩)] 92)) #[.int .i64 0] 3
  rw [show (w.alloc (.cells #[.pointer (some ⟨a, 0, none⟩)] 92)).heap.size = w.heap.size + 1 by simp] at e2
  have bl : Below w.heap.size w ((w.alloc (.cells #[.pointer (some ⟨a, 0, none⟩)] 92)).alloc (.cells #[.int .i64 0] 3)) := by repeat (first | with_reducible exact Below.refl _ _ | with_reducible refine Below.drew ?_ | with_reducible refine Below.alloc ?_ (by first | omega | (simp <;> omega)) _ | with_reducible refine Below.setCell ?_ (by first | omega | (simp <;> omega)) _)
  exact ⟨H.below bl, e2, e1.alloc _, bl⟩

theorem count_each (w : World) (a g n : Nat) (f : Nat → Bool) (hn : 0 < n) (hn6 : n ≤ 65536) (hbeh : ∀ p, n ≤ p → f p = false) (W : World) (S0 : CountI w a g n (w.heap.size + 1) w.heap.size f (0 / 64) W) :
    Calls Tryz.prog 105 #[.int .i64 0, .int .i64 ((n : Int) - 1), .func (.func 106) #[] #[.pointer (some ⟨w.heap.size + 1, 0, none⟩), .pointer (some ⟨w.heap.size, 0, none⟩)]] W fun e W' => e = .returned (.tuple #[]) ∧
      W'.cell? ⟨w.heap.size + 1, 0, none⟩ = some (.int .i64 (cnt f n : Nat)) ∧ Below w.heap.size w W' := by
  have E := each_count 0 (n - 1) (w.heap.size + 1) w.heap.size (by omega) (by omega) (CountI w a g n (w.heap.size + 1) w.heap.size f) (fun _ => False) W (fun i V h1 h2 h => count_step w a g n _ _ f hn (by omega) i V h2 h) S0
  rw [show ((n - 1 : Nat) : Int) = (n : Int) - 1 by omega] at E
  refine E.mono ?_
  rintro e W' ⟨rfl, h | h⟩
  · refine ⟨rfl, ?_, h.2.2.2⟩
    rw [h.2.1.cell 0, cnt_more (a := n) (b := 64 * ((n - 1) / 64 + 1)) (by omega) (fun k h4 h5 => hbeh k h4)]
    rfl
  · exact h.elim

set_option maxHeartbeats 1000000 in
theorem count_nil (w : World) : Calls Tryz.prog 59 #[.pointer none] w fun e w' => e = .returned (.int .i64 0) ∧ Below w.heap.size w w' := by
  have hmf : ∀ (fn : Fn) (first cap : Array Value) (w : World), (Instr.makeFunc fn first cap).run Tryz.prog w = .ok (.func fn first cap) w := fun _ _ _ _ => rfl
  go_enter Tryz.func59, Tryz.ntmps59
  go_wp2_with fail
  refine (size_nil _).mono ?_
  rintro e w1 ⟨rfl, rfl⟩
  go_wp2_with fail
  refine (each0_count _ _ _).mono ?_
  rintro e w1 ⟨rfl, rfl⟩
  go_wp2_with fail
  go_ret
  exact ⟨rfl, by repeat (first | with_reducible exact Below.refl _ _ | with_reducible refine Below.drew ?_ | with_reducible refine Below.alloc ?_ (by first | omega | (simp <;> omega)) _ | with_reducible refine Below.setCell ?_ (by first | omega | (simp <;> omega)) _)⟩

set_option maxHeartbeats 1000000 in
theorem count_ok (a g n : Nat) (f : Nat → Bool) (w : World) (H : MapB w a g n f) : Calls Tryz.prog 59 #[.pointer (some ⟨a, 0, none⟩)] w fun e w' => e = .returned (.int .i64 (cnt f n : Nat)) ∧ Below w.heap.size w w' := by
  have hmf : ∀ (fn : Fn) (first cap : Array Value) (w : World), (Instr.makeFunc fn first cap).run Tryz.prog w = .ok (.func fn first cap) w := fun _ _ _ _ => rfl
  have hn6 := H.lt.2.2.2
  obtain ⟨ws, hm, _⟩ := H.is
  have hc := hm.head
  clear hm
  by_cases h0 : n = 0
  · subst h0
    clear H
    go_enter Tryz.func59, Tryz.ntmps59
    go_wp2_with fail
    refine (size_c a (0 : Nat) _ (((hc.alloc _).alloc _).cell 0)).mono ?_
    rintro e w1 ⟨rfl, rfl⟩
    clear hc
    go_wp2_with fail
    refine (each0_count _ _ _).mono ?_
    rintro e w1 ⟨rfl, rfl⟩
    go_wp2_with fail
    go_ret
    exact ⟨rfl, by repeat (first | with_reducible exact Below.refl _ _ | with_reducible refine Below.drew ?_ | with_reducible refine Below.alloc ?_ (by first | omega | (simp <;> omega)) _ | with_reducible refine Below.setCell ?_ (by first | omega | (simp <;> omega)) _)⟩
  · have S0 := count_start H
    have E0 := fun W S => count_each w a g n f (by omega) hn6 H.behind W S
    have SH := hide S0
    have EH := hide E0
    clear S0 E0 H
    obtain ⟨c, hcc⟩ : ∃ c, cnt f n = c := ⟨_, rfl⟩
    rw [hcc] at EH
    have HC := hide hcc
    clear hcc
    go_enter Tryz.func59, Tryz.ntmps59
    go_wp2_with fail
    refine (size_c a n _ (((hc.alloc _).alloc _).cell 0)).mono ?_
    rintro e w1 ⟨rfl, rfl⟩
    clear hc
    go_wp2_with fail
    refine (EH.out _ SH.out).mono ?_
    rintro e w1 ⟨rfl, hcell, hb⟩
    clear EH SH
    go_wp2_with fail
    go_ret
    exact ⟨by rw [HC.out]; rfl, hb⟩

end Go.Proofs.YtllidkflgjjkfaaGreatDoor

namespace Go.Proofs.YtllidkflgjjkfaaGreatDoor
open Go.ChangeShapes Go.WideShapes Go.ChangeAt Go.RowKit
set_option linter.unusedVariables false
set_option linter.unusedSimpArgs false

/-- What the library's table holds. -/
def TB (w : World) : Prop := TabAt 0 Lib.deBruijn64tab w

theorem TB.lt {w : World} (h : TB w) : 0 < w.heap.size := by
  have e := h 0 (by decide)
  apply Classical.byContradiction
  intro c
  simp only [World.cell?] at e
  rw [Array.getElem?_eq_none (by omega)] at e
  cases e

theorem TB.below {w w' : World} (h : TB w) (hb : Below w.heap.size w w') : TB w' := fun j hj => (hb.cell (p := ⟨0, j, none⟩) h.lt).trans (h j hj)

/-- The lowest one of a word. -/
theorem ctz_low {y : Nat} (h0 : y ≠ 0) (h : y < 18446744073709551616) : Lib.ctz 64 y < 64 ∧ y.testBit (Lib.ctz 64 y) = true ∧ ∀ j, j < Lib.ctz 64 y → y.testBit j = false := by
  obtain ⟨m, e, lt⟩ := Lib.ctzFrom_spec 64 y (by omega) h
  have ec : Lib.ctz 64 y = Lib.ctzFrom 64 y := by unfold Lib.ctz; rw [if_neg h0]
  rw [ec]
  generalize Lib.ctzFrom 64 y = z at *
  subst e
  refine ⟨lt, ?_, fun j hj => ?_⟩
  · rw [Nat.testBit_two_pow_mul]
    simp
  · rw [Nat.testBit_two_pow_mul]
    simp [show ¬ z ≤ j by omega]

set_option maxHeartbeats 1000000 in
theorem first1_zero (a g n k c1 c2 c3 i x r : Nat) (W : World)
    (m0 : W.cell? ⟨c1, 0, none⟩ = some (.pointer (some ⟨a, 0, none⟩))) (f0 : W.cell? ⟨c3, 0, none⟩ = some (.bool false)) (a1 : W.cell? ⟨a, 1, none⟩ = some (.slice (some ⟨g, 0, none⟩) k k)) (g0 : W.cell? ⟨g, i, none⟩ = some (.int .u64 x))
    (hi : i < k) (hk : k < 2000) (hy : bits .andNot .u64 (r : Int) (x : Int) = 0) :
    Calls Tryz.prog 163 #[.int .i64 i, .int .u64 r, .pointer (some ⟨c1, 0, none⟩), .pointer (some ⟨c2, 0, none⟩), .pointer (some ⟨c3, 0, none⟩)] W fun e W' => e = .returned (.bool true) ∧ W' = W := by
  have hi' : (i : Int) < k := by omega
  go_enter Tryz.func163, Tryz.ntmps163
  go_wp2_with fail
  go_ret
  exact ⟨rfl, rfl⟩

set_option maxHeartbeats 1000000 in
theorem first1_some (a g n k c1 c2 c3 i x r y z : Nat) (W : World)
    (m0 : W.cell? ⟨c1, 0, none⟩ = some (.pointer (some ⟨a, 0, none⟩))) (a1 : W.cell? ⟨a, 1, none⟩ = some (.slice (some ⟨g, 0, none⟩) k k)) (g0 : W.cell? ⟨g, i, none⟩ = some (.int .u64 x))
    (s1 : W.frozen? ⟨c2, 0, none⟩ = false) (f1 : W.frozen? ⟨c3, 0, none⟩ = false) (s0 : W.cell? ⟨c2, 0, none⟩ = some (.int .i64 0)) (f0 : W.cell? ⟨c3, 0, none⟩ = some (.bool false)) (hne : c2 ≠ c3)
    (hi : i < k) (hk : k < 2000) (hy : bits .andNot .u64 (r : Int) (x : Int) = (y : Int)) (hy0 : y ≠ 0) (hyl : y < 18446744073709551616) (hz : Lib.ctz 64 y = z) (hzl : z < 64) (hT : TB W) :
    Calls Tryz.prog 163 #[.int .i64 i, .int .u64 r, .pointer (some ⟨c1, 0, none⟩), .pointer (some ⟨c2, 0, none⟩), .pointer (some ⟨c3, 0, none⟩)] W fun e W' => e = .returned (.bool false) ∧
      W' = (W.setCell ⟨c2, 0, none⟩ (.int .i64 ((i : Int) * 64 + (z : Int)))).setCell ⟨c3, 0, none⟩ (.bool true) := by
  have hi' : (i : Int) < k := by omega
  have TZ := hide (tz_w y hyl hy0 W hT)
  rw [hz] at TZ
  have hb : ((y : Int) != 0) = true := by simp; omega
  have hzz := hide hz
  clear hz hT hy0 hyl
  go_enter Tryz.func163, Tryz.ntmps163
  go_wp2_with fail
  refine TZ.out.mono ?_
  rintro e w1 ⟨rfl, rfl⟩
  go_wp2_with fail
  go_ret
  exact ⟨rfl, rfl⟩

/-- Ahead of word i: none has been found. -/
def FirstI (w0 : World) (a g n c1 c2 c3 : Nat) (f : Nat → Bool) (A B : Nat) (i : Nat) (W : World) : Prop :=
  MapB W a g n f ∧ Blk W c1 #[.pointer (some ⟨a, 0, none⟩)] 92 ∧ Blk W c2 #[.int .i64 0] 3 ∧ Blk W c3 #[.bool false] 4 ∧ Below w0.heap.size w0 W ∧ (∀ p, A ≤ p → p < 64 * i → p ≤ B → f p = true)

/-- One has been found. -/
def FirstQ (w0 : World) (c2 c3 : Nat) (f : Nat → Bool) (A B : Nat) (W : World) : Prop :=
  ∃ p, A ≤ p ∧ p ≤ B ∧ f p = false ∧ (∀ q, A ≤ q → q < p → f q = true) ∧ W.cell? ⟨c2, 0, none⟩ = some (.int .i64 (p : Nat)) ∧ W.cell? ⟨c3, 0, none⟩ = some (.bool true) ∧ Below w0.heap.size w0 W

theorem first_step (w0 : World) (a g n c1 c2 c3 : Nat) (f : Nat → Bool) (A B : Nat) (hAB : A ≤ B) (hB : B < n) (hc2 : w0.heap.size ≤ c2) (hc3 : w0.heap.size ≤ c3) (hT : TB w0) (i : Nat) (W : World) (hi1 : A / 64 ≤ i) (hi2 : i ≤ B / 64) (H : FirstI w0 a g n c1 c2 c3 f A B i W) :
    Calls Tryz.prog 163 #[.int .i64 i, .int .u64 (rowM A B i), .pointer (some ⟨c1, 0, none⟩), .pointer (some ⟨c2, 0, none⟩), .pointer (some ⟨c3, 0, none⟩)] W fun e W' =>
      (e = .returned (.bool true) ∧ FirstI w0 a g n c1 c2 c3 f A B (i + 1) W') ∨ (e = .returned (.bool false) ∧ FirstQ w0 c2 c3 f A B W') := by
  have H' := H
  obtain ⟨hM, h1, h2, h3, hb, hall⟩ := H
  have hn6 := hM.lt.2.2.2
  obtain ⟨⟨ws, hm, hbits⟩, _⟩ := hM
  have hlen := hm.len
  have hi : i < ws.length := by omega
  obtain ⟨hx, hxl⟩ := hm.get hi
  have hrl := rowM_lt A B i
  have q := h2.ne h3 (by decide)
  have ey : bits .andNot .u64 ((rowM A B i : Nat) : Int) ((ws.getD i 0 : Nat) : Int) = ((rowM A B i &&& (18446744073709551615 - ws.getD i 0) : Nat) : Int) := by
    rw [u64_andNot _ _ (by omega) (by omega) (by omega) (by omega)]
    simp
  have hyb : ∀ j, j < 64 → (rowM A B i &&& (18446744073709551615 - ws.getD i 0)).testBit j = (decide (A ≤ 64 * i + j ∧ 64 * i + j ≤ B) && !f (64 * i + j)) := fun j hj => by
    rw [Nat.testBit_and, rowM_bit hi1 hi2, not_bit hxl, ← bitL_at hj, hbits]
    simp [hj]
  have hyl : (rowM A B i &&& (18446744073709551615 - ws.getD i 0)) < 18446744073709551616 := Nat.lt_of_le_of_lt Nat.and_le_left hrl
  generalize (rowM A B i &&& (18446744073709551615 - ws.getD i 0)) = y at *
  by_cases hy0 : y = 0
  · subst hy0
    refine (first1_zero a g n ws.length c1 c2 c3 i (ws.getD i 0) (rowM A B i) W (h1.cell 0) (h3.cell 0) (hm.head.cell 1) ((hm.row.cell i).trans hx) hi (by omega) ey).mono ?_
    rintro e W' ⟨rfl, rfl⟩
    refine Or.inl ⟨rfl, H'.1, h1, h2, h3, hb, fun p p1 p2 p3 => ?_⟩
    by_cases hp : p < 64 * i
    · exact hall p p1 hp p3
    · have := hyb (p - 64 * i) (by omega)
      rw [show 64 * i + (p - 64 * i) = p by omega, decide_eq_true ⟨p1, p3⟩] at this
      simpa using this
  · obtain ⟨z1, z2, z3⟩ := ctz_low hy0 hyl
    refine (first1_some a g n ws.length c1 c2 c3 i (ws.getD i 0) (rowM A B i) y _ W (h1.cell 0) (hm.head.cell 1) ((hm.row.cell i).trans hx) (h2.frozen 0) (h3.frozen 0) (h2.cell 0) (h3.cell 0) q hi (by omega) ey hy0 hyl rfl z1 (hT.below hb)).mono ?_
    generalize Lib.ctz 64 y = z at *
    rintro e W' ⟨rfl, rfl⟩
    have b1 := hyb z z1
    rw [z2] at b1
    have b2 : (A ≤ 64 * i + z ∧ 64 * i + z ≤ B) ∧ f (64 * i + z) = false := by simpa using b1.symm
    have e2 := ((h2.put 0 (.int .i64 ((i : Int) * 64 + (z : Int)))).far q 0 (.bool true)).cell 0
    have e3 := ((h3.far q.symm 0 (.int .i64 ((i : Int) * 64 + (z : Int)))).put 0 (.bool true)).cell 0
    refine Or.inr ⟨rfl, 64 * i + z, b2.1.1, b2.1.2, b2.2, fun p p1 p2 => ?_, ?_, ?_, (hb.setCell (p := ⟨c2, 0, none⟩) hc2 _).setCell (p := ⟨c3, 0, none⟩) hc3 _⟩
    · by_cases hp : p < 64 * i
      · exact hall p p1 hp (by omega)
      · have := hyb (p - 64 * i) (by omega)
        rw [show 64 * i + (p - 64 * i) = p by omega, decide_eq_true ⟨p1, by omega⟩, z3 _ (by omega)] at this
        simpa using this.symm
    · rw [e2, show (((64 * i + z : Nat)) : Int) = (i : Int) * 64 + (z : Int) by omega]
      rfl
    · rw [e3]; rfl

theorem first_start {w : World} {a g n : Nat} {f : Nat → Bool} {A B : Nat} (H : MapB w a g n f) :
    FirstI w a g n w.heap.size (w.heap.size + 1) (w.heap.size + 1 + 1) f A B (A / 64) (((w.alloc (.cells #[.pointer (some ⟨a, 0, none⟩)] 92)).alloc (.cells #[.int .i64 0] 3)).alloc (.cells #[.bool false] 4)) := by
  have e1 := Blk.new w #[.pointer (some ⟨a, 0, none⟩)] 92
  have e2 := Blk.new (w.alloc (.cells #[.pointer (some ⟨a, 0, none⟩)] 92)) #[.int .i64 0] 3
  have e3 := Blk.new ((w.alloc (.cells #[.pointer (some ⟨a, 0, none⟩)] 92)).alloc (.cells #[.int .i64 0] 3)) #[.bool false] 4
  rw [show (w.alloc (.cells #[.pointer (some ⟨a, 0, none⟩)] 92)).heap.size = w.heap.size + 1 by simp] at e2
  rw [show ((w.alloc (.cells #[.pointer (some ⟨a, 0, none⟩)] 92)).alloc (.cells #[.int .i64 0] 3)).heap.size = w.heap.size + 1 + 1 by simp] at e3
  have bl : Below w.heap.size w (((w.alloc (.cells #[.pointer (some ⟨a, 0, none⟩)] 92)).alloc (.cells #[.int .i64 0] 3)).alloc (.cells #[.bool false] 4)) := by repeat (first | with_reducible exact Below.refl _ _ | with_reducible refine Below.drew ?_ | with_reducible refine Below.alloc ?_ (by first | omega | (simp <;> omega)) _ | with_reducible refine Below.setCell ?_ (by first | omega | (simp <;> omega)) _)
  exact ⟨H.below bl, (e1.alloc _).alloc _, e2.alloc _, e3, bl, fun p p1 p2 p3 => by omega⟩

/-- What is found, and whether. -/
def skP (f : Nat → Bool) (a k : Nat) : Nat := (seek f a k).getD 0

def skB (f : Nat → Bool) (a k : Nat) : Bool := (seek f a k).isSome

theorem first_each (w : World) (a g n : Nat) (f : Nat → Bool) (A B : Nat) (hAB : A ≤ B) (hB : B < n) (hn6 : n ≤ 65536) (hT : TB w) (W : World) (S0 : FirstI w a g n w.heap.size (w.heap.size + 1) (w.heap.size + 1 + 1) f A B (A / 64) W) :
    Calls Tryz.prog 105 #[.int .i64 A, .int .i64 B, .func (.func 163) #[] #[.pointer (some ⟨w.heap.size, 0, none⟩), .pointer (some ⟨w.heap.size + 1, 0, none⟩), .pointer (some ⟨w.heap.size + 1 + 1, 0, none⟩)]] W fun e W' => e = .returned (.tuple #[]) ∧
      W'.cell? ⟨w.heap.size + 1, 0, none⟩ = some (.int .i64 (skP f A (B + 1 - A) : Nat)) ∧ W'.cell? ⟨w.heap.size + 1 + 1, 0, none⟩ = some (.bool (skB f A (B + 1 - A))) ∧ Below w.heap.size w W' := by
  refine (each_first A B w.heap.size (w.heap.size + 1) (w.heap.size + 1 + 1) hAB (by omega) (FirstI w a g n w.heap.size (w.heap.size + 1) (w.heap.size + 1 + 1) f A B) (FirstQ w (w.heap.size + 1) (w.heap.size + 1 + 1) f A B) W (fun i V h1 h2 h => first_step w a g n _ _ _ f A B hAB hB (by omega) (by omega) hT i V h1 h2 h) S0).mono ?_
  rintro e W' ⟨rfl, h | h⟩
  · obtain ⟨_, _, h2, h3, hb, hall⟩ := h
    have es : seek f A (B + 1 - A) = none := seek_none (fun p p1 p2 => hall p p1 (by omega) (by omega))
    refine ⟨rfl, ?_, ?_, hb⟩
    · rw [h2.cell 0, skP, es]; rfl
    · rw [h3.cell 0, skB, es]; rfl
  · obtain ⟨p, p1, p2, p3, p4, h2, h3, hb⟩ := h
    have es : seek f A (B + 1 - A) = some p := seek_some p1 (by omega) p3 p4
    refine ⟨rfl, ?_, ?_, hb⟩
    · rw [h2, skP, es]; rfl
    · rw [h3, skB, es]; rfl

set_option maxHeartbeats 1000000 in
theorem fn_ok (a g n : Nat) (f : Nat → Bool) (A B : Nat) (hAB : A ≤ B) (hB : B < n) (w : World) (H : MapB w a g n f) (hT : TB w) : Calls Tryz.prog 131 #[.pointer (some ⟨a, 0, none⟩), .int .i64 A, .int .i64 B] w fun e w' =>
    e = .returned (.tuple #[.int .i64 (skP f A (B + 1 - A) : Nat), .bool (skB f A (B + 1 - A))]) ∧ Below w.heap.size w w' := by
  have hmf : ∀ (fn : Fn) (first cap : Array Value) (w : World), (Instr.makeFunc fn first cap).run Tryz.prog w = .ok (.func fn first cap) w := fun _ _ _ _ => rfl
  have hn6 := H.lt.2.2.2
  have SH := hide (first_start (A := A) (B := B) H)
  have EH := hide (fun W S => first_each w a g n f A B hAB hB hn6 hT W S)
  clear H hT
  obtain ⟨p, hp⟩ : ∃ p, skP f A (B + 1 - A) = p := ⟨_, rfl⟩
  obtain ⟨b, hb⟩ : ∃ b, skB f A (B + 1 - A) = b := ⟨_, rfl⟩
  rw [hp, hb] at EH
  have HP := hide hp
  have HB := hide hb
  clear hp hb
  go_enter Tryz.func131, Tryz.ntmps131
  go_wp2_with fail
  refine (EH.out _ SH.out).mono ?_
  rintro e w1 ⟨rfl, c1, c2, hb⟩
  clear EH SH
  go_wp2_with fail
  go_region
  all_goals go_wp2_with fail
  all_goals go_ret2
  all_goals exact ⟨by rw [HP.out, HB.out]; rfl, by first | with_reducible exact hb | exact Below.drew hb⟩

set_option maxHeartbeats 1000000 in
theorem fn_none (a : Nat) (w : World) : Calls Tryz.prog 131 #[.pointer (some ⟨a, 0, none⟩), .int .i64 0, .int .i64 (-1)] w fun e w' =>
    e = .returned (.tuple #[.int .i64 0, .bool false]) ∧ Below w.heap.size w w' := by
  have hmf : ∀ (fn : Fn) (first cap : Array Value) (w : World), (Instr.makeFunc fn first cap).run Tryz.prog w = .ok (.func fn first cap) w := fun _ _ _ _ => rfl
  go_enter Tryz.func131, Tryz.ntmps131
  go_wp2_with fail
  refine (each0_first _ _ _ _).mono ?_
  rintro e w1 ⟨rfl, rfl⟩
  go_wp2_with fail
  go_region
  all_goals go_wp2_with fail
  all_goals go_ret2
  all_goals exact ⟨rfl, by repeat (first | with_reducible exact Below.refl _ _ | with_reducible refine Below.drew ?_ | with_reducible refine Below.alloc ?_ (by first | omega | (simp <;> omega)) _ | with_reducible refine Below.setCell ?_ (by first | omega | (simp <;> omega)) _)⟩

theorem nx_first {f : Nat → Bool} {n s p : Nat} (h : seek f s (n - s) = some p) : nxP f n s = p ∧ nxB f n s = true := by
  unfold nxP nxB nextF
  rw [h]; exact ⟨rfl, rfl⟩

theorem nx_second {f : Nat → Bool} {n s : Nat} (h : seek f s (n - s) = none) : nxP f n s = skP f 0 s ∧ nxB f n s = skB f 0 s := by
  unfold nxP nxB nextF
  rw [h]; exact ⟨rfl, rfl⟩

theorem fn_second (a g n : Nat) (f : Nat → Bool) (s : Nat) (hs : s < n) (w : World) (H : MapB w a g n f) (hT : TB w) (T : Int) (e : T = (s : Int) - 1) : Calls Tryz.prog 131 #[.pointer (some ⟨a, 0, none⟩), .int .i64 0, .int .i64 T] w fun e w' =>
    e = .returned (.tuple #[.int .i64 (skP f 0 s : Nat), .bool (skB f 0 s)]) ∧ Below w.heap.size w w' := by
  by_cases h : s = 0
  · subst h
    obtain rfl : T = -1 := by omega
    exact fn_none a w
  · have F := fn_ok a g n f 0 (s - 1) (by omega) (by omega) w H hT
    rw [show s - 1 + 1 - 0 = s by omega, show ((s - 1 : Nat) : Int) = T by omega] at F
    exact F

set_option maxHeartbeats 1000000 in
theorem next_ok (a g n : Nat) (f : Nat → Bool) (i : Int) (i0 : -9223372036854775808 ≤ i) (i1 : i ≤ 9223372036854775807) (hn0 : 0 < n) (w : World) (H : MapB w a g n f) (hT : TB w) : Calls Tryz.prog 90 #[.pointer (some ⟨a, 0, none⟩), .int .i64 i] w fun e w' =>
    e = .returned (.tuple #[.int .i64 (nxP f n (i.toNat % n) : Nat), .bool (nxB f n (i.toNat % n))]) ∧ Below w.heap.size w w' := by
  have hn6 := H.lt.2.2.2
  obtain ⟨ws, hm, _⟩ := H.is
  have hc := hm.head.cell 0
  obtain ⟨s, hs⟩ : ∃ s, i.toNat % n = s := ⟨_, rfl⟩
  have hsl : s < n := by rw [← hs]; exact Nat.mod_lt _ hn0
  have hz : ((n : Int) == 0) = false := by simp; omega
  rw [hs]
  simp at hc
  have F1 : ∀ S : Int, S = (s : Int) → Calls Tryz.prog 131 #[.pointer (some ⟨a, 0, none⟩), .int .i64 S, .int .i64 ((n : Int) - 1)] w fun e w' =>
    e = .returned (.tuple #[.int .i64 (skP f s (n - s) : Nat), .bool (skB f s (n - s))]) ∧ Below w.heap.size w w' := by
    rintro _ rfl
    have F1 := fn_ok a g n f s (n - 1) (by omega) (by omega) w H hT
    rw [show n - 1 + 1 - s = n - s by omega, show ((n - 1 : Nat) : Int) = (n : Int) - 1 by omega] at F1
    exact F1
  have F2 : ∀ W, Below w.heap.size w W → ∀ T : Int, T = (s : Int) - 1 → _ := fun W hb T e => fn_second a g n f s hsl W (H.below hb) (hT.below hb) T e
  have em : (i < 0 ∧ s = 0) ∨ (0 ≤ i ∧ i % (n : Int) = (s : Int)) := by
    by_cases h : i < 0
    · left
      refine ⟨h, ?_⟩
      rw [← hs, show i.toNat = 0 by omega, Nat.zero_mod]
    · right
      refine ⟨by omega, ?_⟩
      rw [← hs]
      obtain ⟨m, rfl⟩ := Int.eq_ofNat_of_zero_le (show 0 ≤ i by omega)
      simp
  have F1H := hide F1
  have F2H := hide F2
  have NF := hide (fun p => nx_first (f := f) (n := n) (s := s) (p := p))
  have NS := hide (nx_second (f := f) (n := n) (s := s))
  obtain ⟨o, ho⟩ : ∃ o, seek f s (n - s) = o := ⟨_, rfl⟩
  have eP : skP f s (n - s) = o.getD 0 := by unfold skP; rw [ho]
  have eB : skB f s (n - s) = o.isSome := by unfold skB; rw [ho]
  rw [eP, eB] at F1H
  rw [ho] at NF NS
  clear F1 F2 H hT hm hs ho eP eB
  rcases em with ⟨hi, rfl⟩ | ⟨hi, em⟩
  · cases o with
    | none =>
      have NS' := hide (NS.out rfl)
      clear NS NF
      go_enter Tryz.func90, Tryz.ntmps90
      go_wp2_with fail
      refine (size_c a n _ hc).mono ?_
      rintro e w1 ⟨rfl, rfl⟩
      go_wp2_with fail
      refine (F1H.out _ (by simp)).mono ?_
      rintro e w2 ⟨rfl, hb⟩
      go_wp2_with fail
      refine (F2H.out _ hb _ (by simp)).mono ?_
      rintro e w3 ⟨rfl, hb2⟩
      go_wp2_with fail
      go_ret2
      exact ⟨by rw [NS'.out.1, NS'.out.2]; rfl, hb.trans (hb2.mono hb.size)⟩
    | some p =>
      have NF' := hide (NF.out p rfl)
      clear NS NF F2H
      go_enter Tryz.func90, Tryz.ntmps90
      go_wp2_with fail
      refine (size_c a n _ hc).mono ?_
      rintro e w1 ⟨rfl, rfl⟩
      go_wp2_with fail
      refine (F1H.out _ (by simp)).mono ?_
      rintro e w2 ⟨rfl, hb⟩
      go_wp2_with fail
      go_ret2
      exact ⟨by rw [NF'.out.1, NF'.out.2]; rfl, hb⟩
  · have EM := hide em
    have m0 : 0 ≤ i % (n : Int) := by omega
    have m1 : i % (n : Int) < n := by omega
    clear em
    cases o with
    | none =>
      have NS' := hide (NS.out rfl)
      clear NS NF
      go_enter Tryz.func90, Tryz.ntmps90
      go_wp2_with fail
      refine (size_c a n _ hc).mono ?_
      rintro e w1 ⟨rfl, rfl⟩
      go_wp2_with fail
      refine (F1H.out _ EM.out).mono ?_
      rintro e w2 ⟨rfl, hb⟩
      go_wp2_with fail
      refine (F2H.out _ hb _ (by rw [EM.out])).mono ?_
      rintro e w3 ⟨rfl, hb2⟩
      go_wp2_with fail
      go_ret2
      exact ⟨by rw [NS'.out.1, NS'.out.2]; rfl, hb.trans (hb2.mono hb.size)⟩
    | some p =>
      have NF' := hide (NF.out p rfl)
      clear NS NF F2H
      go_enter Tryz.func90, Tryz.ntmps90
      go_wp2_with fail
      refine (size_c a n _ hc).mono ?_
      rintro e w1 ⟨rfl, rfl⟩
      go_wp2_with fail
      refine (F1H.out _ EM.out).mono ?_
      rintro e w2 ⟨rfl, hb⟩
      go_wp2_with fail
      go_ret2
      exact ⟨by rw [NF'.out.1, NF'.out.2]; rfl, hb⟩

end Go.Proofs.YtllidkflgjjkfaaGreatDoor

namespace Go.Proofs.YtllidkflgjjkfaaGreatDoor
open Go.ChangeShapes Go.WideShapes Go.ChangeAt Go.RowKit
set_option linter.unusedVariables false
set_option linter.unusedSimpArgs false

/-- New, as bits. -/
theorem new_b (n : Nat) (hn : n ≤ 65536) (w : World) : Calls Tryz.prog 56 #[.int .i64 n] w fun e w' =>
    e = .returned (.tuple #[.pointer (some ⟨w.heap.size + 1, 0, none⟩), .int .i64 0]) ∧ MapB w' (w.heap.size + 1) w.heap.size n (fun _ => false) ∧ Below w.heap.size w w' ∧ w'.heap.size = w.heap.size + 2 := by
  refine (new_w n hn w).mono ?_
  rintro e w' ⟨rfl, hm, hb, hs⟩
  refine ⟨rfl, ⟨⟨_, hm, fun p => ?_⟩, fun _ _ => rfl⟩, hb, hs⟩
  unfold bitL
  rw [List.getD_eq_getElem?_getD, List.getElem?_replicate]
  split <;> simp

end Go.Proofs.YtllidkflgjjkfaaGreatDoor

namespace Go.Proofs.YtllidkflgjjkfaaGreatDoor
open Go.ChangeShapes Go.WideShapes Go.ChangeAt Go.RowKit
set_option linter.unusedVariables false
set_option linter.unusedSimpArgs false

/-- How many of a row lie below m. -/
theorem cnt_row (A B : Nat) : ∀ m, cnt (fun p => decide (A ≤ p ∧ p ≤ B)) m = min m (B + 1) - min m A
  | 0 => by simp [cnt]
  | m + 1 => by
    simp only [cnt]
    rw [cnt_row A B m]
    by_cases h : A ≤ m ∧ m ≤ B
    · rw [if_pos (decide_eq_true h)]; omega
    · rw [if_neg (by simpa using h)]; omega

def rowF (A B : Nat) : Nat → Bool := fun p => decide (A ≤ p ∧ p ≤ B)

theorem rowF_is (A B : Nat) : ∀ p, rowB A B true (fun _ => false) p = rowF A B p := fun p => by
  unfold rowB rowF
  split
  · rename_i h; rw [decide_eq_true h]
  · rename_i h; rw [decide_eq_false h]

theorem cnt_fill {A B : Nat} (hAB : A ≤ B) (hB : B < 65536) : ((cnt (fun p => (fun _ => false) p != rowB A B true (fun _ => false) p) 65536 : Nat) : Int) = (B : Int) - A + 1 := by
  have e : cnt (fun p => (fun _ => false) p != rowB A B true (fun _ => false) p) 65536 = cnt (rowF A B) 65536 := cnt_congr (fun p _ => by rw [rowF_is]; simp)
  rw [e]
  unfold rowF
  rw [cnt_row]
  omega

end Go.Proofs.YtllidkflgjjkfaaGreatDoor

namespace Go.Proofs.YtllidkflgjjkfaaGreatDoor
open Go.ChangeShapes Go.WideShapes Go.ChangeAt Go.RowKit
set_option linter.unusedVariables false
set_option linter.unusedSimpArgs false

theorem infoBool : (Tryz.prog.info? 4).map (fun i => (i.zero, i.size, i.bytes)) = some (some (.bool false), 1, 1) := by kernel_rfl

end Go.Proofs.YtllidkflgjjkfaaGreatDoor

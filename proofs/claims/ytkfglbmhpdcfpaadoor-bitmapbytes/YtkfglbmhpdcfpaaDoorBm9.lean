/-
  Count, firstNought and Next of package bitmap.
-/
import Derived.Test.YtkfglbmhpdcfpaaDoorBm8
namespace Go.Proofs.YtkfglbmhpdcfpaaDoor
open Go.ChangeShapes Go.WideShapes Go.ChangeAt Go.RowKit
set_option linter.unusedVariables false
set_option linter.unusedSimpArgs false

/-- Ahead of word i. -/
def CountI (w0 : World) (a g n c1 c2 : Nat) (f : Nat → Bool) (i : Nat) (W : World) : Prop :=
  MapB W a g n f ∧ Blk W c1 #[.int .i64 (cnt f (64 * i) : Nat)] 3 ∧ Blk W c2 #[.pointer (some ⟨a, 0, none⟩)] 35 ∧ Below w0.heap.size w0 W

theorem MapB.setFar {W : World} {a g n c : Nat} {f : Nat → Bool} (H : MapB W a g n f) (na : a ≠ c) (ng : g ≠ c) (i : Nat) (u : Value) : MapB (W.setCell ⟨c, i, none⟩ u) a g n f := by
  obtain ⟨⟨ws, hm, hb⟩, hbeh⟩ := H
  exact ⟨⟨ws, ⟨hm.head.far na i u, hm.row.far ng i u, hm.len, hm.small, hm.word⟩, hb⟩, hbeh⟩

theorem MapB.alike {W V : World} {a g n : Nat} {f : Nat → Bool} (H : MapB V a g n f) (A : Alike W V) : MapB W a g n f := by
  obtain ⟨⟨ws, hm, hb⟩, hbeh⟩ := H
  exact ⟨⟨ws, ⟨hm.head.alike A, hm.row.alike A, hm.len, hm.small, hm.word⟩, hb⟩, hbeh⟩

theorem below_alike {B : Nat} {w W V : World} (h : Below B w V) (A : Alike W V) : Below B w W :=
  ⟨A.os.trans h.os, A.tape.trans h.tape, A.output.trans h.output, by rw [A.heap]; exact h.size, fun k hk => by rw [A.heap]; exact h.block k hk⟩

theorem MapB.neOf {W : World} {a g n c : Nat} {f : Nat → Bool} {cs : Array Value} {t : TypeId} (H : MapB W a g n f) (h : Blk W c cs t) (h1 : 77 ≠ t) (h2 : 22 ≠ t) : a ≠ c ∧ g ≠ c := by
  obtain ⟨⟨ws, hm, hb⟩, hbeh⟩ := H
  exact ⟨hm.head.ne h h1, hm.row.ne h h2⟩

theorem count_step (w0 : World) (a g n c1 c2 : Nat) (f : Nat → Bool) (hn : 0 < n) (hc1 : w0.heap.size ≤ c1) (i : Nat) (W : World) (hi2 : i ≤ (n - 1) / 64) (H : CountI w0 a g n c1 c2 f i W) :
    Calls Tryd.prog 54 #[.int .i64 i, .int .u64 (rowM 0 (n - 1) i), .pointer (some ⟨c1, 0, none⟩), .pointer (some ⟨c2, 0, none⟩)] W fun e W' =>
      (e = .returned (.bool true) ∧ CountI w0 a g n c1 c2 f (i + 1) W') ∨ (e = .returned (.bool false) ∧ False) := by
  obtain ⟨hM, h1, h2, hb⟩ := H
  obtain ⟨na, ng⟩ := hM.neOf h1 (by decide) (by decide)
  have hn6 := hM.lt.2.2.2
  have hbeh := hM.behind
  have hM' := hM
  obtain ⟨⟨ws, hm, hbits⟩, _⟩ := hM
  have hlen := hm.len
  have hi : i < ws.length := by omega
  obtain ⟨hx, hxl⟩ := hm.get hi
  have hrl := rowM_lt 0 (n - 1) i
  have hyb : ∀ j, j < 64 → (ws.getD i 0 &&& rowM 0 (n - 1) i).testBit j = f (64 * i + j) := fun j hj => by
    rw [Nat.testBit_and, rowM_bit (by omega) hi2, ← bitL_at hj, hbits]
    by_cases h : 64 * i + j < n
    · simp [hj, show 64 * i + j ≤ n - 1 by omega]
    · rw [hbeh _ (by omega)]; rfl
  have ec := cnt_word (q := f) (i := i) hyb
  have ht := cnt_le f (64 * i)
  refine (count1_w a g n ws.length c1 c2 i (ws.getD i 0) (ws.getD i 0 &&& rowM 0 (n - 1) i) (rowM 0 (n - 1) i) (cnt f (64 * i)) _ W h1 h2 hm.head hm.row hi (by omega) hx (and_nat hxl hrl _ _ rfl rfl) (Nat.lt_of_le_of_lt Nat.and_le_left hxl) (by omega)).mono ?_
  rintro e W' ⟨rfl, A⟩
  have q := h1.ne h2 (by decide)
  refine Or.inl ⟨rfl, (hM'.setFar na ng _ _).alike A, ?_, (h2.far q.symm _ _).alike A, below_alike (hb.setCell (p := ⟨c1, 0, none⟩) hc1 _) A⟩
  have e := (h1.put 0 (.int .i64 ((cnt f (64 * i) : Int) + (pc (ws.getD i 0 &&& rowM 0 (n - 1) i) : Int)))).alike A
  rw [ec]
  simpa using e

theorem count_start {w : World} {a g n : Nat} {f : Nat → Bool} (H : MapB w a g n f) :
    CountI w a g n (w.heap.size + 1) w.heap.size f (0 / 64) ((w.alloc (.cells #[.pointer (some ⟨a, 0, none⟩)] 35)).alloc (.cells #[.int .i64 0] 3)) := by
  have e1 := Blk.new w #[.pointer (some ⟨a, 0, none⟩)] 35
  have e2 := Blk.new (w.alloc (.cells #[.pointer (some ⟨a, 0, none⟩)] 35)) #[.int .i64 0] 3
  rw [show (w.alloc (.cells #[.pointer (some ⟨a, 0, none⟩)] 35)).heap.size = w.heap.size + 1 by simp] at e2
  have bl : Below w.heap.size w ((w.alloc (.cells #[.pointer (some ⟨a, 0, none⟩)] 35)).alloc (.cells #[.int .i64 0] 3)) := by repeat (first | with_reducible exact Below.refl _ _ | with_reducible refine Below.drew ?_ | with_reducible refine Below.alloc ?_ (by first | omega | (simp <;> omega)) _ | with_reducible refine Below.setCell ?_ (by first | omega | (simp <;> omega)) _)
  exact ⟨H.below bl, e2, e1.alloc _, bl⟩

theorem count_each (w : World) (a g n : Nat) (f : Nat → Bool) (hn : 0 < n) (hn6 : n ≤ 65536) (hbeh : ∀ p, n ≤ p → f p = false) (W : World) (S0 : CountI w a g n (w.heap.size + 1) w.heap.size f (0 / 64) W) :
    Calls Tryd.prog 53 #[.int .i64 0, .int .i64 ((n : Int) - 1), .func (.func 54) #[] #[.pointer (some ⟨w.heap.size + 1, 0, none⟩), .pointer (some ⟨w.heap.size, 0, none⟩)]] W fun e W' => e = .returned (.tuple #[]) ∧
      W'.cell? ⟨w.heap.size + 1, 0, none⟩ = some (.int .i64 (cnt f n : Nat)) ∧ Below w.heap.size w W' := by
  have E := each_count 0 (n - 1) (w.heap.size + 1) w.heap.size (by omega) (by omega) (CountI w a g n (w.heap.size + 1) w.heap.size f) (fun _ => False) W (fun i V h1 h2 h => count_step w a g n _ _ f hn (by omega) i V h2 h) S0
  rw [show ((n - 1 : Nat) : Int) = (n : Int) - 1 by omega] at E
  refine E.mono ?_
  rintro e W' ⟨rfl, h | h⟩
  · refine ⟨rfl, ?_, h.2.2.2⟩
    rw [h.2.1.cell 0, cnt_more (a := n) (b := 64 * ((n - 1) / 64 + 1)) (by omega) (fun k h4 h5 => hbeh k h4)]
    rfl
  · exact h.elim

set_option maxHeartbeats 1000000 in
theorem count_nil (w : World) : Calls Tryd.prog 22 #[.pointer none] w fun e w' => e = .returned (.int .i64 0) ∧ Below w.heap.size w w' := by
  have hmf : ∀ (fn : Fn) (first cap : Array Value) (w : World), (Instr.makeFunc fn first cap).run Tryd.prog w = .ok (.func fn first cap) w := fun _ _ _ _ => rfl
  go_enter Tryd.func22, Tryd.ntmps22
  go_wp2_with fail
  refine (size_nil _).mono ?_
  rintro e w1 ⟨rfl, rfl⟩
  go_wp2_with fail
  refine (each0_count _ _ _).mono ?_
  rintro e w1 ⟨rfl, rfl⟩
  go_wp2_with fail
  go_ret
  exact ⟨rfl, by repeat (first | with_reducible exact Below.refl _ _ | with_reducible refine Below.drew ?_ | with_reducible refine Below.alloc ?_ (by first | omega | (simp <;> omega)) _ | with_reducible refine Below.setCell ?_ (by first | omega | (simp <;> omega)) _)⟩

set_option maxHeartbeats 1000000 in
theorem count_ok (a g n : Nat) (f : Nat → Bool) (w : World) (H : MapB w a g n f) : Calls Tryd.prog 22 #[.pointer (some ⟨a, 0, none⟩)] w fun e w' => e = .returned (.int .i64 (cnt f n : Nat)) ∧ Below w.heap.size w w' := by
  have hmf : ∀ (fn : Fn) (first cap : Array Value) (w : World), (Instr.makeFunc fn first cap).run Tryd.prog w = .ok (.func fn first cap) w := fun _ _ _ _ => rfl
  have hn6 := H.lt.2.2.2
  obtain ⟨ws, hm, _⟩ := H.is
  have hc := hm.head
  clear hm
  by_cases h0 : n = 0
  · subst h0
    clear H
    go_enter Tryd.func22, Tryd.ntmps22
    go_wp2_with fail
    refine (size_c a (0 : Nat) _ (((hc.alloc _).alloc _).cell 0)).mono ?_
    rintro e w1 ⟨rfl, rfl⟩
    clear hc
    go_wp2_with fail
    refine (each0_count _ _ _).mono ?_
    rintro e w1 ⟨rfl, rfl⟩
    go_wp2_with fail
    go_ret
    exact ⟨rfl, by repeat (first | with_reducible exact Below.refl _ _ | with_reducible refine Below.drew ?_ | with_reducible refine Below.alloc ?_ (by first | omega | (simp <;> omega)) _ | with_reducible refine Below.setCell ?_ (by first | omega | (simp <;> omega)) _)⟩
  · have S0 := count_start H
    have E0 := fun W S => count_each w a g n f (by omega) hn6 H.behind W S
    have SH := hide S0
    have EH := hide E0
    clear S0 E0 H
    obtain ⟨c, hcc⟩ : ∃ c, cnt f n = c := ⟨_, rfl⟩
    rw [hcc] at EH
    have HC := hide hcc
    clear hcc
    go_enter Tryd.func22, Tryd.ntmps22
    go_wp2_with fail
    refine (size_c a n _ (((hc.alloc _).alloc _).cell 0)).mono ?_
    rintro e w1 ⟨rfl, rfl⟩
    clear hc
    go_wp2_with fail
    refine (EH.out _ SH.out).mono ?_
    rintro e w1 ⟨rfl, hcell, hb⟩
    clear EH SH
    go_wp2_with fail
    go_ret
    exact ⟨by rw [HC.out]; rfl, hb⟩

end Go.Proofs.YtkfglbmhpdcfpaaDoor

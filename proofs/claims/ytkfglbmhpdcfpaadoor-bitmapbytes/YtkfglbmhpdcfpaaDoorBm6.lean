/-
  turn, Fill, Clear, Put and Drop of package bitmap.
-/
import Derived.Test.YtkfglbmhpdcfpaaDoorBm5
namespace Go.Proofs.YtkfglbmhpdcfpaaDoor
open Go.ChangeShapes Go.WideShapes Go.ChangeAt Go.RowKit
set_option linter.unusedVariables false
set_option linter.unusedSimpArgs false

theorem reach_yes (a : Nat) (n i : Int) (w : World) (hc : w.cell? ⟨a, 0, none⟩ = some (.int .i64 n)) (h : 0 ≤ i ∧ i < n) : Calls Tryd.prog 56 #[.pointer (some ⟨a, 0, none⟩), .int .i64 i] w fun e w' => e = .returned (.bool true) ∧ w' = w := by
  refine (reach_c a n i w hc).mono ?_
  rintro e w' ⟨rfl, rfl⟩
  exact ⟨by simp [h], rfl⟩

theorem reach_no (a : Nat) (n i : Int) (w : World) (hc : w.cell? ⟨a, 0, none⟩ = some (.int .i64 n)) (h : ¬ (0 ≤ i ∧ i < n)) : Calls Tryd.prog 56 #[.pointer (some ⟨a, 0, none⟩), .int .i64 i] w fun e w' => e = .returned (.bool false) ∧ w' = w := by
  refine (reach_c a n i w hc).mono ?_
  rintro e w' ⟨rfl, rfl⟩
  exact ⟨by simp only [decide_eq_false h], rfl⟩

theorem turn_nil_or (A B : Int) (w : World) : Calls Tryd.prog 58 #[.pointer none, .int .i64 A, .int .i64 B, .func (.func 59) #[] #[]] w fun e w' => e = .returned (.tuple #[.int .i64 0, .int .i64 2]) ∧ Below w.heap.size w w' := by
  go_enter Tryd.func58, Tryd.ntmps58
  go_wp2_with fail
  go_ret2
  exact ⟨rfl, by repeat (first | with_reducible exact Below.refl _ _ | with_reducible refine Below.drew ?_ | with_reducible refine Below.alloc ?_ (by first | omega | (simp <;> omega)) _ | with_reducible refine Below.setCell ?_ (by first | omega | (simp <;> omega)) _)⟩

theorem turn_nil_not (A B : Int) (w : World) : Calls Tryd.prog 58 #[.pointer none, .int .i64 A, .int .i64 B, .func (.func 60) #[] #[]] w fun e w' => e = .returned (.tuple #[.int .i64 0, .int .i64 2]) ∧ Below w.heap.size w w' := by
  go_enter Tryd.func58, Tryd.ntmps58
  go_wp2_with fail
  go_ret2
  exact ⟨rfl, by repeat (first | with_reducible exact Below.refl _ _ | with_reducible refine Below.drew ?_ | with_reducible refine Below.alloc ?_ (by first | omega | (simp <;> omega)) _ | with_reducible refine Below.setCell ?_ (by first | omega | (simp <;> omega)) _)⟩

set_option maxHeartbeats 1000000 in
theorem turn_bad_or (a g n : Nat) (A B : Int) (hbad : ¬ (0 ≤ A ∧ A ≤ B ∧ B < n)) (w : World) (k : Nat) (hc : Blk w a #[.int .i64 n, .slice (some ⟨g, 0, none⟩) k k] 77) :
    Calls Tryd.prog 58 #[.pointer (some ⟨a, 0, none⟩), .int .i64 A, .int .i64 B, .func (.func 59) #[] #[]] w fun e w' => e = .returned (.tuple #[.int .i64 0, .int .i64 1]) ∧ Below w.heap.size w w' := by
  by_cases h1 : 0 ≤ A ∧ A < n
  · by_cases h2 : 0 ≤ B ∧ B < n
    · have h3 : B < A := by omega
      go_enter Tryd.func58, Tryd.ntmps58
      go_wp2_with fail
      refine (reach_yes a n A _ (((hc.alloc _).alloc _).cell 0) h1).mono ?_
      rintro e w1 ⟨rfl, rfl⟩
      go_wp2_with fail
      refine (reach_yes a n B _ (((hc.alloc _).alloc _).cell 0) h2).mono ?_
      rintro e w1 ⟨rfl, rfl⟩
      go_wp2_with fail
      go_ret2
      exact ⟨rfl, by repeat (first | with_reducible exact Below.refl _ _ | with_reducible refine Below.drew ?_ | with_reducible refine Below.alloc ?_ (by first | omega | (simp <;> omega)) _ | with_reducible refine Below.setCell ?_ (by first | omega | (simp <;> omega)) _)⟩
    · go_enter Tryd.func58, Tryd.ntmps58
      go_wp2_with fail
      refine (reach_yes a n A _ (((hc.alloc _).alloc _).cell 0) h1).mono ?_
      rintro e w1 ⟨rfl, rfl⟩
      go_wp2_with fail
      refine (reach_no a n B _ (((hc.alloc _).alloc _).cell 0) h2).mono ?_
      rintro e w1 ⟨rfl, rfl⟩
      go_wp2_with fail
      go_ret2
      exact ⟨rfl, by repeat (first | with_reducible exact Below.refl _ _ | with_reducible refine Below.drew ?_ | with_reducible refine Below.alloc ?_ (by first | omega | (simp <;> omega)) _ | with_reducible refine Below.setCell ?_ (by first | omega | (simp <;> omega)) _)⟩
  · go_enter Tryd.func58, Tryd.ntmps58
    go_wp2_with fail
    refine (reach_no a n A _ (((hc.alloc _).alloc _).cell 0) h1).mono ?_
    rintro e w1 ⟨rfl, rfl⟩
    go_wp2_with fail
    go_ret2
    exact ⟨rfl, by repeat (first | with_reducible exact Below.refl _ _ | with_reducible refine Below.drew ?_ | with_reducible refine Below.alloc ?_ (by first | omega | (simp <;> omega)) _ | with_reducible refine Below.setCell ?_ (by first | omega | (simp <;> omega)) _)⟩

set_option maxHeartbeats 1000000 in
theorem turn_bad_not (a g n : Nat) (A B : Int) (hbad : ¬ (0 ≤ A ∧ A ≤ B ∧ B < n)) (w : World) (k : Nat) (hc : Blk w a #[.int .i64 n, .slice (some ⟨g, 0, none⟩) k k] 77) :
    Calls Tryd.prog 58 #[.pointer (some ⟨a, 0, none⟩), .int .i64 A, .int .i64 B, .func (.func 60) #[] #[]] w fun e w' => e = .returned (.tuple #[.int .i64 0, .int .i64 1]) ∧ Below w.heap.size w w' := by
  by_cases h1 : 0 ≤ A ∧ A < n
  · by_cases h2 : 0 ≤ B ∧ B < n
    · have h3 : B < A := by omega
      go_enter Tryd.func58, Tryd.ntmps58
      go_wp2_with fail
      refine (reach_yes a n A _ (((hc.alloc _).alloc _).cell 0) h1).mono ?_
      rintro e w1 ⟨rfl, rfl⟩
      go_wp2_with fail
      refine (reach_yes a n B _ (((hc.alloc _).alloc _).cell 0) h2).mono ?_
      rintro e w1 ⟨rfl, rfl⟩
      go_wp2_with fail
      go_ret2
      exact ⟨rfl, by repeat (first | with_reducible exact Below.refl _ _ | with_reducible refine Below.drew ?_ | with_reducible refine Below.alloc ?_ (by first | omega | (simp <;> omega)) _ | with_reducible refine Below.setCell ?_ (by first | omega | (simp <;> omega)) _)⟩
    · go_enter Tryd.func58, Tryd.ntmps58
      go_wp2_with fail
      refine (reach_yes a n A _ (((hc.alloc _).alloc _).cell 0) h1).mono ?_
      rintro e w1 ⟨rfl, rfl⟩
      go_wp2_with fail
      refine (reach_no a n B _ (((hc.alloc _).alloc _).cell 0) h2).mono ?_
      rintro e w1 ⟨rfl, rfl⟩
      go_wp2_with fail
      go_ret2
      exact ⟨rfl, by repeat (first | with_reducible exact Below.refl _ _ | with_reducible refine Below.drew ?_ | with_reducible refine Below.alloc ?_ (by first | omega | (simp <;> omega)) _ | with_reducible refine Below.setCell ?_ (by first | omega | (simp <;> omega)) _)⟩
  · go_enter Tryd.func58, Tryd.ntmps58
    go_wp2_with fail
    refine (reach_no a n A _ (((hc.alloc _).alloc _).cell 0) h1).mono ?_
    rintro e w1 ⟨rfl, rfl⟩
    go_wp2_with fail
    go_ret2
    exact ⟨rfl, by repeat (first | with_reducible exact Below.refl _ _ | with_reducible refine Below.drew ?_ | with_reducible refine Below.alloc ?_ (by first | omega | (simp <;> omega)) _ | with_reducible refine Below.setCell ?_ (by first | omega | (simp <;> omega)) _)⟩

theorem turn_start {w : World} {a g n fn : Nat} {f : Nat → Bool} {A B : Nat} {v : Bool} (H : MapB w a g n f) (hAB : A ≤ B) :
    TurnI w a g n w.heap.size (w.heap.size + 1) (w.heap.size + 1 + 1) fn f (rowB A B v f) (A / 64) (((w.alloc (.cells #[.pointer (some ⟨a, 0, none⟩)] 35)).alloc (.cells #[.func (.func fn) #[] #[]] 85)).alloc (.cells #[.int .i64 0] 3)) := by
  obtain ⟨⟨ws, hm, hbits⟩, hbeh⟩ := H
  have lt : ∀ p, p < 64 * (A / 64) → rowB A B v f p = f p := fun p hp => by
    unfold rowB; rw [if_neg (by omega)]
  have c0 : cnt (fun p => f p != rowB A B v f p) (64 * (A / 64)) = 0 := cnt_zero (fun p hp => by rw [lt p hp]; simp)
  have e1 := Blk.new w #[.pointer (some ⟨a, 0, none⟩)] 35
  have e2 := Blk.new (w.alloc (.cells #[.pointer (some ⟨a, 0, none⟩)] 35)) #[.func (.func fn) #[] #[]] 85
  have e3 := Blk.new ((w.alloc (.cells #[.pointer (some ⟨a, 0, none⟩)] 35)).alloc (.cells #[.func (.func fn) #[] #[]] 85)) #[.int .i64 0] 3
  rw [show (w.alloc (.cells #[.pointer (some ⟨a, 0, none⟩)] 35)).heap.size = w.heap.size + 1 by simp] at e2
  rw [show ((w.alloc (.cells #[.pointer (some ⟨a, 0, none⟩)] 35)).alloc (.cells #[.func (.func fn) #[] #[]] 85)).heap.size = w.heap.size + 1 + 1 by simp] at e3
  have bl : Below w.heap.size w (((w.alloc (.cells #[.pointer (some ⟨a, 0, none⟩)] 35)).alloc (.cells #[.func (.func fn) #[] #[]] 85)).alloc (.cells #[.int .i64 0] 3)) := by repeat (first | with_reducible exact Below.refl _ _ | with_reducible refine Below.drew ?_ | with_reducible refine Below.alloc ?_ (by first | omega | (simp <;> omega)) _ | with_reducible refine Below.setCell ?_ (by first | omega | (simp <;> omega)) _)
  refine ⟨ws, hm.but (But.of (L := []) bl (Nat.le_refl _)) hm.head.lt hm.row.lt (by simp) (by simp), fun p => ?_, (e1.alloc _).alloc _, e2.alloc _, ?_, But.of bl (Nat.le_refl _)⟩
  · rw [hbits]
    split
    · rename_i h; rw [lt p h]
    · rfl
  · rw [c0]; exact e3

theorem turn_end {w W : World} {a g n fn c1 c2 c3 : Nat} {f : Nat → Bool} {A B : Nat} {v : Bool} (hAB : A ≤ B) (hB : B < n) (hbeh : ∀ p, n ≤ p → f p = false) (H : TurnI w a g n c1 c2 c3 fn f (rowB A B v f) (B / 64 + 1) W) :
    MapB W a g n (rowB A B v f) ∧ But [g] w.heap.size w W ∧ W.cell? ⟨c3, 0, none⟩ = some (.int .i64 (cnt (fun p => f p != rowB A B v f p) 65536 : Nat)) := by
  obtain ⟨us, hm, hb, h1, h2, h3, hk⟩ := H
  have hn := hm.small
  have far : ∀ p, 64 * (B / 64 + 1) ≤ p → rowB A B v f p = f p := fun p hp => by
    unfold rowB; rw [if_neg (by omega)]
  refine ⟨⟨⟨us, hm, fun p => ?_⟩, fun p hp => ?_⟩, hk, ?_⟩
  · rw [hb]
    split
    · rfl
    · rename_i h; rw [far p (by omega)]
  · unfold rowB; rw [if_neg (by omega), hbeh p hp]
  · rw [h3.cell 0, cnt_more (a := 64 * (B / 64 + 1)) (b := 65536) (by omega) (fun k h4 h5 => by rw [far k h4]; simp)]
    rfl

theorem Each_or (w : World) (a g n A B : Nat) (f : Nat → Bool) (hAB : A ≤ B) (hB : B < n) (hn : n ≤ 65536) (hbeh : ∀ p, n ≤ p → f p = false) (W : World) (S0 : TurnI w a g n w.heap.size (w.heap.size + 1) (w.heap.size + 1 + 1) 59 f (rowB A B true f) (A / 64) W) :
    Calls Tryd.prog 53 #[.int .i64 A, .int .i64 B, .func (.func 80) #[] #[.pointer (some ⟨w.heap.size, 0, none⟩), .pointer (some ⟨w.heap.size + 1, 0, none⟩), .pointer (some ⟨w.heap.size + 1 + 1, 0, none⟩)]] W fun e W' => e = .returned (.tuple #[]) ∧
      MapB W' a g n (rowB A B true f) ∧ But [g] w.heap.size w W' ∧ W'.cell? ⟨w.heap.size + 1 + 1, 0, none⟩ = some (.int .i64 (cnt (fun p => f p != rowB A B true f p) 65536 : Nat)) := by
  refine (each_turn A B w.heap.size (w.heap.size + 1) (w.heap.size + 1 + 1) hAB (by omega) (TurnI w a g n w.heap.size (w.heap.size + 1) (w.heap.size + 1 + 1) 59 f (rowB A B true f)) (fun _ => False) W (fun i V h1 h2 h => step_or w a g n _ _ _ A B f hAB hB (by omega) i V h1 h2 h) S0).mono ?_
  rintro e W' ⟨rfl, h | h⟩
  · exact ⟨rfl, turn_end hAB hB hbeh h⟩
  · exact h.elim

theorem Each_not (w : World) (a g n A B : Nat) (f : Nat → Bool) (hAB : A ≤ B) (hB : B < n) (hn : n ≤ 65536) (hbeh : ∀ p, n ≤ p → f p = false) (W : World) (S0 : TurnI w a g n w.heap.size (w.heap.size + 1) (w.heap.size + 1 + 1) 60 f (rowB A B false f) (A / 64) W) :
    Calls Tryd.prog 53 #[.int .i64 A, .int .i64 B, .func (.func 80) #[] #[.pointer (some ⟨w.heap.size, 0, none⟩), .pointer (some ⟨w.heap.size + 1, 0, none⟩), .pointer (some ⟨w.heap.size + 1 + 1, 0, none⟩)]] W fun e W' => e = .returned (.tuple #[]) ∧
      MapB W' a g n (rowB A B false f) ∧ But [g] w.heap.size w W' ∧ W'.cell? ⟨w.heap.size + 1 + 1, 0, none⟩ = some (.int .i64 (cnt (fun p => f p != rowB A B false f p) 65536 : Nat)) := by
  refine (each_turn A B w.heap.size (w.heap.size + 1) (w.heap.size + 1 + 1) hAB (by omega) (TurnI w a g n w.heap.size (w.heap.size + 1) (w.heap.size + 1 + 1) 60 f (rowB A B false f)) (fun _ => False) W (fun i V h1 h2 h => step_not w a g n _ _ _ A B f hAB hB (by omega) i V h1 h2 h) S0).mono ?_
  rintro e W' ⟨rfl, h | h⟩
  · exact ⟨rfl, turn_end hAB hB hbeh h⟩
  · exact h.elim

set_option maxHeartbeats 1000000 in
theorem turn_or (a g n A B : Nat) (f : Nat → Bool) (hAB : A ≤ B) (hB : B < n) (w : World) (H : MapB w a g n f) :
    Calls Tryd.prog 58 #[.pointer (some ⟨a, 0, none⟩), .int .i64 A, .int .i64 B, .func (.func 59) #[] #[]] w fun e w' =>
      e = .returned (.tuple #[.int .i64 (cnt (fun p => f p != rowB A B true f p) 65536 : Nat), .int .i64 0]) ∧ MapB w' a g n (rowB A B true f) ∧ But [g] w.heap.size w w' := by
  obtain ⟨hla, hlg, hne, hn⟩ := H.lt
  have S0 := turn_start (fn := 59) (v := true) H hAB
  have HE := Each_or w a g n A B f hAB hB hn H.behind
  obtain ⟨⟨ws, hm, hbits⟩, hbeh⟩ := H
  have hc := hm.head
  have hBA : ¬ ((B : Int) < A) := by omega
  have hmf : ∀ (fn : Fn) (first cap : Array Value) (w : World), (Instr.makeFunc fn first cap).run Tryd.prog w = .ok (.func fn first cap) w := fun _ _ _ _ => rfl
  have SH : Hid _ := S0
  have EH : Hid _ := HE
  clear S0 HE hm hbits hbeh
  go_enter Tryd.func58, Tryd.ntmps58
  go_wp2_with fail
  refine (reach_yes a n A _ (((hc.alloc _).alloc _).cell 0) (by omega)).mono ?_
  rintro e w1 ⟨rfl, rfl⟩
  go_wp2_with fail
  refine (reach_yes a n B _ (((hc.alloc _).alloc _).cell 0) (by omega)).mono ?_
  rintro e w1 ⟨rfl, rfl⟩
  go_wp2_with fail
  refine (EH.out _ SH.out).mono ?_
  rintro e w1 ⟨rfl, hM, hK, hcell⟩
  clear EH SH hc
  generalize hcc : cnt (fun p => f p != rowB A B true f p) 65536 = c at *
  have HC : Hid _ := hcc
  clear hcc
  go_wp2_with fail
  go_ret2
  exact ⟨by rw [HC.out]; rfl, hM, hK⟩

set_option maxHeartbeats 1000000 in
theorem turn_not (a g n A B : Nat) (f : Nat → Bool) (hAB : A ≤ B) (hB : B < n) (w : World) (H : MapB w a g n f) :
    Calls Tryd.prog 58 #[.pointer (some ⟨a, 0, none⟩), .int .i64 A, .int .i64 B, .func (.func 60) #[] #[]] w fun e w' =>
      e = .returned (.tuple #[.int .i64 (cnt (fun p => f p != rowB A B false f p) 65536 : Nat), .int .i64 0]) ∧ MapB w' a g n (rowB A B false f) ∧ But [g] w.heap.size w w' := by
  obtain ⟨hla, hlg, hne, hn⟩ := H.lt
  have S0 := turn_start (fn := 60) (v := false) H hAB
  have HE := Each_not w a g n A B f hAB hB hn H.behind
  obtain ⟨⟨ws, hm, hbits⟩, hbeh⟩ := H
  have hc := hm.head
  have hBA : ¬ ((B : Int) < A) := by omega
  have hmf : ∀ (fn : Fn) (first cap : Array Value) (w : World), (Instr.makeFunc fn first cap).run Tryd.prog w = .ok (.func fn first cap) w := fun _ _ _ _ => rfl
  have SH : Hid _ := S0
  have EH : Hid _ := HE
  clear S0 HE hm hbits hbeh
  go_enter Tryd.func58, Tryd.ntmps58
  go_wp2_with fail
  refine (reach_yes a n A _ (((hc.alloc _).alloc _).cell 0) (by omega)).mono ?_
  rintro e w1 ⟨rfl, rfl⟩
  go_wp2_with fail
  refine (reach_yes a n B _ (((hc.alloc _).alloc _).cell 0) (by omega)).mono ?_
  rintro e w1 ⟨rfl, rfl⟩
  go_wp2_with fail
  refine (EH.out _ SH.out).mono ?_
  rintro e w1 ⟨rfl, hM, hK, hcell⟩
  clear EH SH hc
  generalize hcc : cnt (fun p => f p != rowB A B false f p) 65536 = c at *
  have HC : Hid _ := hcc
  clear hcc
  go_wp2_with fail
  go_ret2
  exact ⟨by rw [HC.out]; rfl, hM, hK⟩

theorem fill_nil (A B : Int) (w : World) : Calls Tryd.prog 29 #[.pointer none, .int .i64 A, .int .i64 B] w fun e w' => e = .returned (.tuple #[.int .i64 0, .int .i64 2]) ∧ Below w.heap.size w w' := by
  have hmf : ∀ (fn : Fn) (first cap : Array Value) (w : World), (Instr.makeFunc fn first cap).run Tryd.prog w = .ok (.func fn first cap) w := fun _ _ _ _ => rfl
  go_enter Tryd.func29, Tryd.ntmps29
  go_wp2_with fail
  refine (turn_nil_or A B _).mono ?_
  rintro e w1 ⟨rfl, hb⟩
  go_wp2_with fail
  go_ret2
  exact ⟨rfl, hb⟩

theorem clear_nil (A B : Int) (w : World) : Calls Tryd.prog 30 #[.pointer none, .int .i64 A, .int .i64 B] w fun e w' => e = .returned (.tuple #[.int .i64 0, .int .i64 2]) ∧ Below w.heap.size w w' := by
  have hmf : ∀ (fn : Fn) (first cap : Array Value) (w : World), (Instr.makeFunc fn first cap).run Tryd.prog w = .ok (.func fn first cap) w := fun _ _ _ _ => rfl
  go_enter Tryd.func30, Tryd.ntmps30
  go_wp2_with fail
  refine (turn_nil_not A B _).mono ?_
  rintro e w1 ⟨rfl, hb⟩
  go_wp2_with fail
  go_ret2
  exact ⟨rfl, hb⟩

theorem fill_bad (a g n : Nat) (A B : Int) (hbad : ¬ (0 ≤ A ∧ A ≤ B ∧ B < n)) (w : World) (k : Nat) (hc : Blk w a #[.int .i64 n, .slice (some ⟨g, 0, none⟩) k k] 77) :
    Calls Tryd.prog 29 #[.pointer (some ⟨a, 0, none⟩), .int .i64 A, .int .i64 B] w fun e w' => e = .returned (.tuple #[.int .i64 0, .int .i64 1]) ∧ Below w.heap.size w w' := by
  have hmf : ∀ (fn : Fn) (first cap : Array Value) (w : World), (Instr.makeFunc fn first cap).run Tryd.prog w = .ok (.func fn first cap) w := fun _ _ _ _ => rfl
  go_enter Tryd.func29, Tryd.ntmps29
  go_wp2_with fail
  refine (turn_bad_or a g n A B hbad _ k hc).mono ?_
  rintro e w1 ⟨rfl, hb⟩
  go_wp2_with fail
  go_ret2
  exact ⟨rfl, hb⟩

theorem clear_bad (a g n : Nat) (A B : Int) (hbad : ¬ (0 ≤ A ∧ A ≤ B ∧ B < n)) (w : World) (k : Nat) (hc : Blk w a #[.int .i64 n, .slice (some ⟨g, 0, none⟩) k k] 77) :
    Calls Tryd.prog 30 #[.pointer (some ⟨a, 0, none⟩), .int .i64 A, .int .i64 B] w fun e w' => e = .returned (.tuple #[.int .i64 0, .int .i64 1]) ∧ Below w.heap.size w w' := by
  have hmf : ∀ (fn : Fn) (first cap : Array Value) (w : World), (Instr.makeFunc fn first cap).run Tryd.prog w = .ok (.func fn first cap) w := fun _ _ _ _ => rfl
  go_enter Tryd.func30, Tryd.ntmps30
  go_wp2_with fail
  refine (turn_bad_not a g n A B hbad _ k hc).mono ?_
  rintro e w1 ⟨rfl, hb⟩
  go_wp2_with fail
  go_ret2
  exact ⟨rfl, hb⟩

theorem fill_ok (a g n A B : Nat) (f : Nat → Bool) (hAB : A ≤ B) (hB : B < n) (w : World) (H : MapB w a g n f) :
    Calls Tryd.prog 29 #[.pointer (some ⟨a, 0, none⟩), .int .i64 A, .int .i64 B] w fun e w' =>
      e = .returned (.tuple #[.int .i64 (cnt (fun p => f p != rowB A B true f p) 65536 : Nat), .int .i64 0]) ∧ MapB w' a g n (rowB A B true f) ∧ But [g] w.heap.size w w' := by
  have hmf : ∀ (fn : Fn) (first cap : Array Value) (w : World), (Instr.makeFunc fn first cap).run Tryd.prog w = .ok (.func fn first cap) w := fun _ _ _ _ => rfl
  have TH : Hid _ := fun w H => turn_or a g n A B f hAB hB w H
  have HH : Hid _ := H
  clear H
  go_enter Tryd.func29, Tryd.ntmps29
  go_wp2_with fail
  refine (TH.out _ HH.out).mono ?_
  rintro e w1 ⟨rfl, hM, hK⟩
  clear TH HH
  generalize hcc : cnt (fun p => f p != rowB A B true f p) 65536 = c at *
  have HC : Hid _ := hcc
  clear hcc
  go_wp2_with fail
  go_ret2
  exact ⟨by rw [HC.out]; rfl, hM, hK⟩

theorem clear_ok (a g n A B : Nat) (f : Nat → Bool) (hAB : A ≤ B) (hB : B < n) (w : World) (H : MapB w a g n f) :
    Calls Tryd.prog 30 #[.pointer (some ⟨a, 0, none⟩), .int .i64 A, .int .i64 B] w fun e w' =>
      e = .returned (.tuple #[.int .i64 (cnt (fun p => f p != rowB A B false f p) 65536 : Nat), .int .i64 0]) ∧ MapB w' a g n (rowB A B false f) ∧ But [g] w.heap.size w w' := by
  have hmf : ∀ (fn : Fn) (first cap : Array Value) (w : World), (Instr.makeFunc fn first cap).run Tryd.prog w = .ok (.func fn first cap) w := fun _ _ _ _ => rfl
  have TH : Hid _ := fun w H => turn_not a g n A B f hAB hB w H
  have HH : Hid _ := H
  clear H
  go_enter Tryd.func30, Tryd.ntmps30
  go_wp2_with fail
  refine (TH.out _ HH.out).mono ?_
  rintro e w1 ⟨rfl, hM, hK⟩
  clear TH HH
  generalize hcc : cnt (fun p => f p != rowB A B false f p) 65536 = c at *
  have HC : Hid _ := hcc
  clear hcc
  go_wp2_with fail
  go_ret2
  exact ⟨by rw [HC.out]; rfl, hM, hK⟩

/-- A bit is so. -/
def upd (f : Nat → Bool) (i : Nat) (v : Bool) : Nat → Bool := fun p => if p = i then v else f p

theorem rowB_one (f : Nat → Bool) (i : Nat) (v : Bool) : rowB i i v f = upd f i v := by
  funext p
  unfold rowB upd
  by_cases h : p = i
  · rw [if_pos h, if_pos (by omega)]
  · rw [if_neg h, if_neg (by omega)]

theorem cnt_upd (f : Nat → Bool) (i : Nat) (v : Bool) (hi : i < 65536) : cnt (fun p => f p != rowB i i v f p) 65536 = if f i = v then 0 else 1 := by
  rw [rowB_one, cnt_one hi (fun k hk => by unfold upd; rw [if_neg hk]; simp)]
  unfold upd
  cases f i <;> cases v <;> simp

theorem upd_same {f : Nat → Bool} {i : Nat} {v : Bool} (h : f i = v) : upd f i v = f := by
  funext p
  unfold upd
  split
  · rename_i e; rw [e, h]
  · rfl

theorem put_nil (A : Int) (w : World) : Calls Tryd.prog 33 #[.pointer none, .int .i64 A] w fun e w' => e = .returned (.int .i64 2) ∧ Below w.heap.size w w' := by
  go_enter Tryd.func33, Tryd.ntmps33
  go_wp2_with fail
  refine (fill_nil A A _).mono ?_
  rintro e w1 ⟨rfl, hb⟩
  go_wp2_with fail
  go_ret
  exact ⟨rfl, hb⟩

theorem drop_nil (A : Int) (w : World) : Calls Tryd.prog 34 #[.pointer none, .int .i64 A] w fun e w' => e = .returned (.int .i64 2) ∧ Below w.heap.size w w' := by
  go_enter Tryd.func34, Tryd.ntmps34
  go_wp2_with fail
  refine (clear_nil A A _).mono ?_
  rintro e w1 ⟨rfl, hb⟩
  go_wp2_with fail
  go_ret
  exact ⟨rfl, hb⟩

end Go.Proofs.YtkfglbmhpdcfpaaDoor

/-
  A map that the law made: what its calls answer, and what becomes of it. And what a row that is filled comes to: plain facts.
-/
import Derived.Test.YtkfglbmhpdcfpaaDoorBmA
namespace Go.Proofs.YtkfglbmhpdcfpaaDoor
open Go.ChangeShapes Go.WideShapes Go.ChangeAt Go.RowKit
set_option linter.unusedVariables false
set_option linter.unusedSimpArgs false

/-- A map of the law's own, its bits; what was there before is as it was. -/
def StB (w : World) (a g n : Nat) (f : Nat → Bool) (W : World) : Prop := MapB W a g n f ∧ Below w.heap.size w W ∧ w.heap.size ≤ g

theorem StB.quiet {w W W' : World} {a g n : Nat} {f : Nat → Bool} (h : StB w a g n f W) (k : Below W.heap.size W W') : StB w a g n f W' := ⟨h.1.below k, next_bel h.2.1 k, h.2.2⟩

theorem StB.turn {w W W' : World} {a g n : Nat} {f f' : Nat → Bool} (h : StB w a g n f W) (m : MapB W' a g n f') (k : But [g] W.heap.size W W') : StB w a g n f' W' := ⟨m, k.to h.2.1 h.2.2 h.2.1.size, h.2.2⟩

theorem StB.cast {w W : World} {a g n : Nat} {f f' : Nat → Bool} (h : StB w a g n f W) (e : ∀ p, f p = f' p) : StB w a g n f' W := (funext e : f = f') ▸ h

theorem StB.head {w W : World} {a g n : Nat} {f : Nat → Bool} (h : StB w a g n f W) : ∃ k, Blk W a #[.int .i64 n, .slice (some ⟨g, 0, none⟩) (k : Nat) (k : Nat)] 77 := by
  obtain ⟨ws, hm, _⟩ := h.1.is
  exact ⟨_, hm.head⟩

theorem new_s {w W : World} (hb : Below w.heap.size w W) (n : Nat) (hn : n ≤ 65536) : Calls Tryd.prog 17 #[.int .i64 n] W fun e W' =>
    e = .returned (.tuple #[.pointer (some ⟨W.heap.size + 1, 0, none⟩), .int .i64 0]) ∧ StB w (W.heap.size + 1) W.heap.size n (fun _ => false) W' ∧ Below W.heap.size W W' ∧ W'.heap.size = W.heap.size + 2 := by
  refine (new_b n hn W).mono ?_
  rintro e W' ⟨rfl, hM, hB, hs⟩
  exact ⟨rfl, ⟨hM, next_bel hb hB, hb.size⟩, hB, hs⟩

theorem count_s {w W : World} {a g n : Nat} {f : Nat → Bool} (h : StB w a g n f W) {C : Int} (hC : ((cnt f n : Nat) : Int) = C) : Calls Tryd.prog 22 #[.pointer (some ⟨a, 0, none⟩)] W fun e W' => e = .returned (.int .i64 C) ∧ Below W.heap.size W W' := by
  subst hC
  exact count_ok a g n f W h.1

theorem size_s {w W : World} {a g n : Nat} {f : Nat → Bool} (h : StB w a g n f W) : Calls Tryd.prog 26 #[.pointer (some ⟨a, 0, none⟩)] W fun e W' => e = .returned (.int .i64 n) ∧ W' = W := by
  obtain ⟨k, hk⟩ := h.head
  exact size_c a n W (hk.cell 0)

theorem has_s {w W : World} {a g n : Nat} {f : Nat → Bool} (h : StB w a g n f W) {i : Int} {b : Bool} (hb : (decide (0 ≤ i ∧ i < n) && f i.toNat) = b) : Calls Tryd.prog 24 #[.pointer (some ⟨a, 0, none⟩), .int .i64 i] W fun e W' => e = .returned (.bool b) ∧ Below W.heap.size W W' := by
  subst hb
  by_cases hi : 0 ≤ i ∧ i < n
  · obtain ⟨j, rfl⟩ := Int.eq_ofNat_of_zero_le hi.1
    rw [decide_eq_true hi, Bool.true_and]
    exact has_ok a g n j f (by omega) W h.1
  · rw [decide_eq_false hi, Bool.false_and]
    obtain ⟨k, hk⟩ := h.head
    exact has_bad a n i hi W (hk.cell 0)

/-- Whether there is a next one, and which; none where there are no bits. -/
def nxI (f : Nat → Bool) (n : Nat) (i : Int) : Int := if n = 0 then 0 else (nxP f n (i.toNat % n) : Nat)
def nxO (f : Nat → Bool) (n : Nat) (i : Int) : Bool := if n = 0 then false else nxB f n (i.toNat % n)

theorem next_s {w W : World} {a g n : Nat} {f : Nat → Bool} (h : StB w a g n f W) (hT : TB w) {i : Int} (i0 : -9223372036854775808 ≤ i) (i1 : i ≤ 9223372036854775807) {P : Int} {o : Bool} (hP : nxI f n i = P) (hO : nxO f n i = o) : Calls Tryd.prog 20 #[.pointer (some ⟨a, 0, none⟩), .int .i64 i] W fun e W' => e = .returned (.tuple #[.int .i64 P, .bool o]) ∧ Below W.heap.size W W' := by
  subst hP hO
  unfold nxI nxO
  by_cases h0 : n = 0
  · subst h0
    obtain ⟨k, hk⟩ := h.head
    exact next_zero a i W (hk.cell 0)
  · rw [if_neg h0, if_neg h0]
    exact next_ok a g n f i i0 i1 (by omega) W h.1 (hT.below h.2.1)

theorem fill_s {w W : World} {a g n : Nat} {f : Nat → Bool} (h : StB w a g n f W) {A B : Nat} (hAB : A ≤ B) (hB : B < n) {C : Int} (hC : ((cnt (fun p => f p != rowB A B true f p) 65536 : Nat) : Int) = C) : Calls Tryd.prog 29 #[.pointer (some ⟨a, 0, none⟩), .int .i64 A, .int .i64 B] W fun e W' => e = .returned (.tuple #[.int .i64 C, .int .i64 0]) ∧ StB w a g n (rowB A B true f) W' ∧ But [g] W.heap.size W W' := by
  subst hC
  refine (fill_ok a g n A B f hAB hB W h.1).mono ?_
  rintro e W' ⟨rfl, hM, hK⟩
  exact ⟨rfl, h.turn hM hK, hK⟩

theorem clear_s {w W : World} {a g n : Nat} {f : Nat → Bool} (h : StB w a g n f W) {A B : Nat} (hAB : A ≤ B) (hB : B < n) {C : Int} (hC : ((cnt (fun p => f p != rowB A B false f p) 65536 : Nat) : Int) = C) : Calls Tryd.prog 30 #[.pointer (some ⟨a, 0, none⟩), .int .i64 A, .int .i64 B] W fun e W' => e = .returned (.tuple #[.int .i64 C, .int .i64 0]) ∧ StB w a g n (rowB A B false f) W' ∧ But [g] W.heap.size W W' := by
  subst hC
  refine (clear_ok a g n A B f hAB hB W h.1).mono ?_
  rintro e W' ⟨rfl, hM, hK⟩
  exact ⟨rfl, h.turn hM hK, hK⟩

theorem fill_sbad {w W : World} {a g n : Nat} {f : Nat → Bool} (h : StB w a g n f W) {A B : Int} (hbad : ¬ (0 ≤ A ∧ A ≤ B ∧ B < n)) : Calls Tryd.prog 29 #[.pointer (some ⟨a, 0, none⟩), .int .i64 A, .int .i64 B] W fun e W' => e = .returned (.tuple #[.int .i64 0, .int .i64 1]) ∧ Below W.heap.size W W' := by
  obtain ⟨k, hk⟩ := h.head
  exact fill_bad a g n A B hbad W k hk

theorem clear_sbad {w W : World} {a g n : Nat} {f : Nat → Bool} (h : StB w a g n f W) {A B : Int} (hbad : ¬ (0 ≤ A ∧ A ≤ B ∧ B < n)) : Calls Tryd.prog 30 #[.pointer (some ⟨a, 0, none⟩), .int .i64 A, .int .i64 B] W fun e W' => e = .returned (.tuple #[.int .i64 0, .int .i64 1]) ∧ Below W.heap.size W W' := by
  obtain ⟨k, hk⟩ := h.head
  exact clear_bad a g n A B hbad W k hk

/-- How many of a row lie below m. -/
theorem cnt_row (A B : Nat) : ∀ m, cnt (fun p => decide (A ≤ p ∧ p ≤ B)) m = min m (B + 1) - min m A
  | 0 => by simp [cnt]
  | m + 1 => by
    simp only [cnt]
    rw [cnt_row A B m]
    by_cases h : A ≤ m ∧ m ≤ B
    · rw [if_pos (decide_eq_true h)]; omega
    · rw [if_neg (by simpa using h)]; omega

def rowF (A B : Nat) : Nat → Bool := fun p => decide (A ≤ p ∧ p ≤ B)

theorem rowF_is (A B : Nat) : ∀ p, rowB A B true (fun _ => false) p = rowF A B p := fun p => by
  unfold rowB rowF
  split
  · rename_i h; rw [decide_eq_true h]
  · rename_i h; rw [decide_eq_false h]

theorem rowF_off (A B : Nat) : ∀ p, rowB A B false (rowF A B) p = false := fun p => by
  unfold rowB rowF
  split
  · rfl
  · rename_i h; rw [decide_eq_false h]

theorem cnt_fill {A B : Nat} (hAB : A ≤ B) (hB : B < 65536) : ((cnt (fun p => (fun _ => false) p != rowB A B true (fun _ => false) p) 65536 : Nat) : Int) = (B : Int) - A + 1 := by
  have e : cnt (fun p => (fun _ => false) p != rowB A B true (fun _ => false) p) 65536 = cnt (rowF A B) 65536 := cnt_congr (fun p _ => by rw [rowF_is]; simp)
  rw [e]
  unfold rowF
  rw [cnt_row]
  omega

theorem cnt_clear {A B : Nat} (hAB : A ≤ B) (hB : B < 65536) : ((cnt (fun p => rowF A B p != rowB A B false (rowF A B) p) 65536 : Nat) : Int) = (B : Int) - A + 1 := by
  have e : cnt (fun p => rowF A B p != rowB A B false (rowF A B) p) 65536 = cnt (rowF A B) 65536 := cnt_congr (fun p _ => by rw [rowF_off]; simp)
  rw [e]
  unfold rowF
  rw [cnt_row]
  omega

theorem cnt_rowF {A B n : Nat} (hAB : A ≤ B) (hB : B < n) : ((cnt (rowF A B) n : Nat) : Int) = (B : Int) - A + 1 := by
  unfold rowF
  rw [cnt_row]
  omega

theorem cnt_none (n : Nat) : ((cnt (fun _ => false) n : Nat) : Int) = 0 := by
  rw [cnt_zero (fun _ _ => rfl)]; rfl

/-- What is next behind a row. -/
theorem nxt_row {A B n : Nat} (hAB : A ≤ B) (hB : B < n) : (A = 0 ∧ B = n - 1 ∧ nextF (rowF A B) n (A % n) = none) ∨ (B < n - 1 ∧ nextF (rowF A B) n (A % n) = some (B + 1)) ∨ (¬ A = 0 ∧ B = n - 1 ∧ nextF (rowF A B) n (A % n) = some 0) := by
  rw [Nat.mod_eq_of_lt (by omega)]
  have tr : ∀ p, A ≤ p → p ≤ B → rowF A B p = true := fun p h1 h2 => decide_eq_true ⟨h1, h2⟩
  have fl : ∀ p, ¬ (A ≤ p ∧ p ≤ B) → rowF A B p = false := fun p h => decide_eq_false h
  by_cases h1 : B < n - 1
  · refine Or.inr (Or.inl ⟨h1, ?_⟩)
    unfold nextF
    rw [seek_some (p := B + 1) (by omega) (by omega) (fl _ (by omega)) (fun q h2 h3 => tr q h2 (by omega))]
  · have e : seek (rowF A B) A (n - A) = none := seek_none (fun p h2 h3 => tr p h2 (by omega))
    by_cases h2 : A = 0
    · refine Or.inl ⟨h2, by omega, ?_⟩
      unfold nextF
      rw [e, h2]; rfl
    · refine Or.inr (Or.inr ⟨h2, by omega, ?_⟩)
      unfold nextF
      rw [e]
      exact seek_some (by omega) (by omega) (fl _ (by omega)) (fun q h3 h4 => by omega)

theorem nx_of {f : Nat → Bool} {n A : Nat} {o : Option Nat} (hn : ¬ n = 0) (h : nextF f n (A % n) = o) : nxI f n (A : Int) = (o.getD 0 : Nat) ∧ nxO f n (A : Int) = o.isSome := by
  unfold nxI nxO nxP nxB
  rw [if_neg hn, if_neg hn, Int.toNat_natCast, h]
  exact ⟨rfl, rfl⟩

end Go.Proofs.YtkfglbmhpdcfpaaDoor

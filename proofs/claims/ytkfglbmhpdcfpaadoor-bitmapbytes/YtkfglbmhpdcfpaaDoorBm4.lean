/-
  Rows of words as rows of bits, and what a frame of a call that writes keeps: plain facts.
-/
import Derived.Test.YtkfglbmhpdcfpaaDoorBm2
namespace Go.Proofs.YtkfglbmhpdcfpaaDoor
open Go.ChangeShapes Go.WideShapes Go.ChangeAt Go.RowKit
set_option linter.unusedVariables false
set_option linter.unusedSimpArgs false

/-- Bit p of a row of words. -/
def bitL (ws : List Nat) (p : Nat) : Bool := (ws.getD (p / 64) 0).testBit (p % 64)

theorem bitL_set {ws : List Nat} {i y p : Nat} (hi : i < ws.length) : bitL (ws.set i y) p = if p / 64 = i then y.testBit (p % 64) else bitL ws p := by
  unfold bitL
  by_cases h : p / 64 = i
  · subst h
    simp [List.getD_eq_getElem?_getD, List.getElem?_set, hi]
  · rw [if_neg h]
    simp [List.getD_eq_getElem?_getD, List.getElem?_set, Ne.symm h]

theorem bitL_at {ws : List Nat} {i j : Nat} (hj : j < 64) : bitL ws (64 * i + j) = (ws.getD i 0).testBit j := by
  unfold bitL
  rw [show (64 * i + j) / 64 = i by omega, show (64 * i + j) % 64 = j by omega]

theorem cnt_zero {p : Nat → Bool} : ∀ {n : Nat}, (∀ k, k < n → p k = false) → cnt p n = 0
  | 0, _ => rfl
  | n + 1, h => by simp only [cnt]; rw [cnt_zero (fun k hk => h k (by omega)), h n (by omega)]; rfl

theorem cnt_more {p : Nat → Bool} {a b : Nat} (hab : a ≤ b) (h : ∀ k, a ≤ k → k < b → p k = false) : cnt p b = cnt p a := by
  obtain ⟨d, rfl⟩ := Nat.exists_eq_add_of_le hab
  rw [cnt_add, cnt_zero (p := fun j => p (a + j)) (fun k hk => h (a + k) (by omega) (by omega))]
  rfl

/-- Behind the bits of a word that is other than it was. -/
theorem cnt_word {q : Nat → Bool} {i z : Nat} (hz : ∀ j, j < 64 → z.testBit j = q (64 * i + j)) : cnt q (64 * (i + 1)) = cnt q (64 * i) + pc z := by
  rw [show 64 * (i + 1) = 64 * i + 64 by omega, cnt_add, pc]
  congr 1
  exact cnt_congr (fun j hj => (hz j hj).symm)

/-- Just one. -/
theorem cnt_one {q : Nat → Bool} {i n : Nat} (hi : i < n) (h : ∀ k, k ≠ i → q k = false) : cnt q n = if q i then 1 else 0 := by
  rw [cnt_more (a := i + 1) (by omega) (fun k h1 h2 => h k (by omega))]
  simp only [cnt]
  rw [cnt_zero (fun k hk => h k (by omega))]
  omega

/-- A map as its bits: none behind its size is one. -/
structure MapB (W : World) (a g n : Nat) (f : Nat → Bool) : Prop where
  is : ∃ ws, MapAt W a g n ws ∧ ∀ p, bitL ws p = f p
  behind : ∀ p, n ≤ p → f p = false

/-- What is not in the list is as it was. -/
structure But (L : List Nat) (B : Nat) (w w' : World) : Prop where
  os : w'.os = w.os
  tape : w'.tape = w.tape
  output : w'.output = w.output
  size : w.heap.size ≤ w'.heap.size
  block : ∀ k, k < B → k ∉ L → w'.heap[k]? = w.heap[k]?

theorem But.refl (L : List Nat) (B : Nat) (w : World) : But L B w w := ⟨rfl, rfl, rfl, Nat.le_refl _, fun _ _ _ => rfl⟩

theorem But.trans {L : List Nat} {B : Nat} {a b c : World} (h : But L B a b) (k : But L B b c) : But L B a c :=
  ⟨k.os.trans h.os, k.tape.trans h.tape, k.output.trans h.output, Nat.le_trans h.size k.size, fun i hi hn => (k.block i hi hn).trans (h.block i hi hn)⟩

theorem But.of {L : List Nat} {B C : Nat} {w w' : World} (h : Below C w w') (hBC : B ≤ C) : But L B w w' := ⟨h.os, h.tape, h.output, h.size, fun k hk _ => h.block k (by omega)⟩

theorem But.below {B : Nat} {w w' : World} (h : But [] B w w') : Below B w w' := ⟨h.os, h.tape, h.output, h.size, fun k hk => h.block k hk (by simp)⟩

theorem But.mono {L M : List Nat} {B C : Nat} {w w' : World} (h : But L B w w') (hBC : C ≤ B) (hs : ∀ x, x ∈ L → x < C → x ∈ M) : But M C w w' :=
  ⟨h.os, h.tape, h.output, h.size, fun k hk hn => h.block k (by omega) (fun hl => hn (hs k hl hk))⟩

theorem But.blk {L : List Nat} {B : Nat} {w w' : World} (h : But L B w w') {b : Nat} {cs : Array Value} {t : TypeId} (k : Blk w b cs t) (hb : b < B) (hn : b ∉ L) : Blk w' b cs t := (h.block b hb hn).trans k

theorem MapAt.but {L : List Nat} {B : Nat} {w w' : World} (h : But L B w w') {a g n : Nat} {ws : List Nat} (k : MapAt w a g n ws) (ha : a < B) (hg : g < B) (na : a ∉ L) (ng : g ∉ L) : MapAt w' a g n ws :=
  ⟨h.blk k.head ha na, h.blk k.row hg ng, k.len, k.small, k.word⟩

theorem MapB.but {L : List Nat} {B : Nat} {w w' : World} (h : But L B w w') {a g n : Nat} {f : Nat → Bool} (k : MapB w a g n f) (ha : a < B) (hg : g < B) (na : a ∉ L) (ng : g ∉ L) : MapB w' a g n f := by
  obtain ⟨⟨ws, h1, h2⟩, h3⟩ := k
  exact ⟨⟨ws, h1.but h ha hg na ng, h2⟩, h3⟩

theorem MapB.below {w w' : World} {a g n : Nat} {f : Nat → Bool} (k : MapB w a g n f) (h : Below w.heap.size w w') : MapB w' a g n f := by
  obtain ⟨⟨ws, h1, h2⟩, h3⟩ := k
  exact ⟨⟨ws, h1.but (But.of (L := []) h (Nat.le_refl _)) h1.head.lt h1.row.lt (by simp) (by simp), h2⟩, h3⟩

theorem MapB.lt {w : World} {a g n : Nat} {f : Nat → Bool} (k : MapB w a g n f) : a < w.heap.size ∧ g < w.heap.size ∧ a ≠ g ∧ n ≤ 65536 := by
  obtain ⟨⟨ws, h1, h2⟩, h3⟩ := k
  refine ⟨h1.head.lt, h1.row.lt, ?_, h1.small⟩
  rintro rfl
  have e1 := h1.head
  have e2 := h1.row
  unfold Blk at e1 e2
  rw [e1] at e2
  simp at e2

theorem MapAt.get {W : World} {a g n : Nat} {ws : List Nat} (h : MapAt W a g n ws) {i : Nat} (hi : i < ws.length) : ((ws.map (fun x : Nat => Value.int .u64 (x : Int))).toArray)[i]? = some (.int .u64 ((ws.getD i 0 : Nat) : Int)) ∧ ws.getD i 0 < 18446744073709551616 := by
  have e : ws[i]? = some (ws.getD i 0) := by
    simp [List.getD_eq_getElem?_getD, hi]
  refine ⟨by simp [e, hi], h.word _ ?_⟩
  exact List.mem_of_getElem? e

/-- A word is put. -/
theorem MapAt.put {W : World} {a g n : Nat} {ws : List Nat} (h : MapAt W a g n ws) (hne : a ≠ g) {i y : Nat} (hy : y < 18446744073709551616) : MapAt (W.setCell ⟨g, i, none⟩ (.int .u64 (y : Int))) a g n (ws.set i y) := by
  refine ⟨?_, ?_, by rw [List.length_set]; exact h.len, h.small, ?_⟩
  · rw [List.length_set]
    exact h.head.far hne i _
  · have := h.row.put i (.int .u64 (y : Int))
    have e : ((ws.map (fun x : Nat => Value.int .u64 (x : Int))).toArray).setIfInBounds i (.int .u64 (y : Int)) = ((ws.set i y).map (fun x : Nat => Value.int .u64 (x : Int))).toArray := by
      rw [List.map_set]; simp
    rw [← e]
    exact this
  · intro x hx
    rcases List.mem_or_eq_of_mem_set hx with hx | rfl
    · exact h.word x hx
    · exact hy

end Go.Proofs.YtkfglbmhpdcfpaaDoor

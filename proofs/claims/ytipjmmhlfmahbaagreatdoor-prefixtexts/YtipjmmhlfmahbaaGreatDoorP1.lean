/-
  Texts Blk, Kn of the proof.
-/
import Derived.Deep.Heap
import Derived.ProofKit
import Derived.WalkKit

namespace Go.Proofs.YtipjmmhlfmahbaaGreatDoor
open Go.ChangeShapes Go.WideShapes Go.ChangeAt Go.RowKit
set_option linter.unusedVariables false
set_option linter.unusedSimpArgs false

/-- Block b holds just these cells. -/
def Blk (W : World) (b : Nat) (cs : Array Value) (t : TypeId) : Prop := W.heap[b]? = some (.cells cs t (0, 0))

theorem Blk.lt {W : World} {b : Nat} {cs : Array Value} {t : TypeId} (h : Blk W b cs t) : b < W.heap.size := (Array.getElem?_eq_some_iff.1 h).1

theorem Blk.below {W w1 : World} {b : Nat} {cs : Array Value} {t : TypeId} (h : Blk W b cs t) (hb : Below W.heap.size W w1) : Blk w1 b cs t := (hb.block b h.lt).trans h

theorem Blk.via {W W0 w1 : World} {b : Nat} {cs : Array Value} {t : TypeId} (hb : Below W.heap.size W w1) (h : Blk W0 b cs t) (e : W.heap = W0.heap) : Blk w1 b cs t :=
  Blk.below (W := W) (by unfold Blk at *; rw [e]; exact h) hb

theorem Blk.new (W : World) (cs : Array Value) (t : TypeId) : Blk (W.alloc (.cells cs t)) W.heap.size cs t := heap_alloc_new W _

theorem Blk.alloc {W : World} {b : Nat} {cs : Array Value} {t : TypeId} (h : Blk W b cs t) (o : Obj) : Blk (W.alloc o) b cs t := by
  have l := h.lt
  unfold Blk at *
  rw [← h]
  exact heap_alloc_old W o l

theorem Blk.drew {W : World} {b : Nat} {cs : Array Value} {t : TypeId} (h : Blk W b cs t) : Blk W.drew b cs t := h

theorem Blk.cell {W : World} {b : Nat} {cs : Array Value} {t : TypeId} (h : Blk W b cs t) (i : Nat) : W.cell? ⟨b, i, none⟩ = cs[i]? := by
  unfold Blk at h
  simp [World.cell?, h]

theorem Blk.frozen {W : World} {b : Nat} {cs : Array Value} {t : TypeId} (h : Blk W b cs t) (i : Nat) : W.frozen? ⟨b, i, none⟩ = false := by
  unfold Blk at h
  simp [World.frozen?, h]

theorem Blk.put {W : World} {b : Nat} {cs : Array Value} {t : TypeId} (h : Blk W b cs t) (i : Nat) (u : Value) : Blk (W.setCell ⟨b, i, none⟩ u) b (cs.setIfInBounds i u) t := by
  unfold Blk at *
  obtain ⟨l, e⟩ := Array.getElem?_eq_some_iff.1 h
  simp [World.setCell, Array.getElem?_modify, h]

theorem Blk.far {W : World} {b c : Nat} {cs : Array Value} {t : TypeId} (h : Blk W b cs t) (hne : b ≠ c) (i : Nat) (u : Value) : Blk (W.setCell ⟨c, i, none⟩ u) b cs t :=
  (Deep.blk_setCell_other W ⟨c, i, none⟩ u b hne).trans h

/-- Two words in a block, as two cells. -/
theorem Blk.two {W : World} {b : Nat} {x y : Value} {t : TypeId} (h : Blk W b #[x, y] t) : W.cell? ⟨b, 0, none⟩ = some x ∧ W.cell? ⟨b, 1, none⟩ = some y ∧ W.frozen? ⟨b, 0, none⟩ = false ∧ W.frozen? ⟨b, 1, none⟩ = false ∧ b < W.heap.size :=
  ⟨h.cell 0, h.cell 1, h.frozen 0, h.frozen 1, h.lt⟩

theorem Blk.three {W : World} {b : Nat} {x y z : Value} {t : TypeId} (h : Blk W b #[x, y, z] t) : W.cell? ⟨b, 0, none⟩ = some x ∧ W.cell? ⟨b, 1, none⟩ = some y ∧ W.cell? ⟨b, 2, none⟩ = some z ∧ W.frozen? ⟨b, 0, none⟩ = false ∧ W.frozen? ⟨b, 1, none⟩ = false ∧ W.frozen? ⟨b, 2, none⟩ = false ∧ b < W.heap.size :=
  ⟨h.cell 0, h.cell 1, h.cell 2, h.frozen 0, h.frozen 1, h.frozen 2, h.lt⟩

theorem Blk.put2 {W : World} {b : Nat} {x y : Value} {t : TypeId} (h : Blk W b #[x, y] t) (u v : Value) : Blk ((W.setCell ⟨b, 0, none⟩ u).setCell ⟨b, 1, none⟩ v) b #[u, v] t := (h.put 0 u).put 1 v

theorem Blk.put3 {W : World} {b : Nat} {x y z : Value} {t : TypeId} (h : Blk W b #[x, y, z] t) (u v s : Value) : Blk (((W.setCell ⟨b, 0, none⟩ u).setCell ⟨b, 1, none⟩ v).setCell ⟨b, 2, none⟩ s) b #[u, v, s] t := ((h.put 0 u).put 1 v).put 2 s

theorem Blk.far2 {W : World} {b c : Nat} {cs : Array Value} {t : TypeId} (h : Blk W b cs t) (hne : b ≠ c) (u v : Value) : Blk ((W.setCell ⟨c, 0, none⟩ u).setCell ⟨c, 1, none⟩ v) b cs t := (h.far hne 0 u).far hne 1 v

theorem Blk.far3 {W : World} {b c : Nat} {cs : Array Value} {t : TypeId} (h : Blk W b cs t) (hne : b ≠ c) (u v s : Value) : Blk (((W.setCell ⟨c, 0, none⟩ u).setCell ⟨c, 1, none⟩ v).setCell ⟨c, 2, none⟩ s) b cs t := ((h.far hne 0 u).far hne 1 v).far hne 2 s

theorem bcellv {W W0 w1 : World} (hb : Below W.heap.size W w1) (e : W.heap = W0.heap) :
    (∀ b o, b < W0.heap.size → w1.cell? ⟨b, o, none⟩ = W0.cell? ⟨b, o, none⟩) ∧ (∀ b o, b < W0.heap.size → w1.frozen? ⟨b, o, none⟩ = W0.frozen? ⟨b, o, none⟩) := by
  refine ⟨fun b o h => World.cell?_of_block (a := ⟨b, o, none⟩) ?_, fun b o h => World.frozen?_of_block (a := ⟨b, o, none⟩) ?_⟩
  all_goals
    show w1.heap[b]? = W0.heap[b]?
    rw [← e]
    exact hb.block b (by rw [e]; exact h)

end Go.Proofs.YtipjmmhlfmahbaaGreatDoor

namespace Go.Proofs.YtipjmmhlfmahbaaGreatDoor
open Go.ChangeShapes Go.WideShapes Go.ChangeAt Go.RowKit
set_option linter.unusedVariables false
set_option linter.unusedSimpArgs false

/-- The cells of block b from i on. -/
def CellsAt (W : World) (b : Nat) : Nat → List Value → Prop
  | _, [] => True
  | i, v :: r => W.cell? ⟨b, i, none⟩ = some v ∧ CellsAt W b (i + 1) r

def Facts (W : World) : List (Nat × List Value × TypeId) → Prop
  | [] => True
  | e :: r => CellsAt W e.1 0 e.2.1 ∧ Facts W r

def Blks (W : World) : List (Nat × List Value × TypeId) → Prop
  | [] => True
  | e :: r => Blk W e.1 e.2.1.toArray e.2.2 ∧ Blks W r

/-- None of them is block D. -/
def Off (D : Nat) : List (Nat × List Value × TypeId) → Prop
  | [] => True
  | e :: r => e.1 ≠ D ∧ Off D r

/-- The blocks of L are known in W; what lay there before is as it was. -/
def Kn (w : World) (L : List (Nat × List Value × TypeId)) (W : World) : Prop := Facts W L ∧ Blks W L ∧ Below w.heap.size w W

theorem cellsAt_of {W : World} {b : Nat} {t : TypeId} {cs : List Value} (h : Blk W b cs.toArray t) : ∀ (i : Nat) (r : List Value), cs.drop i = r → CellsAt W b i r
  | i, [], _ => trivial
  | i, v :: r, e => by
    have hd : cs[i]? = some v := by
      have := congrArg List.head? e
      rw [List.head?_drop] at this
      exact this
    refine ⟨?_, cellsAt_of h (i + 1) r ?_⟩
    · rw [h.cell i]; simpa using hd
    · rw [← List.drop_drop, e]; rfl

theorem facts_of {W : World} : ∀ {L : List (Nat × List Value × TypeId)}, Blks W L → Facts W L
  | [], _ => trivial
  | e :: r, h => ⟨cellsAt_of h.1 0 _ rfl, facts_of h.2⟩

theorem Kn.of {w W : World} {L : List (Nat × List Value × TypeId)} (h : Blks W L) (b : Below w.heap.size w W) : Kn w L W := ⟨facts_of h, h, b⟩

theorem Kn.nil (w : World) : Kn w [] w := Kn.of trivial (Below.refl _ _)

theorem Blks.map {W W' : World} (f : ∀ b cs t, Blk W b cs t → Blk W' b cs t) : ∀ {L : List (Nat × List Value × TypeId)}, Blks W L → Blks W' L
  | [], _ => trivial
  | e :: r, h => ⟨f _ _ _ h.1, Blks.map f h.2⟩

theorem Kn.below {w W w1 : World} {L : List (Nat × List Value × TypeId)} (k : Kn w L W) (hb : Below W.heap.size W w1) : Kn w L w1 :=
  Kn.of (Blks.map (fun _ _ _ h => h.below hb) k.2.1) (k.2.2.trans (hb.mono k.2.2.size))

theorem Kn.alloc {w W : World} {L : List (Nat × List Value × TypeId)} (k : Kn w L W) (o : Obj) : Kn w L (W.alloc o) :=
  Kn.of (Blks.map (fun _ _ _ h => h.alloc o) k.2.1) (k.2.2.alloc k.2.2.size o)

theorem Kn.drew {w W : World} {L : List (Nat × List Value × TypeId)} (k : Kn w L W) : Kn w L W.drew :=
  Kn.of (Blks.map (W := W) (W' := W.drew) (fun _ _ _ h => Blk.drew h) k.2.1) k.2.2.drew

/-- A new block, known too. -/
theorem Kn.push {w W : World} {L : List (Nat × List Value × TypeId)} (k : Kn w L W) {b : Nat} {cs : List Value} {t : TypeId} (e : b = W.heap.size) : Kn w ((b, cs, t) :: L) (W.alloc (.cells cs.toArray t)) :=
  Kn.of ⟨e ▸ Blk.new W _ _, Blks.map (fun _ _ _ h => h.alloc _) k.2.1⟩ (k.2.2.alloc k.2.2.size _)

/-- One that is known otherwise. -/
theorem Kn.cons {w W : World} {L : List (Nat × List Value × TypeId)} (k : Kn w L W) {b : Nat} {cs : List Value} {t : TypeId} (h : Blk W b cs.toArray t) : Kn w ((b, cs, t) :: L) W := Kn.of ⟨h, k.2.1⟩ k.2.2

theorem Kn.tail {w W : World} {L : List (Nat × List Value × TypeId)} {e : Nat × List Value × TypeId} (k : Kn w (e :: L) W) : Kn w L W := Kn.of k.2.1.2 k.2.2

theorem Blks.set {W : World} {D i : Nat} (u : Value) : ∀ {L : List (Nat × List Value × TypeId)}, Off D L → Blks W L → Blks (W.setCell ⟨D, i, none⟩ u) L
  | [], _, _ => trivial
  | e :: r, o, h => ⟨h.1.far o.1 _ _, Blks.set u o.2 h.2⟩

/-- A store elsewhere. -/
theorem Kn.set {w W : World} {L : List (Nat × List Value × TypeId)} (k : Kn w L W) {D : Nat} (o : Off D L) (hd : w.heap.size ≤ D) (i : Nat) (u : Value) : Kn w L (W.setCell ⟨D, i, none⟩ u) :=
  Kn.of (Blks.set u o k.2.1) (k.2.2.setCell hd u)

theorem Kn.far2 {w W : World} {L : List (Nat × List Value × TypeId)} (k : Kn w L W) {D : Nat} (o : Off D L) (hd : w.heap.size ≤ D) (x y : Value) : Kn w L ((W.setCell ⟨D, 0, none⟩ x).setCell ⟨D, 1, none⟩ y) := (k.set o hd 0 x).set o hd 1 y

theorem Kn.far3 {w W : World} {L : List (Nat × List Value × TypeId)} (k : Kn w L W) {D : Nat} (o : Off D L) (hd : w.heap.size ≤ D) (x y z : Value) : Kn w L (((W.setCell ⟨D, 0, none⟩ x).setCell ⟨D, 1, none⟩ y).setCell ⟨D, 2, none⟩ z) := (k.far2 o hd x y).set o hd 2 z

theorem Kn.far4 {w W : World} {L : List (Nat × List Value × TypeId)} (k : Kn w L W) {D : Nat} (o : Off D L) (hd : w.heap.size ≤ D) (x y z u : Value) : Kn w L ((((W.setCell ⟨D, 0, none⟩ x).setCell ⟨D, 1, none⟩ y).setCell ⟨D, 2, none⟩ z).setCell ⟨D, 3, none⟩ u) := (k.far3 o hd x y z).set o hd 3 u

theorem Kn.bel {w W : World} {L : List (Nat × List Value × TypeId)} (k : Kn w L W) : Below w.heap.size w W := k.2.2

end Go.Proofs.YtipjmmhlfmahbaaGreatDoor

namespace Go.Proofs.YtipjmmhlfmahbaaGreatDoor
open Go.ChangeShapes Go.WideShapes Go.ChangeAt Go.RowKit
set_option linter.unusedVariables false
set_option linter.unusedSimpArgs false
end Go.Proofs.YtipjmmhlfmahbaaGreatDoor

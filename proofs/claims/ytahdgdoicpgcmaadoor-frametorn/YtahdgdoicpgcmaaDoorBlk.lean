/-
  Blocks of memory that a call made and knows: what becomes of them behind calls, new blocks and stores. No program in sight.
-/
import Derived.WalkKit
import Derived.ProofKit
import Derived.Deep.Heap
namespace Go.Proofs.YtahdgdoicpgcmaaDoor
open Go.ChangeShapes Go.WideShapes Go.ChangeAt Go.RowKit
set_option linter.unusedVariables false
set_option linter.unusedSimpArgs false

/-- Block b holds just these cells. -/
def Blk (W : World) (b : Nat) (cs : Array Value) (t : TypeId) : Prop := W.heap[b]? = some (.cells cs t (0, 0))

theorem Blk.lt {W : World} {b : Nat} {cs : Array Value} {t : TypeId} (h : Blk W b cs t) : b < W.heap.size := (Array.getElem?_eq_some_iff.1 h).1

theorem Blk.below {W w1 : World} {b : Nat} {cs : Array Value} {t : TypeId} (h : Blk W b cs t) (hb : Below W.heap.size W w1) : Blk w1 b cs t := (hb.block b h.lt).trans h

theorem Blk.via {W W0 w1 : World} {b : Nat} {cs : Array Value} {t : TypeId} (hb : Below W.heap.size W w1) (h : Blk W0 b cs t) (e : W.heap = W0.heap) : Blk w1 b cs t :=
  Blk.below (W := W) (by unfold Blk at *; rw [e]; exact h) hb

theorem Blk.new (W : World) (cs : Array Value) (t : TypeId) : Blk (W.alloc (.cells cs t)) W.heap.size cs t := heap_alloc_new W _

theorem Blk.alloc {W : World} {b : Nat} {cs : Array Value} {t : TypeId} (h : Blk W b cs t) (o : Obj) : Blk (W.alloc o) b cs t := by
  have l := h.lt
  unfold Blk at *
  rw [← h]
  exact heap_alloc_old W o l

theorem Blk.drew {W : World} {b : Nat} {cs : Array Value} {t : TypeId} (h : Blk W b cs t) : Blk W.drew b cs t := h

theorem Blk.cell {W : World} {b : Nat} {cs : Array Value} {t : TypeId} (h : Blk W b cs t) (i : Nat) : W.cell? ⟨b, i, none⟩ = cs[i]? := by
  unfold Blk at h
  simp [World.cell?, h]

theorem Blk.frozen {W : World} {b : Nat} {cs : Array Value} {t : TypeId} (h : Blk W b cs t) (i : Nat) : W.frozen? ⟨b, i, none⟩ = false := by
  unfold Blk at h
  simp [World.frozen?, h]

theorem Blk.put {W : World} {b : Nat} {cs : Array Value} {t : TypeId} (h : Blk W b cs t) (i : Nat) (u : Value) : Blk (W.setCell ⟨b, i, none⟩ u) b (cs.setIfInBounds i u) t := by
  unfold Blk at *
  obtain ⟨l, e⟩ := Array.getElem?_eq_some_iff.1 h
  simp [World.setCell, Array.getElem?_modify, h]

theorem Blk.far {W : World} {b c : Nat} {cs : Array Value} {t : TypeId} (h : Blk W b cs t) (hne : b ≠ c) (i : Nat) (u : Value) : Blk (W.setCell ⟨c, i, none⟩ u) b cs t :=
  (Deep.blk_setCell_other W ⟨c, i, none⟩ u b hne).trans h

/-- Two words in a block, as two cells. -/
theorem Blk.two {W : World} {b : Nat} {x y : Value} {t : TypeId} (h : Blk W b #[x, y] t) : W.cell? ⟨b, 0, none⟩ = some x ∧ W.cell? ⟨b, 1, none⟩ = some y ∧ W.frozen? ⟨b, 0, none⟩ = false ∧ W.frozen? ⟨b, 1, none⟩ = false ∧ b < W.heap.size :=
  ⟨h.cell 0, h.cell 1, h.frozen 0, h.frozen 1, h.lt⟩

theorem Blk.three {W : World} {b : Nat} {x y z : Value} {t : TypeId} (h : Blk W b #[x, y, z] t) : W.cell? ⟨b, 0, none⟩ = some x ∧ W.cell? ⟨b, 1, none⟩ = some y ∧ W.cell? ⟨b, 2, none⟩ = some z ∧ W.frozen? ⟨b, 0, none⟩ = false ∧ W.frozen? ⟨b, 1, none⟩ = false ∧ W.frozen? ⟨b, 2, none⟩ = false ∧ b < W.heap.size :=
  ⟨h.cell 0, h.cell 1, h.cell 2, h.frozen 0, h.frozen 1, h.frozen 2, h.lt⟩

theorem Blk.put2 {W : World} {b : Nat} {x y : Value} {t : TypeId} (h : Blk W b #[x, y] t) (u v : Value) : Blk ((W.setCell ⟨b, 0, none⟩ u).setCell ⟨b, 1, none⟩ v) b #[u, v] t := (h.put 0 u).put 1 v

theorem Blk.put3 {W : World} {b : Nat} {x y z : Value} {t : TypeId} (h : Blk W b #[x, y, z] t) (u v s : Value) : Blk (((W.setCell ⟨b, 0, none⟩ u).setCell ⟨b, 1, none⟩ v).setCell ⟨b, 2, none⟩ s) b #[u, v, s] t := ((h.put 0 u).put 1 v).put 2 s

theorem Blk.far2 {W : World} {b c : Nat} {cs : Array Value} {t : TypeId} (h : Blk W b cs t) (hne : b ≠ c) (u v : Value) : Blk ((W.setCell ⟨c, 0, none⟩ u).setCell ⟨c, 1, none⟩ v) b cs t := (h.far hne 0 u).far hne 1 v

theorem Blk.far3 {W : World} {b c : Nat} {cs : Array Value} {t : TypeId} (h : Blk W b cs t) (hne : b ≠ c) (u v s : Value) : Blk (((W.setCell ⟨c, 0, none⟩ u).setCell ⟨c, 1, none⟩ v).setCell ⟨c, 2, none⟩ s) b cs t := ((h.far hne 0 u).far hne 1 v).far hne 2 s

theorem bcellv {W W0 w1 : World} (hb : Below W.heap.size W w1) (e : W.heap = W0.heap) :
    (∀ b o, b < W0.heap.size → w1.cell? ⟨b, o, none⟩ = W0.cell? ⟨b, o, none⟩) ∧ (∀ b o, b < W0.heap.size → w1.frozen? ⟨b, o, none⟩ = W0.frozen? ⟨b, o, none⟩) := by
  refine ⟨fun b o h => World.cell?_of_block (a := ⟨b, o, none⟩) ?_, fun b o h => World.frozen?_of_block (a := ⟨b, o, none⟩) ?_⟩
  all_goals
    show w1.heap[b]? = W0.heap[b]?
    rw [← e]
    exact hb.block b (by rw [e]; exact h)

end Go.Proofs.YtahdgdoicpgcmaaDoor

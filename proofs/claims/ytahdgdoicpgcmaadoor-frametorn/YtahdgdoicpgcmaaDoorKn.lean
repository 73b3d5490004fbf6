/-
  A list of blocks that are known, with what each of them holds: what becomes of it behind calls, new blocks and stores elsewhere. No program in sight.
-/
import Derived.Test.YtahdgdoicpgcmaaDoorBlk
namespace Go.Proofs.YtahdgdoicpgcmaaDoor
open Go.ChangeShapes Go.WideShapes Go.ChangeAt Go.RowKit
set_option linter.unusedVariables false
set_option linter.unusedSimpArgs false

/-- The cells of block b from i on. -/
def CellsAt (W : World) (b : Nat) : Nat → List Value → Prop
  | _, [] => True
  | i, v :: r => W.cell? ⟨b, i, none⟩ = some v ∧ CellsAt W b (i + 1) r

def Facts (W : World) : List (Nat × List Value × TypeId) → Prop
  | [] => True
  | e :: r => CellsAt W e.1 0 e.2.1 ∧ Facts W r

def Blks (W : World) : List (Nat × List Value × TypeId) → Prop
  | [] => True
  | e :: r => Blk W e.1 e.2.1.toArray e.2.2 ∧ Blks W r

/-- None of them is block D. -/
def Off (D : Nat) : List (Nat × List Value × TypeId) → Prop
  | [] => True
  | e :: r => e.1 ≠ D ∧ Off D r

/-- The blocks of L are known in W; what lay there before is as it was. -/
def Kn (w : World) (L : List (Nat × List Value × TypeId)) (W : World) : Prop := Facts W L ∧ Blks W L ∧ Below w.heap.size w W

theorem cellsAt_of {W : World} {b : Nat} {t : TypeId} {cs : List Value} (h : Blk W b cs.toArray t) : ∀ (i : Nat) (r : List Value), cs.drop i = r → CellsAt W b i r
  | i, [], _ => trivial
  | i, v :: r, e => by
    have hd : cs[i]? = some v := by
      have := congrArg List.head? e
      rw [List.head?_drop] at this
      exact this
    refine ⟨?_, cellsAt_of h (i + 1) r ?_⟩
    · rw [h.cell i]; simpa using hd
    · rw [← List.drop_drop, e]; rfl

theorem facts_of {W : World} : ∀ {L : List (Nat × List Value × TypeId)}, Blks W L → Facts W L
  | [], _ => trivial
  | e :: r, h => ⟨cellsAt_of h.1 0 _ rfl, facts_of h.2⟩

theorem Kn.of {w W : World} {L : List (Nat × List Value × TypeId)} (h : Blks W L) (b : Below w.heap.size w W) : Kn w L W := ⟨facts_of h, h, b⟩

theorem Kn.nil (w : World) : Kn w [] w := Kn.of trivial (Below.refl _ _)

theorem Blks.map {W W' : World} (f : ∀ b cs t, Blk W b cs t → Blk W' b cs t) : ∀ {L : List (Nat × List Value × TypeId)}, Blks W L → Blks W' L
  | [], _ => trivial
  | e :: r, h => ⟨f _ _ _ h.1, Blks.map f h.2⟩

theorem Kn.below {w W w1 : World} {L : List (Nat × List Value × TypeId)} (k : Kn w L W) (hb : Below W.heap.size W w1) : Kn w L w1 :=
  Kn.of (Blks.map (fun _ _ _ h => h.below hb) k.2.1) (k.2.2.trans (hb.mono k.2.2.size))

theorem Kn.alloc {w W : World} {L : List (Nat × List Value × TypeId)} (k : Kn w L W) (o : Obj) : Kn w L (W.alloc o) :=
  Kn.of (Blks.map (fun _ _ _ h => h.alloc o) k.2.1) (k.2.2.alloc k.2.2.size o)

theorem Kn.drew {w W : World} {L : List (Nat × List Value × TypeId)} (k : Kn w L W) : Kn w L W.drew :=
  Kn.of (Blks.map (W := W) (W' := W.drew) (fun _ _ _ h => Blk.drew h) k.2.1) k.2.2.drew

/-- A new block, known too. -/
theorem Kn.push {w W : World} {L : List (Nat × List Value × TypeId)} (k : Kn w L W) {b : Nat} {cs : List Value} {t : TypeId} (e : b = W.heap.size) : Kn w ((b, cs, t) :: L) (W.alloc (.cells cs.toArray t)) :=
  Kn.of ⟨e ▸ Blk.new W _ _, Blks.map (fun _ _ _ h => h.alloc _) k.2.1⟩ (k.2.2.alloc k.2.2.size _)

/-- One that is known otherwise. -/
theorem Kn.cons {w W : World} {L : List (Nat × List Value × TypeId)} (k : Kn w L W) {b : Nat} {cs : List Value} {t : TypeId} (h : Blk W b cs.toArray t) : Kn w ((b, cs, t) :: L) W := Kn.of ⟨h, k.2.1⟩ k.2.2

theorem Kn.tail {w W : World} {L : List (Nat × List Value × TypeId)} {e : Nat × List Value × TypeId} (k : Kn w (e :: L) W) : Kn w L W := Kn.of k.2.1.2 k.2.2

theorem Blks.set {W : World} {D i : Nat} (u : Value) : ∀ {L : List (Nat × List Value × TypeId)}, Off D L → Blks W L → Blks (W.setCell ⟨D, i, none⟩ u) L
  | [], _, _ => trivial
  | e :: r, o, h => ⟨h.1.far o.1 _ _, Blks.set u o.2 h.2⟩

/-- A store elsewhere. -/
theorem Kn.set {w W : World} {L : List (Nat × List Value × TypeId)} (k : Kn w L W) {D : Nat} (o : Off D L) (hd : w.heap.size ≤ D) (i : Nat) (u : Value) : Kn w L (W.setCell ⟨D, i, none⟩ u) :=
  Kn.of (Blks.set u o k.2.1) (k.2.2.setCell hd u)

theorem Kn.far2 {w W : World} {L : List (Nat × List Value × TypeId)} (k : Kn w L W) {D : Nat} (o : Off D L) (hd : w.heap.size ≤ D) (x y : Value) : Kn w L ((W.setCell ⟨D, 0, none⟩ x).setCell ⟨D, 1, none⟩ y) := (k.set o hd 0 x).set o hd 1 y

theorem Kn.far3 {w W : World} {L : List (Nat × List Value × TypeId)} (k : Kn w L W) {D : Nat} (o : Off D L) (hd : w.heap.size ≤ D) (x y z : Value) : Kn w L (((W.setCell ⟨D, 0, none⟩ x).setCell ⟨D, 1, none⟩ y).setCell ⟨D, 2, none⟩ z) := (k.far2 o hd x y).set o hd 2 z

theorem Kn.far4 {w W : World} {L : List (Nat × List Value × TypeId)} (k : Kn w L W) {D : Nat} (o : Off D L) (hd : w.heap.size ≤ D) (x y z u : Value) : Kn w L ((((W.setCell ⟨D, 0, none⟩ x).setCell ⟨D, 1, none⟩ y).setCell ⟨D, 2, none⟩ z).setCell ⟨D, 3, none⟩ u) := (k.far3 o hd x y z).set o hd 3 u

/-- Each of them lies below. -/
def Lts (n : Nat) : List (Nat × List Value × TypeId) → Prop
  | [] => True
  | e :: r => e.1 < n ∧ Lts n r

theorem Blks.lts {W : World} : ∀ {L : List (Nat × List Value × TypeId)}, Blks W L → Lts W.heap.size L
  | [], _ => trivial
  | e :: r, h => ⟨h.1.lt, Blks.lts h.2⟩

theorem Kn.lts {w W : World} {L : List (Nat × List Value × TypeId)} (k : Kn w L W) : Lts W.heap.size L := k.2.1.lts

theorem Kn.bel {w W : World} {L : List (Nat × List Value × TypeId)} (k : Kn w L W) : Below w.heap.size w W := k.2.2

end Go.Proofs.YtahdgdoicpgcmaaDoor

namespace Go.Proofs.YtahdgdoicpgcmaaDoor
open Go.ChangeShapes Go.WideShapes Go.ChangeAt Go.RowKit
set_option linter.unusedVariables false
set_option linter.unusedSimpArgs false
end Go.Proofs.YtahdgdoicpgcmaaDoor

/-
  Texts CParts of the proof.
-/
import Derived.Test.YtgbpnekinbdadaaGreatDoorPQ1
import Derived.Test.YtgbpnekinbdadaaGreatDoorPQ29
import Derived.Test.YtgbpnekinbdadaaGreatDoorPQ32

namespace Go.Proofs.YtgbpnekinbdadaaGreatDoor
open Go.ChangeShapes Go.WideShapes Go.ChangeAt Go.RowKit
set_option linter.unusedVariables false
set_option linter.unusedSimpArgs false

/-- The cells of block b from i on. -/
def CellsAt (W : World) (b : Nat) : Nat → List Value → Prop
 | _, [] => True
 | i, v :: r => W.cell? ⟨b, i, none⟩ = some v ∧ CellsAt W b (i + 1) r

def Facts (W : World) : List (Nat × List Value × TypeId) → Prop
 | [] => True
 | e :: r => CellsAt W e.1 0 e.2.1 ∧ Facts W r

def Blks (W : World) : List (Nat × List Value × TypeId) → Prop
 | [] => True
 | e :: r => Blk W e.1 e.2.1.toArray e.2.2 ∧ Blks W r

/-- None of them is block D. -/
def Off (D : Nat) : List (Nat × List Value × TypeId) → Prop
 | [] => True
 | e :: r => e.1 ≠ D ∧ Off D r

/-- The blocks of L are known in W; what lay there before is as it was. -/
def Kn (w : World) (L : List (Nat × List Value × TypeId)) (W : World) : Prop := Facts W L ∧ Blks W L ∧ Below w.heap.size w W

theorem cellsAt_of {W : World} {b : Nat} {t : TypeId} {cs : List Value} (h : Blk W b cs.toArray t) : ∀ (i : Nat) (r : List Value), cs.drop i = r → CellsAt W b i r
 | i, [], _ => trivial
 | i, v :: r, e => by
  have hd : cs[i]? = some v := by
   have := congrArg List.head? e
   rw [List.head?_drop] at this
   exact this
  refine ⟨?_, cellsAt_of h (i + 1) r ?_⟩
  ·rw [h.cell i]; simpa using hd
  ·rw [← List.drop_drop, e]; rfl

theorem facts_of {W : World} : ∀ {L : List (Nat × List Value × TypeId)}, Blks W L → Facts W L
 | [], _ => trivial
 | e :: r, h => ⟨cellsAt_of h.1 0 _ rfl, facts_of h.2⟩

theorem Kn.of {w W : World} {L : List (Nat × List Value × TypeId)} (h : Blks W L) (b : Below w.heap.size w W) : Kn w L W := ⟨facts_of h, h, b⟩

theorem Kn.nil (w : World) : Kn w [] w := Kn.of trivial (Below.refl _ _)

theorem Blks.map {W W' : World} (f : ∀ b cs t, Blk W b cs t → Blk W' b cs t) : ∀ {L : List (Nat × List Value × TypeId)}, Blks W L → Blks W' L
 | [], _ => trivial
 | e :: r, h => ⟨f _ _ _ h.1, Blks.map f h.2⟩

theorem Kn.below {w W w1 : World} {L : List (Nat × List Value × TypeId)} (k : Kn w L W) (hb : Below W.heap.size W w1) : Kn w L w1 :=
 Kn.of (Blks.map (fun _ _ _ h => h.below hb) k.2.1) (k.2.2.trans (hb.mono k.2.2.size))

theorem Kn.alloc {w W : World} {L : List (Nat × List Value × TypeId)} (k : Kn w L W) (o : Obj) : Kn w L (W.alloc o) :=
 Kn.of (Blks.map (fun _ _ _ h => h.alloc o) k.2.1) (k.2.2.alloc k.2.2.size o)

theorem Kn.drew {w W : World} {L : List (Nat × List Value × TypeId)} (k : Kn w L W) : Kn w L W.drew :=
 Kn.of (Blks.map (W := W) (W' := W.drew) (fun _ _ _ h => Blk.drew h) k.2.1) k.2.2.drew

/-- A new block, known too. -/
theorem Kn.push {w W : World} {L : List (Nat × List Value × TypeId)} (k : Kn w L W) {b : Nat} {cs : List Value} {t : TypeId} (e : b = W.heap.size) : Kn w ((b, cs, t) :: L) (W.alloc (.cells cs.toArray t)) :=
 Kn.of ⟨e ▸ Blk.new W _ _, Blks.map (fun _ _ _ h => h.alloc _) k.2.1⟩ (k.2.2.alloc k.2.2.size _)

/-- One that is known otherwise. -/
theorem Kn.cons {w W : World} {L : List (Nat × List Value × TypeId)} (k : Kn w L W) {b : Nat} {cs : List Value} {t : TypeId} (h : Blk W b cs.toArray t) : Kn w ((b, cs, t) :: L) W := Kn.of ⟨h, k.2.1⟩ k.2.2

theorem Kn.tail {w W : World} {L : List (Nat × List Value × TypeId)} {e : Nat × List Value × TypeId} (k : Kn w (e :: L) W) : Kn w L W := Kn.of k.2.1.2 k.2.2

theorem Blks.set {W : World} {D i : Nat} (u : Value) : ∀ {L : List (Nat × List Value × TypeId)}, Off D L → Blks W L → Blks (W.setCell ⟨D, i, none⟩ u) L
 | [], _, _ => trivial
 | e :: r, o, h => ⟨h.1.far o.1 _ _, Blks.set u o.2 h.2⟩

/-- A store elsewhere. -/
theorem Kn.set {w W : World} {L : List (Nat × List Value × TypeId)} (k : Kn w L W) {D : Nat} (o : Off D L) (hd : w.heap.size ≤ D) (i : Nat) (u : Value) : Kn w L (W.setCell ⟨D, i, none⟩ u) :=
 Kn.of (Blks.set u o k.2.1) (k.2.2.setCell hd u)

theorem Kn.far2 {w W : World} {L : List (Nat × List Value × TypeId)} (k : Kn w L W) {D : Nat} (o : Off D L) (hd : w.heap.size ≤ D) (x y : Value) : Kn w L ((W.setCell ⟨D, 0, none⟩ x).setCell ⟨D, 1, none⟩ y) := (k.set o hd 0 x).set o hd 1 y

theorem Kn.far3 {w W : World} {L : List (Nat × List Value × TypeId)} (k : Kn w L W) {D : Nat} (o : Off D L) (hd : w.heap.size ≤ D) (x y z : Value) : Kn w L (((W.setCell ⟨D, 0, none⟩ x).setCell ⟨D, 1, none⟩ y).setCell ⟨D, 2, none⟩ z) := (k.far2 o hd x y).set o hd 2 z

theorem Kn.far4 {w W : World} {L : List (Nat × List Value × TypeId)} (k : Kn w L W) {D : Nat} (o : Off D L) (hd : w.heap.size ≤ D) (x y z u : Value) : Kn w L ((((W.setCell ⟨D, 0, none⟩ x).setCell ⟨D, 1, none⟩ y).setCell ⟨D, 2, none⟩ z).setCell ⟨D, 3, none⟩ u) := (k.far3 o hd x y z).set o hd 3 u

/-- Each of them lies below. -/
def Lts (n : Nat) : List (Nat × List Value × TypeId) → Prop
 | [] => True
 | e :: r => e.1 < n ∧ Lts n r

theorem Blks.lts {W : World} : ∀ {L : List (Nat × List Value × TypeId)}, Blks W L → Lts W.heap.size L
 | [], _ => trivial
 | e :: r, h => ⟨h.1.lt, Blks.lts h.2⟩

theorem Kn.lts {w W : World} {L : List (Nat × List Value × TypeId)} (k : Kn w L W) : Lts W.heap.size L := k.2.1.lts

theorem Kn.bel {w W : World} {L : List (Nat × List Value × TypeId)} (k : Kn w L W) : Below w.heap.size w W := k.2.2



set_option maxHeartbeats 800000 in
theorem rcuts_c {v : Bool} {h l b k : Int} {a : Nat} (ha : IsNum h l a) (w : World) :
  Calls Tryz.prog 131 #[pv v h l b, .int .i64 k] w fun e w' => e = .returned (.bool (cutB v a b k)) ∧ Below w.heap.size w w' := by
 obtain ⟨W, hW⟩ : ∃ W, widthA v = W := ⟨_, rfl⟩
 have R := fun w' => rpright_c (v := v) (b := b) ha w'
 have D := fun w' => rwidth_c v W hW h l w'
 have hf : cutB v a b k = (okP v a b && decide (b ≤ k) && decide (k ≤ W)) := by rw [← hW]; rfl
 obtain ⟨ok, hok⟩ : ∃ ok, okP v a b = ok := ⟨_, rfl⟩
 rw [hok] at R hf
 clear ha hok hW
 cases ok
 ·have f : Hid (cutB v a b k = false) := by show _ = _; rw [hf]; rfl
  clear hf D
  go_enter Tryz.func131, Tryz.ntmps131
  go_wp2_with fail
  refine (R _).mono ?_
  rintro e w1 ⟨rfl, hb1⟩
  obtain ⟨hc1, hf1⟩ := bcell hb1
  have hz_w1_0 : w.heap.size < w1.heap.size   := (by have := hb1.size; first | omega | (simp at this; omega))
  clear R
  go_wp2
  go_ret
  exact ⟨by rw [f.out]; rfl, by repeat (first | with_reducible exact Below.refl _ _ | with_reducible refine Below.drew ?_ | with_reducible refine Below.alloc ?_ (by first | omega | (simp <;> omega)) _ | with_reducible refine Below.setCell ?_ (by first | omega | (simp <;> omega)) _ | with_reducible refine Below.trans ?_ (Below.mono hb1 (by first | omega | (simp <;> omega))))⟩
 ·by_cases h0 : b ≤ k
  ·by_cases h1 : k ≤ W
   ·have f : Hid (cutB v a b k = true) := by show _ = _; rw [hf, decide_eq_true h0, decide_eq_true h1]; rfl
    clear hf
    go_enter Tryz.func131, Tryz.ntmps131
    go_wp2_with fail
    refine (R _).mono ?_
    rintro e w1 ⟨rfl, hb1⟩
    obtain ⟨hc1, hf1⟩ := bcell hb1
    have hz_w1_0 : w.heap.size < w1.heap.size   := (by have := hb1.size; first | omega | (simp at this; omega))
    clear R
    go_wp2_with fail
    refine (D _).mono ?_
    rintro e w2 ⟨rfl, hb2⟩
    clear D
    go_wp2
    go_ret
    exact ⟨by rw [f.out]; rfl, by repeat (first | with_reducible exact Below.refl _ _ | with_reducible refine Below.drew ?_ | with_reducible refine Below.alloc ?_ (by first | omega | (simp <;> omega)) _ | with_reducible refine Below.setCell ?_ (by first | omega | (simp <;> omega)) _ | with_reducible refine Below.trans ?_ (Below.mono hb2 (by first | omega | (simp <;> omega))) | with_reducible refine Below.trans ?_ (Below.mono hb1 (by first | omega | (simp <;> omega))))⟩
   ·have f : Hid (cutB v a b k = false) := by show _ = _; rw [hf, decide_eq_false h1]; simp
    have h1' : decide (k ≤ W) = false := decide_eq_false h1
    clear hf h1
    go_enter Tryz.func131, Tryz.ntmps131
    go_wp2_with fail
    refine (R _).mono ?_
    rintro e w1 ⟨rfl, hb1⟩
    obtain ⟨hc1, hf1⟩ := bcell hb1
    have hz_w1_0 : w.heap.size < w1.heap.size   := (by have := hb1.size; first | omega | (simp at this; omega))
    clear R
    go_wp2_with fail
    refine (D _).mono ?_
    rintro e w2 ⟨rfl, hb2⟩
    clear D
    go_wp2
    go_ret
    exact ⟨by rw [f.out]; rfl, by repeat (first | with_reducible exact Below.refl _ _ | with_reducible refine Below.drew ?_ | with_reducible refine Below.alloc ?_ (by first | omega | (simp <;> omega)) _ | with_reducible refine Below.setCell ?_ (by first | omega | (simp <;> omega)) _ | with_reducible refine Below.trans ?_ (Below.mono hb2 (by first | omega | (simp <;> omega))) | with_reducible refine Below.trans ?_ (Below.mono hb1 (by first | omega | (simp <;> omega))))⟩
  ·have f : Hid (cutB v a b k = false) := by show _ = _; rw [hf, decide_eq_false h0]; rfl
   have h0' : decide (b ≤ k) = false := decide_eq_false h0
   clear hf h0 D
   go_enter Tryz.func131, Tryz.ntmps131
   go_wp2_with fail
   refine (R _).mono ?_
   rintro e w1 ⟨rfl, hb1⟩
   obtain ⟨hc1, hf1⟩ := bcell hb1
   have hz_w1_0 : w.heap.size < w1.heap.size   := (by have := hb1.size; first | omega | (simp at this; omega))
   clear R
   go_wp2
   go_ret
   exact ⟨by rw [f.out]; rfl, by repeat (first | with_reducible exact Below.refl _ _ | with_reducible refine Below.drew ?_ | with_reducible refine Below.alloc ?_ (by first | omega | (simp <;> omega)) _ | with_reducible refine Below.setCell ?_ (by first | omega | (simp <;> omega)) _ | with_reducible refine Below.trans ?_ (Below.mono hb1 (by first | omega | (simp <;> omega))))⟩

theorem num_cmp {ah al bh bl m : Int} {a b : Nat} (ha : IsNum ah al a) (hb : IsNum bh bl b) (hm : m = cmpI (a : Int) (b : Int)) (w : World) :
  Calls Tryz.prog 33 #[nv ah al, nv bh bl] w fun e w' => e = .returned (.int .i64 m) ∧ Below w.heap.size w w' := by
 refine (cmp_c ha hb w).mono ?_
 rintro e w1 ⟨q, rfl, hq, hb'⟩
 exact ⟨by rw [hq, hm], hb'⟩

end Go.Proofs.YtgbpnekinbdadaaGreatDoor

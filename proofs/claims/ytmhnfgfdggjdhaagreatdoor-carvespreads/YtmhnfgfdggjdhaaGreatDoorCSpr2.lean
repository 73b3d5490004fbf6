/-
  Plain facts on the prefixes of a spread, and the memory that holds them.
-/
import Derived.Test.YtmhnfgfdggjdhaaGreatDoorCSpr
import Derived.Test.YtmhnfgfdggjdhaaGreatDoorRef3d
namespace Go.Proofs.YtmhnfgfdggjdhaaGreatDoor
open Go.ChangeShapes Go.WideShapes Go.ChangeAt Go.RowKit
set_option linter.unusedVariables false
set_option linter.unusedSimpArgs false

/-- Block g holds these cells. -/
def Rows4 (wx : World) (g : Nat) (xs : List Value) : Prop := g < wx.heap.size ∧ ∀ (j : Nat) (u : Value), xs[j]? = some u → wx.cell? ⟨g, j, none⟩ = some u

theorem Rows4.below {W w1 : World} {g : Nat} {xs : List Value} (x : Rows4 W g xs) (hb : Below W.heap.size W w1) : Rows4 w1 g xs :=
  ⟨Nat.lt_of_lt_of_le x.1 hb.size, fun j u h => ((bcell hb).1 g j x.1).trans (x.2 j u h)⟩

theorem Rows4.alloc {W : World} {g : Nat} {xs : List Value} (x : Rows4 W g xs) (o : Obj) : Rows4 (W.alloc o) g xs :=
  ⟨by have := x.1; simp; omega, fun j u h => (World.cell?_alloc_lt _ _ _ x.1).trans (x.2 j u h)⟩

theorem Rows4.set {W : World} {g D : Nat} {xs : List Value} (x : Rows4 W g xs) (hne : g ≠ D) (i : Nat) (u : Value) : Rows4 (W.setCell ⟨D, i, none⟩ u) g xs :=
  ⟨by simpa [World.setCell] using x.1, fun j q h => by rw [World.cell?_of_block (w := W) (Below.heap_setCell _ _ _ _ hne)]; exact x.2 j q h⟩

/-- Four cells of block g from o on. -/
def C4 (wx : World) (g o : Nat) (c0 c1 c2 c3 : Value) : Prop := wx.cell? ⟨g, o, none⟩ = some c0 ∧ wx.cell? ⟨g, o + 1, none⟩ = some c1 ∧ wx.cell? ⟨g, o + 2, none⟩ = some c2 ∧ wx.cell? ⟨g, o + 3, none⟩ = some c3

def X4 (xs : List Value) (o : Nat) (c0 c1 c2 c3 : Value) : Prop := xs[o]? = some c0 ∧ xs[o + 1]? = some c1 ∧ xs[o + 2]? = some c2 ∧ xs[o + 3]? = some c3

theorem C4.of {wx : World} {g o : Nat} {xs : List Value} {c0 c1 c2 c3 : Value} (x : Rows4 wx g xs) (h : X4 xs o c0 c1 c2 c3) : C4 wx g o c0 c1 c2 c3 := ⟨x.2 _ _ h.1, x.2 _ _ h.2.1, x.2 _ _ h.2.2.1, x.2 _ _ h.2.2.2⟩

/-- Known blocks, and two prefixes of the row. -/
def SQ (w : World) (L : List (Nat × List Value × TypeId)) (g : Nat) (xs : List Value) (o p : Nat) (c0 c1 c2 c3 d0 d1 d2 d3 : Value) (wx : World) : Prop :=
  (Facts wx L ∧ C4 wx g o c0 c1 c2 c3 ∧ C4 wx g p d0 d1 d2 d3) ∧ Kn w L wx ∧ Rows4 wx g xs ∧ X4 xs o c0 c1 c2 c3 ∧ X4 xs p d0 d1 d2 d3

theorem SQ.of {w : World} {L : List (Nat × List Value × TypeId)} {g : Nat} {xs : List Value} {o p : Nat} {c0 c1 c2 c3 d0 d1 d2 d3 : Value} {wx : World} (k : Kn w L wx) (r : Rows4 wx g xs) (x : X4 xs o c0 c1 c2 c3) (y : X4 xs p d0 d1 d2 d3) : SQ w L g xs o p c0 c1 c2 c3 d0 d1 d2 d3 wx :=
  ⟨⟨k.1, C4.of r x, C4.of r y⟩, k, r, x, y⟩

theorem SQ.drew {w : World} {L : List (Nat × List Value × TypeId)} {g : Nat} {xs : List Value} {o p : Nat} {c0 c1 c2 c3 d0 d1 d2 d3 : Value} {wx : World} (s : SQ w L g xs o p c0 c1 c2 c3 d0 d1 d2 d3 wx) : SQ w L g xs o p c0 c1 c2 c3 d0 d1 d2 d3 wx.drew := SQ.of s.2.1.drew ⟨s.2.2.1.1, s.2.2.1.2⟩ s.2.2.2.1 s.2.2.2.2

theorem SQ.below {w : World} {L : List (Nat × List Value × TypeId)} {g : Nat} {xs : List Value} {o p : Nat} {c0 c1 c2 c3 d0 d1 d2 d3 : Value} {wx w1 : World} (s : SQ w L g xs o p c0 c1 c2 c3 d0 d1 d2 d3 wx) (hb : Below wx.heap.size wx w1) : SQ w L g xs o p c0 c1 c2 c3 d0 d1 d2 d3 w1 := SQ.of (s.2.1.below hb) (s.2.2.1.below hb) s.2.2.2.1 s.2.2.2.2

theorem SQ.alloc {w : World} {L : List (Nat × List Value × TypeId)} {g : Nat} {xs : List Value} {o p : Nat} {c0 c1 c2 c3 d0 d1 d2 d3 : Value} {wx : World} (s : SQ w L g xs o p c0 c1 c2 c3 d0 d1 d2 d3 wx) (ob : Obj) : SQ w L g xs o p c0 c1 c2 c3 d0 d1 d2 d3 (wx.alloc ob) := SQ.of (s.2.1.alloc ob) (s.2.2.1.alloc ob) s.2.2.2.1 s.2.2.2.2

theorem SQ.far4 {w : World} {L : List (Nat × List Value × TypeId)} {g : Nat} {xs : List Value} {o p : Nat} {c0 c1 c2 c3 d0 d1 d2 d3 : Value} {wx : World} (s : SQ w L g xs o p c0 c1 c2 c3 d0 d1 d2 d3 wx) {D : Nat} (hd : Lts D L ∧ g < D ∧ w.heap.size ≤ D) (x y z u : Value) : SQ w L g xs o p c0 c1 c2 c3 d0 d1 d2 d3 ((((wx.setCell ⟨D, 0, none⟩ x).setCell ⟨D, 1, none⟩ y).setCell ⟨D, 2, none⟩ z).setCell ⟨D, 3, none⟩ u) := by
  have off : ∀ {L : List (Nat × List Value × TypeId)}, Lts D L → Off D L := by
    intro L
    induction L with
    | nil => exact fun _ => trivial
    | cons e r ih => exact fun h => ⟨Nat.ne_of_lt h.1, ih h.2⟩
  have hne : g ≠ D := Nat.ne_of_lt hd.2.1
  exact SQ.of (s.2.1.far4 (off hd.1) hd.2.2 _ _ _ _) ((((s.2.2.1.set hne 0 x).set hne 1 y).set hne 2 z).set hne 3 u) s.2.2.2.1 s.2.2.2.2

theorem cellsL_at (v : Bool) (W : Nat) : ∀ (L : List (Nat × Nat)) (t : Nat) (h : t < L.length), X4 (cellsL v W L) (t * 4) (.bool v) (.int .u64 (((L[t]).1 / 18446744073709551616 : Nat) : Int)) (.int .u64 (((L[t]).1 % 18446744073709551616 : Nat) : Int)) (.int .i64 ((W - (L[t]).2 : Nat) : Int))
  | [], t, h => absurd h (by simp)
  | p :: r, 0, h => ⟨rfl, rfl, rfl, rfl⟩
  | p :: r, t + 1, h => by
    obtain ⟨h0, h1, h2, h3⟩ := cellsL_at v W r t (by simpa using h)
    have e : ∀ j, (cellsL v W (p :: r))[(t + 1) * 4 + j]? = (cellsL v W r)[t * 4 + j]? := fun j => by
      show (cellsP v W p ++ cellsL v W r)[(t + 1) * 4 + j]? = _
      rw [List.getElem?_append_right (by simp [cellsP]; omega)]
      congr 1
      simp [cellsP]; omega
    exact ⟨(e 0).trans h0, (e 1).trans h1, (e 2).trans h2, (e 3).trans h3⟩

/-- One of a spread's prefixes. -/
structure Ent (v : Bool) (W a z : Nat) (p : Nat × Nat) (eh el eb : Int) : Prop where
  num : IsNum eh el p.1
  bits : eb = ((W - p.2 : Nat) : Int)
  ok : okP v p.1 eb = true
  behind : behindP v eb = p.2
  is : SpIs a z W 0 p

theorem ent_of {v : Bool} {W a z : Nat} {p : Nat × Nat} (hW : widthA v = (W : Nat)) (h : SpIs a z W 0 p) : Ent v W a z p ((p.1 / 18446744073709551616 : Nat) : Int) ((p.1 % 18446744073709551616 : Nat) : Int) ((W - p.2 : Nat) : Int) := by
  obtain ⟨h1, h2, h3, h4, h5, h6, h7⟩ := h
  have hW2 := width_le v
  have pw := pow_pos2 p.2
  have be : behindP v ((W - p.2 : Nat) : Int) = p.2 := by unfold behindP; omega
  have lt : p.1 < 2 ^ W := by omega
  have p128 : 2 ^ W ≤ 2 ^ 128 := Nat.pow_le_pow_right (by decide) (by omega)
  rw [show (2 : Nat) ^ 128 = 340282366920938463463374607431768211456 by decide] at p128
  have okA1 : okA v p.1 = true := by
    cases v
    · obtain rfl : W = 32 := by have : widthA false = 32 := rfl; omega
      simpa [okA] using lt
    · rfl
  refine ⟨⟨by omega, by omega, by omega, by omega, by omega⟩, rfl, ?_, be, ⟨h1, h2, h3, h4, h5, h6, h7⟩⟩
  unfold okP fitsB
  rw [be, okA1, decide_eq_true h2, decide_eq_true (by omega), decide_eq_true (by omega)]
  rfl

/-- Two neighbours aren't halves of one. -/
theorem spr_pair {a z W : Nat} {p q : Nat × Nat} (hp : SpIs a z W 0 p) (hq : SpIs a z W 0 q) (nx : q.1 = p.1 + 2 ^ p.2) (e : p.2 = q.2) : ¬ q.1 / 2 ^ (q.2 + 1) * 2 ^ (q.2 + 1) = p.1 ∧ q.2 < W := by
  obtain ⟨p1, p2, p3, p4, p5, p6, p7⟩ := hp
  obtain ⟨q1, q2, q3, q4, q5, q6, q7⟩ := hq
  have pw := pow_pos2 p.2
  have e2 : 2 ^ (q.2 + 1) = 2 ^ p.2 + 2 ^ p.2 := by rw [← e, Nat.pow_succ]; omega
  rcases q7 with c | ⟨c1, c2⟩
  · rw [e, c] at nx pw; rw [c] at q4
    omega
  · refine ⟨fun h => c2 ?_, c1⟩
    rw [h, e2]
    rw [← e] at q6
    omega
end Go.Proofs.YtmhnfgfdggjdhaaGreatDoor

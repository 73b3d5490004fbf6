/-
  The contracts of num once more, with the result handed in: whatever two words are the number, just these are returned.
-/
import Derived.Test.YtgbpnekinbdadaaDoorNum3
namespace Go.Proofs.YtgbpnekinbdadaaDoor
open Go.ChangeShapes Go.WideShapes Go.ChangeAt Go.RowKit
set_option linter.unusedVariables false
set_option linter.unusedSimpArgs false

/-- Block b holds the two words h, l. -/
def Two (w : World) (b : Nat) (h l : Int) : Prop := w.cell? ⟨b, 0, none⟩ = some (.int .u64 h) ∧ w.cell? ⟨b, 1, none⟩ = some (.int .u64 l) ∧ b < w.heap.size
theorem Two.below {W w1 : World} {b : Nat} {h l : Int} (x : Two W b h l) (hb : Below W.heap.size W w1) : Two w1 b h l :=
  ⟨(hb.cell (p := ⟨b, 0, none⟩) x.2.2).trans x.1, (hb.cell (p := ⟨b, 1, none⟩) x.2.2).trans x.2.1, Nat.lt_of_lt_of_le x.2.2 hb.size⟩
theorem Two.alloc {W : World} {b : Nat} {h l : Int} (x : Two W b h l) (o : Obj) : Two (W.alloc o) b h l :=
  ⟨(World.cell?_alloc_lt _ _ _ x.2.2).trans x.1, (World.cell?_alloc_lt _ _ _ x.2.2).trans x.2.1, by have := x.2.2; simp; omega⟩
theorem Two.drew {W : World} {b : Nat} {h l : Int} (x : Two W b h l) : Two W.drew b h l := x
theorem Two.new (W : World) (h l : Int) (t : TypeId) : Two (W.alloc (.cells #[.int .u64 h, .int .u64 l] t)) W.heap.size h l :=
  ⟨by simp, by simp, by simp⟩

theorem Two.via {W W0 w1 : World} {b : Nat} {h l : Int} (hb : Below W.heap.size W w1) (x : Two W0 b h l) (e : W.heap = W0.heap) : Two w1 b h l := by
  refine Two.below (W := W) ?_ hb
  obtain ⟨x0, x1, x2⟩ := x
  refine ⟨?_, ?_, ?_⟩
  · rw [← x0]; simp only [World.cell?, e]
  · rw [← x1]; simp only [World.cell?, e]
  · rw [e]; exact x2
theorem Below.via {w W W0 w1 : World} {B : Nat} (hb : Below W.heap.size W w1) (h : Below B w W0) (hB : B ≤ w.heap.size) (e : W.heap = W0.heap) (e1 : W.os = W0.os) (e2 : W.tape = W0.tape) (e3 : W.output = W0.output) : Below B w w1 := by
  have h' : Below B w W := ⟨e1.trans h.os, e2.trans h.tape, e3.trans h.output, by rw [e]; exact h.size, by rw [e]; exact h.block⟩
  exact h'.trans (hb.mono (Nat.le_trans hB h'.size))

theorem Two.put {w : World} {b : Nat} {h l : Int} (c0 : (w.cell? ⟨b, 0, none⟩).isSome = true) (c1 : (w.cell? ⟨b, 1, none⟩).isSome = true) (hb : b < w.heap.size) :
    Two ((w.setCell ⟨b, 0, none⟩ (.int .u64 h)).setCell ⟨b, 1, none⟩ (.int .u64 l)) b h l := by
  refine ⟨?_, ?_, by simpa [World.setCell] using hb⟩
  · rw [World.cell?_setCell_other _ _ _ _ (by simp), World.cell?_setCell_same' _ _ _ c0]
  · rw [World.cell?_setCell_same' _ _ _ (by rw [World.cell?_setCell_other _ _ _ _ (by simp)]; exact c1)]
theorem Two.far {w : World} {b c : Nat} {h l : Int} {u v : Value} (x : Two w b h l) (hbc : b ≠ c) : Two ((w.setCell ⟨c, 0, none⟩ u).setCell ⟨c, 1, none⟩ v) b h l := by
  obtain ⟨x0, x1, x2⟩ := x
  refine ⟨?_, ?_, by simpa [World.setCell] using x2⟩
  · rw [World.cell?_setCell_other _ _ _ _ (by simp [Ne.symm hbc]), World.cell?_setCell_other _ _ _ _ (by simp [Ne.symm hbc]), x0]
  · rw [World.cell?_setCell_other _ _ _ _ (by simp [Ne.symm hbc]), World.cell?_setCell_other _ _ _ _ (by simp [Ne.symm hbc]), x1]

/-- What a call leaves of a block with two words, and of what was below. -/
theorem keepS {w W w1 : World} {b B : Nat} {h l : Int} (hb : Below W.heap.size W w1) (hB : B ≤ w.heap.size)
    (s : W.cell? ⟨b, 0, none⟩ = some (.int .u64 h) ∧ W.cell? ⟨b, 1, none⟩ = some (.int .u64 l) ∧ b < W.heap.size ∧ Below B w W) :
    w1.cell? ⟨b, 0, none⟩ = some (.int .u64 h) ∧ w1.cell? ⟨b, 1, none⟩ = some (.int .u64 l) ∧ b < w1.heap.size ∧ Below B w w1 :=
  ⟨(hb.cell (p := ⟨b, 0, none⟩) s.2.2.1).trans s.1, (hb.cell (p := ⟨b, 1, none⟩) s.2.2.1).trans s.2.1, Nat.lt_of_lt_of_le s.2.2.1 hb.size, s.2.2.2.trans (hb.mono (Nat.le_trans hB s.2.2.2.size))⟩

theorem IsNum.ex {n : Nat} (h : n < 340282366920938463463374607431768211456) : ∃ a b : Int, IsNum a b n :=
  ⟨((n / 18446744073709551616 : Nat) : Int), ((n % 18446744073709551616 : Nat) : Int), (IsNum.ofNat (by omega) (by omega)).cast (by omega)⟩

theorem add_is {ah al bh bl h l : Int} {a b : Nat} (ha : IsNum ah al a) (hb : IsNum bh bl b) (hr : IsNum h l ((a + b) % 340282366920938463463374607431768211456)) (w : World) :
    Calls Tryd.prog 62 #[nv ah al, nv bh bl] w fun e w' => e = .returned (.tuple #[nv h l, .bool (decide (a + b < 340282366920938463463374607431768211456))]) ∧ Below w.heap.size w w' := by
  refine (add_c ha hb w).mono ?_
  rintro e w' ⟨h', l', rfl, hn, hb⟩
  obtain ⟨rfl, rfl⟩ := hn.uniq hr
  exact ⟨rfl, hb⟩

theorem not_is {ah al h l : Int} {a : Nat} (ha : IsNum ah al a) (hr : IsNum h l (340282366920938463463374607431768211455 - a)) (w : World) :
    Calls Tryd.prog 84 #[nv ah al] w fun e w' => e = .returned (nv h l) ∧ Below w.heap.size w w' := by
  refine (not_c ha w).mono ?_
  rintro e w' ⟨h', l', rfl, hn, hb⟩
  obtain ⟨rfl, rfl⟩ := hn.uniq hr
  exact ⟨rfl, hb⟩

theorem shl_is {ah al k h l : Int} {a : Nat} (ha : IsNum ah al a) (k0 : 0 ≤ k) (hr : IsNum h l (a * 2 ^ k.toNat % 340282366920938463463374607431768211456)) (w : World) :
    Calls Tryd.prog 49 #[nv ah al, .int .i64 k] w fun e w' => e = .returned (nv h l) ∧ Below w.heap.size w w' := by
  refine (shl_c ha k0 w).mono ?_
  rintro e w' ⟨h', l', rfl, hn, hb⟩
  obtain ⟨rfl, rfl⟩ := hn.uniq hr
  exact ⟨rfl, hb⟩

theorem shr_is {ah al k h l : Int} {a : Nat} (ha : IsNum ah al a) (k0 : 0 ≤ k) (k1 : k < 128) (hr : IsNum h l (a / 2 ^ k.toNat)) (w : World) :
    Calls Tryd.prog 69 #[nv ah al, .int .i64 k] w fun e w' => e = .returned (nv h l) ∧ Below w.heap.size w w' := by
  refine (shr_w ha k0 k1 w).mono ?_
  rintro e w' ⟨h', l', rfl, hn, hb⟩
  obtain ⟨rfl, rfl⟩ := hn.uniq hr
  exact ⟨rfl, hb⟩

theorem len_is {ah al n : Int} {a : Nat} (ha : IsNum ah al a) (hn : n = (Go.bitLen a : Nat)) (w : World) :
    Calls Tryd.prog 36 #[nv ah al] w fun e w' => e = .returned (.int .i64 n) ∧ Below w.heap.size w w' := by
  refine (len_c ha w).mono ?_
  rintro e w' ⟨n', rfl, rfl, hb⟩
  exact ⟨by rw [hn], hb⟩

end Go.Proofs.YtgbpnekinbdadaaDoor

/-
  Texts Ref3e of the proof.
-/
import Derived.Deep.DeepCutAuto
import Derived.Test.YtighdocmncbdnaaGreatDoorQOn22
import Derived.Test.YtighdocmncbdnaaGreatDoorQOn36

namespace Go.Proofs.YtighdocmncbdnaaGreatDoor
open Go.ChangeShapes Go.WideShapes Go.ChangeAt Go.RowKit
set_option linter.unusedVariables false
set_option linter.unusedSimpArgs false

/-- Two cells that are read. -/
def AL2 (x y o : Nat) (q r : Int) (wx : World) : Prop := wx.cell? ⟨x, o, none⟩ = some (.int .i64 q) ∧ wx.cell? ⟨y, o, none⟩ = some (.int .i64 r)

theorem AL2.drew {x y o : Nat} {q r : Int} {wx : World} (s : AL2 x y o q r wx) : AL2 x y o q r wx.drew := s

/-- A prefix's block and an address's, that are read. -/
def PA (B A : Nat) (v : Bool) (h l b : Int) (u : Bool) (i m : Int) (wx : World) : Prop :=
  (wx.cell? ⟨B, 0, none⟩ = some (.bool v) ∧ wx.cell? ⟨B, 1, none⟩ = some (.int .u64 h) ∧ wx.cell? ⟨B, 2, none⟩ = some (.int .u64 l) ∧ wx.cell? ⟨B, 3, none⟩ = some (.int .i64 b) ∧ wx.cell? ⟨A, 0, none⟩ = some (.bool u) ∧ wx.cell? ⟨A, 1, none⟩ = some (.int .u64 i) ∧ wx.cell? ⟨A, 2, none⟩ = some (.int .u64 m)) ∧ Blk wx B #[.bool v, .int .u64 h, .int .u64 l, .int .i64 b] 28 ∧ Blk wx A #[.bool u, .int .u64 i, .int .u64 m] 26

theorem PA.of {B A : Nat} {v : Bool} {h l b : Int} {u : Bool} {i m : Int} {wx : World} (x : Blk wx B #[.bool v, .int .u64 h, .int .u64 l, .int .i64 b] 28) (y : Blk wx A #[.bool u, .int .u64 i, .int .u64 m] 26) : PA B A v h l b u i m wx :=
  ⟨⟨x.cell 0, x.cell 1, x.cell 2, x.cell 3, y.cell 0, y.cell 1, y.cell 2⟩, x, y⟩

theorem PA.drew {B A : Nat} {v : Bool} {h l b : Int} {u : Bool} {i m : Int} {wx : World} (s : PA B A v h l b u i m wx) : PA B A v h l b u i m wx.drew := s

theorem PA.below {B A : Nat} {v : Bool} {h l b : Int} {u : Bool} {i m : Int} {wx w1 : World} (s : PA B A v h l b u i m wx) (hb : Below wx.heap.size wx w1) : PA B A v h l b u i m w1 := PA.of (s.2.1.below hb) (s.2.2.below hb)

theorem PA.start (w : World) (v : Bool) (h l b : Int) (u : Bool) (i m : Int) : PA w.heap.size (w.heap.size + 1) v h l b u i m ((w.alloc (.cells #[.bool v, .int .u64 h, .int .u64 l, .int .i64 b] 28)).alloc (.cells #[.bool u, .int .u64 i, .int .u64 m] 26)) ∧ Below w.heap.size w ((w.alloc (.cells #[.bool v, .int .u64 h, .int .u64 l, .int .i64 b] 28)).alloc (.cells #[.bool u, .int .u64 i, .int .u64 m] 26)) :=
  ⟨PA.of ((Blk.new _ _ _).alloc _) (by simpa using Blk.new (w.alloc (.cells #[.bool v, .int .u64 h, .int .u64 l, .int .i64 b] 28)) #[.bool u, .int .u64 i, .int .u64 m] 26), by repeat (first | with_reducible exact Below.refl _ _ | with_reducible refine Below.drew ?_ | with_reducible refine Below.alloc ?_ (by first | omega | (simp <;> omega)) _ | with_reducible refine Below.setCell ?_ (by first | omega | (simp <;> omega)) _)⟩

end Go.Proofs.YtighdocmncbdnaaGreatDoor

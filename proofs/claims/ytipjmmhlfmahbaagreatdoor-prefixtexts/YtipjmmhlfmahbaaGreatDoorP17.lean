/-
  Texts AddrD of the proof.
-/
import Derived.Deep.DeepCutAuto
import Derived.Laws.BytesArg
import Derived.Test.YtipjmmhlfmahbaaGreatDoorP9

namespace Go.Proofs.YtipjmmhlfmahbaaGreatDoor
open Go.ChangeShapes Go.WideShapes Go.ChangeAt Go.RowKit
set_option linter.unusedVariables false
set_option linter.unusedSimpArgs false

theorem own_below {w w' : World} {B e size n : Nat} {v : Value} {xs : List Value} (h : w.ownsRow B e size v n xs) (hb : Below w.heap.size w w') : w'.ownsRow B e size v n xs := by
  refine ⟨h.1, ?_⟩
  rcases h.2 with ⟨rfl, h0⟩ | ⟨g, cap, cur, rfl, hg, hh, r⟩
  · exact Or.inl ⟨rfl, h0⟩
  · exact Or.inr ⟨g, cap, cur, rfl, hg, (hb.block g (Array.getElem?_eq_some_iff.1 hh).1).trans hh, r⟩

/-- Behind an append to a row of one's own, what lay below is as it was. -/
theorem below_grown {B : Nat} {w wr w' : World} {v : Value} {k e size : Nat} {xs : List Value} {o : Obj} (hb : Below B w wr) (hB : B ≤ wr.heap.size)
    (hown : wr.ownsRow B e size v k xs) (hg : (wr.alloc o).grownBy w' v.ownBlock) : Below B w w' := by
  refine Below.grown (hb.alloc hB o) hg (by simp; omega) (fun j hj => ?_)
  exact (hown.lt j hj).1

/-- The first k of the pieces of s bits of a number of W bits, the highest first. -/
def topP (a W s : Nat) : Nat → List Nat
  | 0 => []
  | k + 1 => topP a W s k ++ [a / 2 ^ (W - s * (k + 1)) % 2 ^ s]

theorem topP_length (a W s : Nat) : ∀ k, (topP a W s k).length = k
  | 0 => rfl
  | k + 1 => by simp [topP, topP_length a W s k]

/-- Numbers as a string's bytes. -/
def strP (l : List Nat) : ByteArray := strOfNums (l.map fun n : Nat => (n : Int))

theorem infoU8 : (Tryz.prog.info? 5).map (fun i => (i.zero, i.size, i.bytes)) = some (some (.int .u8 0), 1, 1) := by kernel_rfl

theorem piece_lt (x s : Nat) (hs : s ≤ 16) : x % 2 ^ s < 65536 := by
  have := Nat.mod_lt x (pow_pos2 s)
  have p : 2 ^ s ≤ 2 ^ 16 := Nat.pow_le_pow_right (by decide) hs
  rw [show (2 : Nat) ^ 16 = 65536 by decide] at p
  omega

end Go.Proofs.YtipjmmhlfmahbaaGreatDoor

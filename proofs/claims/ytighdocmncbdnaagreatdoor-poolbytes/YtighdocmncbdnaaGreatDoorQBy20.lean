/-
  Texts Nests, CarveM of the proof.
-/
import Derived.Deep.DeepCutAuto
import Derived.Test.YtighdocmncbdnaaGreatDoorQBy8
import Derived.Test.YtighdocmncbdnaaGreatDoorQBy19
import Derived.Test.YtighdocmncbdnaaGreatDoorQBy2

namespace Go.Proofs.YtighdocmncbdnaaGreatDoor
open Go.ChangeShapes Go.WideShapes Go.ChangeAt Go.RowKit
set_option linter.unusedVariables false
set_option linter.unusedSimpArgs false

/-- What a law of two prefixes and an address keeps. -/
def NK (w : World) (v : Bool) (ph pl b : Int) (u : Bool) (qh ql c : Int) (s : Bool) (ah al : Int) (wr : World) : Prop :=
  Blk wr w.heap.size #[.bool v, .int .u64 ph, .int .u64 pl, .int .i64 b] 28 ∧ Blk wr (w.heap.size + 1) #[.bool u, .int .u64 qh, .int .u64 ql, .int .i64 c] 28 ∧ Blk wr (w.heap.size + 2) #[.bool s, .int .u64 ah, .int .u64 al] 26 ∧ Below w.heap.size w wr

theorem NK.below {w W w1 : World} {v : Bool} {ph pl b : Int} {u : Bool} {qh ql c : Int} {s : Bool} {ah al : Int} (k : NK w v ph pl b u qh ql c s ah al W) (hb : Below W.heap.size W w1) : NK w v ph pl b u qh ql c s ah al w1 := ⟨k.1.below hb, k.2.1.below hb, k.2.2.1.below hb, k.2.2.2.trans (hb.mono k.2.2.2.size)⟩

theorem NK.cells {w W : World} {v : Bool} {ph pl b : Int} {u : Bool} {qh ql c : Int} {s : Bool} {ah al : Int} (k : NK w v ph pl b u qh ql c s ah al W) :
    W.cell? ⟨w.heap.size, 0, none⟩ = some (.bool v) ∧ W.cell? ⟨w.heap.size, 1, none⟩ = some (.int .u64 ph) ∧ W.cell? ⟨w.heap.size, 2, none⟩ = some (.int .u64 pl) ∧ W.cell? ⟨w.heap.size, 3, none⟩ = some (.int .i64 b) ∧ W.cell? ⟨w.heap.size + 1, 0, none⟩ = some (.bool u) ∧ W.cell? ⟨w.heap.size + 1, 1, none⟩ = some (.int .u64 qh) ∧ W.cell? ⟨w.heap.size + 1, 2, none⟩ = some (.int .u64 ql) ∧ W.cell? ⟨w.heap.size + 1, 3, none⟩ = some (.int .i64 c) ∧ W.cell? ⟨w.heap.size + 1 + 1, 0, none⟩ = some (.bool s) ∧ W.cell? ⟨w.heap.size + 1 + 1, 1, none⟩ = some (.int .u64 ah) ∧ W.cell? ⟨w.heap.size + 1 + 1, 2, none⟩ = some (.int .u64 al) :=
  ⟨k.1.cell 0, k.1.cell 1, k.1.cell 2, k.1.cell 3, k.2.1.cell 0, k.2.1.cell 1, k.2.1.cell 2, k.2.1.cell 3, k.2.2.1.cell 0, k.2.2.1.cell 1, k.2.2.1.cell 2⟩

end Go.Proofs.YtighdocmncbdnaaGreatDoor

namespace Go.Proofs.YtighdocmncbdnaaGreatDoor
open Go.ChangeShapes Go.WideShapes Go.ChangeAt Go.RowKit
set_option linter.unusedVariables false
set_option linter.unusedSimpArgs false

/-- May it be cut into blocks of k bits? -/
def cutB (v : Bool) (n : Nat) (b k : Int) : Bool := okP v n b && decide (b ≤ k) && decide (k ≤ widthA v)

/-- The block of the number i. -/
def blkN (v : Bool) (n : Nat) (k : Int) (i : Nat) : Nat := n + i * 2 ^ behindP v k

theorem cutB_parts {v : Bool} {n : Nat} {b k : Int} (h : cutB v n b k = true) : okP v n b = true ∧ 0 ≤ b ∧ b ≤ k ∧ k ≤ widthA v ∧ behindP v b = behindP v k + (k - b).toNat := by
  simp only [cutB, Bool.and_eq_true, decide_eq_true_eq] at h
  obtain ⟨⟨h1, h2⟩, h3⟩ := h
  obtain ⟨_, h0, _⟩ := fitsB_parts (okP_parts h1).1
  exact ⟨h1, h0, h2, h3, by unfold behindP; omega⟩

theorem len_iff {i k : Nat} : Go.bitLen i ≤ k ↔ i < 2 ^ k := by
  constructor
  · intro h
    exact Nat.lt_of_lt_of_le (Go.bitLen_spec i).1 (Nat.pow_le_pow_right (by decide) h)
  · exact bitLen_le_of_lt

theorem blk_small {v : Bool} {n i : Nat} {b k : Int} (h : cutB v n b k = true) (hi : i < 2 ^ (k - b).toNat) : i * 2 ^ behindP v k + 2 ^ behindP v k ≤ 2 ^ behindP v b := by
  obtain ⟨_, _, _, _, e⟩ := cutB_parts h
  rw [e, Nat.pow_add, Nat.mul_comm (2 ^ behindP v k)]
  have := Nat.mul_le_mul_right (2 ^ behindP v k) (show i + 1 ≤ 2 ^ (k - b).toNat from hi)
  rw [Nat.add_mul, Nat.one_mul] at this
  exact this

theorem blk_or {v : Bool} {n i : Nat} {b k : Int} (h : cutB v n b k = true) (hi : i < 2 ^ (k - b).toNat) : n ||| (i * 2 ^ behindP v k % 340282366920938463463374607431768211456) = blkN v n k i := by
  obtain ⟨h1, h0, h2, h3, e⟩ := cutB_parts h
  have s := blk_small h hi
  have p := pow_pos2 (behindP v k)
  have q := Nat.pow_le_pow_right (n := 2) (by decide) (behindP_le (v := v) h0)
  rw [show (2 : Nat) ^ 128 = 340282366920938463463374607431768211456 by decide] at q
  rw [Nat.mod_eq_of_lt (by omega)]
  obtain ⟨m, hm⟩ := Nat.dvd_of_mod_eq_zero (okP_parts h1).2
  unfold blkN
  rw [hm, or_add _ _ _ (by omega)]

end Go.Proofs.YtighdocmncbdnaaGreatDoor

namespace Go.Proofs.YtighdocmncbdnaaGreatDoor
set_option linter.unusedVariables false
set_option linter.unusedSimpArgs false

end Go.Proofs.YtighdocmncbdnaaGreatDoor

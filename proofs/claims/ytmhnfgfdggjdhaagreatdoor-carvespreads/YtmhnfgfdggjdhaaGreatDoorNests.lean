/-
  The walk of PrefixNests.
-/
import Derived.Test.YtmhnfgfdggjdhaaGreatDoorPfx4
import Derived.Test.YtmhnfgfdggjdhaaGreatDoorHex
import Derived.Deep.DeepCutAuto
namespace Go.Proofs.YtmhnfgfdggjdhaaGreatDoor
open Go.ChangeShapes Go.WideShapes Go.ChangeAt Go.RowKit
set_option linter.unusedVariables false
set_option linter.unusedSimpArgs false

/-- What a law of two prefixes and an address keeps. -/
def NK (w : World) (v : Bool) (ph pl b : Int) (u : Bool) (qh ql c : Int) (s : Bool) (ah al : Int) (wr : World) : Prop :=
  Blk wr w.heap.size #[.bool v, .int .u64 ph, .int .u64 pl, .int .i64 b] 28 ∧ Blk wr (w.heap.size + 1) #[.bool u, .int .u64 qh, .int .u64 ql, .int .i64 c] 28 ∧ Blk wr (w.heap.size + 2) #[.bool s, .int .u64 ah, .int .u64 al] 26 ∧ Below w.heap.size w wr

theorem NK.below {w W w1 : World} {v : Bool} {ph pl b : Int} {u : Bool} {qh ql c : Int} {s : Bool} {ah al : Int} (k : NK w v ph pl b u qh ql c s ah al W) (hb : Below W.heap.size W w1) : NK w v ph pl b u qh ql c s ah al w1 := ⟨k.1.below hb, k.2.1.below hb, k.2.2.1.below hb, k.2.2.2.trans (hb.mono k.2.2.2.size)⟩

theorem NK.cells {w W : World} {v : Bool} {ph pl b : Int} {u : Bool} {qh ql c : Int} {s : Bool} {ah al : Int} (k : NK w v ph pl b u qh ql c s ah al W) :
    W.cell? ⟨w.heap.size, 0, none⟩ = some (.bool v) ∧ W.cell? ⟨w.heap.size, 1, none⟩ = some (.int .u64 ph) ∧ W.cell? ⟨w.heap.size, 2, none⟩ = some (.int .u64 pl) ∧ W.cell? ⟨w.heap.size, 3, none⟩ = some (.int .i64 b) ∧ W.cell? ⟨w.heap.size + 1, 0, none⟩ = some (.bool u) ∧ W.cell? ⟨w.heap.size + 1, 1, none⟩ = some (.int .u64 qh) ∧ W.cell? ⟨w.heap.size + 1, 2, none⟩ = some (.int .u64 ql) ∧ W.cell? ⟨w.heap.size + 1, 3, none⟩ = some (.int .i64 c) ∧ W.cell? ⟨w.heap.size + 1 + 1, 0, none⟩ = some (.bool s) ∧ W.cell? ⟨w.heap.size + 1 + 1, 1, none⟩ = some (.int .u64 ah) ∧ W.cell? ⟨w.heap.size + 1 + 1, 2, none⟩ = some (.int .u64 al) :=
  ⟨k.1.cell 0, k.1.cell 1, k.1.cell 2, k.1.cell 3, k.2.1.cell 0, k.2.1.cell 1, k.2.1.cell 2, k.2.1.cell 3, k.2.2.1.cell 0, k.2.2.1.cell 1, k.2.2.1.cell 2⟩

theorem ofN_mod (v : Bool) (a : Nat) (b : Int) : ofN v a b % 2 ^ behindP v b = 0 := Nat.mul_mod_left _ _

theorem okA_le {v : Bool} {a c : Nat} (h : okA v a = true) (hc : c ≤ a) : okA v c = true := by
  cases v
  · simp [okA] at *; omega
  · rfl

theorem has_parts {v : Bool} {n : Nat} {b : Int} {u : Bool} {a : Nat} (h : hasB v n b u a = true) : v = u ∧ fitsB v a b = true ∧ n = ofN v a b := by
  simp only [hasB, Bool.and_eq_true, decide_eq_true_eq] at h
  obtain ⟨⟨h1, rfl⟩, h3⟩ := h
  exact ⟨rfl, h1, h3⟩

theorem has_mk {v : Bool} {n : Nat} {b : Int} {a : Nat} (h1 : fitsB v a b = true) (h2 : n = ofN v a b) : hasB v n b v a = true := by
  simp only [hasB, h1, Bool.true_and, Bool.and_eq_true, decide_eq_true_eq]
  exact ⟨trivial, h2⟩

theorem has_ok {v : Bool} {n : Nat} {b : Int} {u : Bool} {a : Nat} (h : hasB v n b u a = true) : okP v n b = true := by
  obtain ⟨rfl, h1, rfl⟩ := has_parts h
  obtain ⟨k1, k2, k3⟩ := fitsB_parts h1
  simp only [okP, fitsB, Bool.and_eq_true, decide_eq_true_eq]
  exact ⟨⟨⟨okA_le k1 (ofN_le _ _ _), k2⟩, k3⟩, ofN_mod _ _ _⟩

/-- Fewer bits of fewer bits. -/
theorem ofN_ofN {v : Bool} {a : Nat} {b c : Int} (h : c ≤ b) : ofN v (ofN v a b) c = ofN v a c := by
  have e : behindP v c = behindP v b + (behindP v c - behindP v b) := by unfold behindP; omega
  unfold ofN
  generalize behindP v b = k at *
  generalize behindP v c - k = j at *
  rw [e, Nat.pow_add, ← Nat.div_div_eq_div_mul, Nat.mul_div_cancel _ (pow_pos2 k), Nat.div_div_eq_div_mul]

theorem fits_less {v : Bool} {a d : Nat} {b c : Int} (h : fitsB v a b = true) (hd : okA v d = true) (c0 : 0 ≤ c) (hc : c ≤ b) : fitsB v d c = true := by
  obtain ⟨_, _, h3⟩ := fitsB_parts h
  simp only [fitsB, hd, Bool.true_and, Bool.and_eq_true, decide_eq_true_eq]
  omega

theorem within_parts {v : Bool} {n : Nat} {b : Int} {u : Bool} {m : Nat} {c : Int} (h : withinB v n b u m c = true) : okP v n b = true ∧ c ≤ b ∧ hasB u m c v n = true := by
  simp only [withinB, Bool.and_eq_true, decide_eq_true_eq] at h
  exact ⟨h.1.1, h.1.2, h.2⟩

/-- What lies within has no other address. -/
theorem within_has {v : Bool} {n : Nat} {b : Int} {u : Bool} {m : Nat} {c : Int} {s : Bool} {a : Nat} (h : withinB v n b u m c = true) (hp : hasB v n b s a = true) : hasB u m c s a = true := by
  obtain ⟨h1, h2, h3⟩ := within_parts h
  obtain ⟨rfl, k1, k2⟩ := has_parts hp
  obtain ⟨rfl, j1, j2⟩ := has_parts h3
  have c0 := (fitsB_parts j1).2.1
  refine has_mk (fits_less k1 (fitsB_parts k1).1 c0 h2) ?_
  rw [j2, k2, ofN_ofN h2]

/-- Two that have one address: the longer one lies within. -/
theorem has_within {v : Bool} {n : Nat} {b : Int} {u : Bool} {m : Nat} {c : Int} {s : Bool} {a : Nat} (h : hasB v n b s a = true) (h2 : hasB u m c s a = true) (hc : c ≤ b) : withinB v n b u m c = true := by
  have hok := has_ok h
  obtain ⟨rfl, k1, k2⟩ := has_parts h
  obtain ⟨rfl, j1, j2⟩ := has_parts h2
  simp only [withinB, hok, Bool.true_and, Bool.and_eq_true, decide_eq_true_eq]
  refine ⟨hc, has_mk (fits_less k1 (fitsB_parts (okP_parts hok).1).1 (fitsB_parts j1).2.1 hc) ?_⟩
  rw [k2, ofN_ofN hc, j2]

/-- How the answers hang together. -/
def NestsOk (x y p q pq qp : Bool) : Prop := (x = true → qp = true) ∧ (y = true → pq = true) ∧ (x = true → p = true → q = true) ∧ (y = true → q = true → p = true) ∧ (p = true → q = true → x = true ∨ y = true)

theorem nests_ok (v : Bool) (n : Nat) (b : Int) (u : Bool) (m : Nat) (c : Int) (s : Bool) (a : Nat) : NestsOk (withinB v n b u m c) (withinB u m c v n b) (hasB v n b s a) (hasB u m c s a) (hasB v n b u m) (hasB u m c v n) := by
  refine ⟨fun h => (within_parts h).2.2, fun h => (within_parts h).2.2, fun h h2 => within_has h h2, fun h h2 => within_has h h2, fun h h2 => ?_⟩
  rcases Int.le_total c b with hc | hc
  · exact Or.inl (has_within h h2 hc)
  · exact Or.inr (has_within h2 h hc)

end Go.Proofs.YtmhnfgfdggjdhaaGreatDoor
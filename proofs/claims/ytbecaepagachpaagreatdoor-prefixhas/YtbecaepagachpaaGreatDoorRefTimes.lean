/-
  The reference's product.
-/
import Derived.Test.YtbecaepagachpaaGreatDoorRefLen
import Derived.Test.YtbecaepagachpaaGreatDoorRefAdd
import Derived.Deep.DeepCutAuto
import Derived.Deep.RegionHeld
namespace Go.Proofs.YtbecaepagachpaaGreatDoor
open Go.ChangeShapes Go.WideShapes Go.ChangeAt Go.RowKit
set_option linter.unusedVariables false
set_option linter.unusedSimpArgs false

/-- Block b holds the two words h, l and may be written. -/
def Own (w : World) (b : Nat) (h l : Int) : Prop := Two w b h l ∧ w.frozen? ⟨b, 0, none⟩ = false ∧ w.frozen? ⟨b, 1, none⟩ = false
theorem Own.below {W w1 : World} {b : Nat} {h l : Int} (x : Own W b h l) (hb : Below W.heap.size W w1) : Own w1 b h l :=
  ⟨x.1.below hb, (hb.frozen x.1.2.2).trans x.2.1, (hb.frozen x.1.2.2).trans x.2.2⟩
theorem Own.alloc {W : World} {b : Nat} {h l : Int} (x : Own W b h l) (o : Obj) : Own (W.alloc o) b h l :=
  ⟨x.1.alloc o, (World.frozen?_alloc_old _ _ _ (Nat.ne_of_lt x.1.2.2)).trans x.2.1, (World.frozen?_alloc_old _ _ _ (Nat.ne_of_lt x.1.2.2)).trans x.2.2⟩
theorem Own.drew {W : World} {b : Nat} {h l : Int} (x : Own W b h l) : Own W.drew b h l := x
theorem Own.new (W : World) (h l : Int) (t : TypeId) : Own (W.alloc (.cells #[.int .u64 h, .int .u64 l] t)) W.heap.size h l :=
  ⟨Two.new W h l t, by rw [World.frozen?_alloc_at _ _ _ _ rfl], by rw [World.frozen?_alloc_at _ _ _ _ rfl]⟩
theorem Own.put {w : World} {b : Nat} {h l h' l' : Int} (x : Own w b h l) : Own ((w.setCell ⟨b, 0, none⟩ (.int .u64 h')).setCell ⟨b, 1, none⟩ (.int .u64 l')) b h' l' :=
  ⟨Two.put (by rw [x.1.1]; rfl) (by rw [x.1.2.1]; rfl) x.1.2.2, by simpa using x.2.1, by simpa using x.2.2⟩
theorem Own.far {w : World} {b c : Nat} {h l : Int} {u v : Value} (x : Own w b h l) (hbc : b ≠ c) : Own ((w.setCell ⟨c, 0, none⟩ u).setCell ⟨c, 1, none⟩ v) b h l :=
  ⟨x.1.far hbc, by simpa using x.2.1, by simpa using x.2.2⟩
theorem BitRow.far {w : World} {g n a c : Nat} {u v : Value} (x : BitRow w g n a) (hc : g ≠ c) : BitRow ((w.setCell ⟨c, 0, none⟩ u).setCell ⟨c, 1, none⟩ v) g n a :=
  ⟨by have := x.1; simpa [World.setCell] using this, fun i hi => by
    rw [World.cell?_setCell_other _ _ _ _ (by simp [Ne.symm hc]), World.cell?_setCell_other _ _ _ _ (by simp [Ne.symm hc]), x.2 i hi]⟩

/-- What the loop of the product keeps. -/
def TS (w : World) (gx m bo : Nat) (ah al oh ol : Int) (wr : World) : Prop :=
  Own wr w.heap.size ah al ∧ Own wr bo oh ol ∧ Own wr (w.heap.size + 1) 0 0 ∧ BitRow wr gx 128 m ∧ Below w.heap.size w wr
theorem TS.below {w W w1 : World} {gx m bo : Nat} {ah al oh ol : Int} (s : TS w gx m bo ah al oh ol W) (hb : Below W.heap.size W w1) : TS w gx m bo ah al oh ol w1 :=
  ⟨s.1.below hb, s.2.1.below hb, s.2.2.1.below hb, s.2.2.2.1.below hb, s.2.2.2.2.trans (hb.mono s.2.2.2.2.size)⟩
theorem TS.alloc {w W : World} {gx m bo : Nat} {ah al oh ol : Int} (s : TS w gx m bo ah al oh ol W) (o : Obj) : TS w gx m bo ah al oh ol (W.alloc o) :=
  ⟨s.1.alloc o, s.2.1.alloc o, s.2.2.1.alloc o, s.2.2.2.1.alloc o, s.2.2.2.2.alloc (Nat.le_of_lt s.1.1.2.2) o⟩
theorem TS.drew {w W : World} {gx m bo : Nat} {ah al oh ol : Int} (s : TS w gx m bo ah al oh ol W) : TS w gx m bo ah al oh ol W.drew :=
  ⟨s.1.drew, s.2.1.drew, s.2.2.1.drew, s.2.2.2.1.drew, s.2.2.2.2.drew⟩

theorem TS.far {w W : World} {gx m bo c : Nat} {ah al oh ol : Int} {u v : Value} (s : TS w gx m bo ah al oh ol W) (c1 : w.heap.size + 1 < c) (c2 : bo < c) (c3 : gx < c) : TS w gx m bo ah al oh ol ((W.setCell ⟨c, 0, none⟩ u).setCell ⟨c, 1, none⟩ v) :=
  ⟨s.1.far (by omega), s.2.1.far (by omega), s.2.2.1.far (by omega), s.2.2.2.1.far (by omega), (s.2.2.2.2.setCell (by show _ ≤ c; omega) _).setCell (by show _ ≤ c; omega) _⟩
theorem TS.put {w W : World} {gx m bo : Nat} {ah al oh ol rh rl : Int} (s : TS w gx m bo ah al oh ol W) (c1 : w.heap.size + 1 < bo) (c3 : gx < bo) : TS w gx m bo ah al rh rl ((W.setCell ⟨bo, 0, none⟩ (.int .u64 rh)).setCell ⟨bo, 1, none⟩ (.int .u64 rl)) :=
  ⟨s.1.far (by omega), s.2.1.put, s.2.2.1.far (by omega), s.2.2.2.1.far (by omega), (s.2.2.2.2.setCell (by show _ ≤ bo; omega) _).setCell (by show _ ≤ bo; omega) _⟩
/-- The same, with the cells that are read laid open. -/
theorem TS.open {w W : World} {gx m bo : Nat} {ah al oh ol : Int} (s : TS w gx m bo ah al oh ol W) :
    W.cell? ⟨w.heap.size, 0, none⟩ = some (.int .u64 ah) ∧ W.cell? ⟨w.heap.size, 1, none⟩ = some (.int .u64 al) ∧ W.cell? ⟨bo, 0, none⟩ = some (.int .u64 oh) ∧ W.cell? ⟨bo, 1, none⟩ = some (.int .u64 ol) ∧ TS w gx m bo ah al oh ol W :=
  ⟨s.1.1.1, s.1.1.2.1, s.2.1.1.1, s.2.1.1.2.1, s⟩

theorem times_up (a m k : Nat) : a * (m % 2 ^ (k + 1)) = a * (m % 2 ^ k) + a * 2 ^ k * bitN m k := by
  rw [mod_up, Nat.mul_add, Nat.mul_assoc]

theorem fits_shift (a k : Nat) : a * 2 ^ k < 340282366920938463463374607431768211456 ↔ (Go.bitLen a + k ≤ 128 ∨ a = 0) := by
  obtain ⟨x, y⟩ := Go.bitLen_spec a
  have e : 2 ^ 128 = 340282366920938463463374607431768211456 := by decide
  rw [← e]
  constructor
  · intro h
    by_cases h0 : a = 0
    · exact .inr h0
    · left
      have z := y h0
      have : 2 ^ (Go.bitLen a - 1) * 2 ^ k ≤ a * 2 ^ k := Nat.mul_le_mul_right _ z
      rw [← Nat.pow_add] at this
      have := (Nat.pow_lt_pow_iff_right (a := 2) (by decide)).1 (Nat.lt_of_le_of_lt this h)
      omega
  · rintro (h | h)
    · have h1 : a * 2 ^ k < 2 ^ Go.bitLen a * 2 ^ k := Nat.mul_lt_mul_of_pos_right x (pow_pos2 _)
      rw [← Nat.pow_add] at h1
      have h2 : 2 ^ (Go.bitLen a + k) ≤ 2 ^ 128 := Nat.pow_le_pow_right (by decide) h
      omega
    · rw [h, Nat.zero_mul]; decide

def TimesPost (a m : Nat) (w : World) (e : Ending) (w' : World) : Prop :=
  ∃ h l t, e = .returned (.tuple #[nv h l, .bool t]) ∧ IsNum h l (a * m % 340282366920938463463374607431768211456) ∧ Hid (t = decide (a * m < 340282366920938463463374607431768211456)) ∧ Below w.heap.size w w'

end Go.Proofs.YtbecaepagachpaaGreatDoor
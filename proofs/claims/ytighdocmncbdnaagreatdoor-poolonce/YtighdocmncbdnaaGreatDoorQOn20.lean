/-
  Texts Pfx3 of the proof.
-/
import Derived.Test.YtighdocmncbdnaaGreatDoorQOn11

namespace Go.Proofs.YtighdocmncbdnaaGreatDoor
open Go.ChangeShapes Go.WideShapes Go.ChangeAt Go.RowKit
set_option linter.unusedVariables false
set_option linter.unusedSimpArgs false

/-- Has it the address? -/
def hasB (v : Bool) (n : Nat) (b : Int) (u : Bool) (a : Nat) : Bool := fitsB u a b && decide (v = u) && decide (n = ofN u a b)

theorem IsNum.inj {h l h' l' : Int} {n m : Nat} (x : IsNum h l n) (y : IsNum h' l' m) : n = m ↔ (h = h' ∧ l = l') := by
  constructor
  · intro e; exact (x.cast e).uniq y
  · rintro ⟨rfl, rfl⟩
    have := x.eq; have := y.eq; omega

set_option maxHeartbeats 800000 in
theorem has_fit {v u : Bool} {ph pl b h l : Int} {n a : Nat} (hp : IsNum ph pl n) (ha : IsNum h l a) (hf : fitsB u a b = true) (w : World) :
    Calls Tryz.prog 40 #[pv v ph pl b, av u h l] w fun e w' => e = .returned (.bool (hasB v n b u a)) ∧ Below w.heap.size w w' := by
  obtain ⟨rh, rl, hr⟩ := IsNum.ex (n := ofN u a b) (Nat.lt_of_le_of_lt (ofN_le _ _ _) ha.lt)
  have O := fun w' => of_ok ha hf hr w'
  have f0 : hasB v n b u a = (decide (v = u) && (decide (ph = rh) && decide (pl = rl))) := by
    unfold hasB
    rw [hf, Bool.true_and]
    congr 1
    rw [Bool.eq_iff_iff]
    simp only [decide_eq_true_eq, Bool.and_eq_true]
    exact hp.inj hr
  clear hp ha hf hr
  obtain ⟨X, hX⟩ : ∃ X, hasB v n b u a = X := ⟨_, rfl⟩
  rw [hX] at f0 ⊢
  clear hX
  have cs : (v = u ∧ ph = rh ∧ pl = rl ∧ X = true) ∨ (¬ v = u ∧ X = false) ∨ (v = u ∧ ¬ ph = rh ∧ X = false) ∨ (v = u ∧ ph = rh ∧ ¬ pl = rl ∧ X = false) := by
    rw [f0]
    by_cases c1 : v = u <;> by_cases c2 : ph = rh <;> by_cases c3 : pl = rl <;> simp [c1, c2, c3]
  clear f0
  rcases cs with ⟨rfl, rfl, rfl, rfl⟩ | ⟨k1, rfl⟩ | ⟨rfl, k1, rfl⟩ | ⟨rfl, rfl, k1, rfl⟩
  all_goals
    go_enter Tryz.func40, Tryz.ntmps40
    go_wp2_with fail
    refine (O _).mono ?_
    rintro e w1 ⟨rfl, hb1⟩
    obtain ⟨hc1, hf1⟩ := bcell hb1
    have hz_w1_0 : w.heap.size < w1.heap.size   := (by have := hb1.size; first | omega | (simp at this; omega))
    have hz_w1_1 : w.heap.size + 1 < w1.heap.size   := (by have := hb1.size; first | omega | (simp at this; omega))
    clear O
    go_wp2
    go_ret
    exact ⟨by rfl, by repeat (first | with_reducible exact Below.refl _ _ | with_reducible refine Below.drew ?_ | with_reducible refine Below.alloc ?_ (by first | omega | (simp <;> omega)) _ | with_reducible refine Below.setCell ?_ (by first | omega | (simp <;> omega)) _ | with_reducible refine Below.trans ?_ (Below.mono hb1 (by first | omega | (simp <;> omega))))⟩

set_option maxHeartbeats 800000 in
theorem has_no {v u : Bool} {ph pl b h l : Int} {n a : Nat} (ha : IsNum h l a) (hf : fitsB u a b = false) (w : World) :
    Calls Tryz.prog 40 #[pv v ph pl b, av u h l] w fun e w' => e = .returned (.bool (hasB v n b u a)) ∧ Below w.heap.size w w' := by
  have O := fun w' => of_no ha hf w'
  have f : Hid (hasB v n b u a = false) := by show _ = _; unfold hasB; rw [hf]; rfl
  clear ha hf
  go_enter Tryz.func40, Tryz.ntmps40
  go_wp2_with fail
  refine (O _).mono ?_
  rintro e w1 ⟨rfl, hb1⟩
  obtain ⟨hc1, hf1⟩ := bcell hb1
  have hz_w1_0 : w.heap.size < w1.heap.size   := (by have := hb1.size; first | omega | (simp at this; omega))
  have hz_w1_1 : w.heap.size + 1 < w1.heap.size   := (by have := hb1.size; first | omega | (simp at this; omega))
  clear O
  go_wp2
  go_ret
  exact ⟨by rw [f.out]; rfl, by repeat (first | with_reducible exact Below.refl _ _ | with_reducible refine Below.drew ?_ | with_reducible refine Below.alloc ?_ (by first | omega | (simp <;> omega)) _ | with_reducible refine Below.setCell ?_ (by first | omega | (simp <;> omega)) _ | with_reducible refine Below.trans ?_ (Below.mono hb1 (by first | omega | (simp <;> omega))))⟩

theorem has_c {v u : Bool} {ph pl b h l : Int} {n a : Nat} (hp : IsNum ph pl n) (ha : IsNum h l a) (w : World) :
    Calls Tryz.prog 40 #[pv v ph pl b, av u h l] w fun e w' => e = .returned (.bool (hasB v n b u a)) ∧ Below w.heap.size w w' := by
  cases hf : fitsB u a b
  · exact has_no ha hf w
  · exact has_fit hp ha hf w

end Go.Proofs.YtighdocmncbdnaaGreatDoor

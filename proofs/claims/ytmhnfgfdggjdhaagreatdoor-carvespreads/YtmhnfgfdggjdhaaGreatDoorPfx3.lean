/-
  What First, Last, Has, Within and Overlap of package prefix return, for every prefix.
-/
import Derived.Test.YtmhnfgfdggjdhaaGreatDoorPfx2
namespace Go.Proofs.YtmhnfgfdggjdhaaGreatDoor
open Go.ChangeShapes Go.WideShapes Go.ChangeAt Go.RowKit
set_option linter.unusedVariables false
set_option linter.unusedSimpArgs false

/-- Has it the address? -/
def hasB (v : Bool) (n : Nat) (b : Int) (u : Bool) (a : Nat) : Bool := fitsB u a b && decide (v = u) && decide (n = ofN u a b)

/-- Has the second all that the first has? -/
def withinB (v : Bool) (n : Nat) (b : Int) (u : Bool) (m : Nat) (c : Int) : Bool := okP v n b && decide (c ≤ b) && hasB u m c v n

/-- Is there one that both have? -/
def overB (v : Bool) (n : Nat) (b : Int) (u : Bool) (m : Nat) (c : Int) : Bool := withinB v n b u m c || withinB u m c v n b

theorem IsNum.inj {h l h' l' : Int} {n m : Nat} (x : IsNum h l n) (y : IsNum h' l' m) : n = m ↔ (h = h' ∧ l = l') := by
  constructor
  · intro e; exact (x.cast e).uniq y
  · rintro ⟨rfl, rfl⟩
    have := x.eq; have := y.eq; omega

set_option maxHeartbeats 800000 in
theorem has_fit {v u : Bool} {ph pl b h l : Int} {n a : Nat} (hp : IsNum ph pl n) (ha : IsNum h l a) (hf : fitsB u a b = true) (w : World) :
    Calls Tryz.prog 18 #[pv v ph pl b, av u h l] w fun e w' => e = .returned (.bool (hasB v n b u a)) ∧ Below w.heap.size w w' := by
  obtain ⟨rh, rl, hr⟩ := IsNum.ex (n := ofN u a b) (Nat.lt_of_le_of_lt (ofN_le _ _ _) ha.lt)
  have O := fun w' => of_ok ha hf hr w'
  have f0 : hasB v n b u a = (decide (v = u) && (decide (ph = rh) && decide (pl = rl))) := by
    unfold hasB
    rw [hf, Bool.true_and]
    congr 1
    rw [Bool.eq_iff_iff]
    simp only [decide_eq_true_eq, Bool.and_eq_true]
    exact hp.inj hr
  clear hp ha hf hr
  obtain ⟨X, hX⟩ : ∃ X, hasB v n b u a = X := ⟨_, rfl⟩
  rw [hX] at f0 ⊢
  clear hX
  have cs : (v = u ∧ ph = rh ∧ pl = rl ∧ X = true) ∨ (¬ v = u ∧ X = false) ∨ (v = u ∧ ¬ ph = rh ∧ X = false) ∨ (v = u ∧ ph = rh ∧ ¬ pl = rl ∧ X = false) := by
    rw [f0]
    by_cases c1 : v = u <;> by_cases c2 : ph = rh <;> by_cases c3 : pl = rl <;> simp [c1, c2, c3]
  clear f0
  rcases cs with ⟨rfl, rfl, rfl, rfl⟩ | ⟨k1, rfl⟩ | ⟨rfl, k1, rfl⟩ | ⟨rfl, rfl, k1, rfl⟩
  all_goals
    go_enter Tryz.func18, Tryz.ntmps18
    go_wp2_with fail
    refine (O _).mono ?_
    rintro e w1 ⟨rfl, hb1⟩
    obtain ⟨hc1, hf1⟩ := bcell hb1
    have hz_w1_0 : w.heap.size < w1.heap.size   := (by have := hb1.size; first | omega | (simp at this; omega))
    have hz_w1_1 : w.heap.size + 1 < w1.heap.size   := (by have := hb1.size; first | omega | (simp at this; omega))
    clear O
    go_wp2
    go_ret
    exact ⟨by rfl, by repeat (first | with_reducible exact Below.refl _ _ | with_reducible refine Below.drew ?_ | with_reducible refine Below.alloc ?_ (by first | omega | (simp <;> omega)) _ | with_reducible refine Below.setCell ?_ (by first | omega | (simp <;> omega)) _ | with_reducible refine Below.trans ?_ (Below.mono hb1 (by first | omega | (simp <;> omega))))⟩

set_option maxHeartbeats 800000 in
theorem has_no {v u : Bool} {ph pl b h l : Int} {n a : Nat} (ha : IsNum h l a) (hf : fitsB u a b = false) (w : World) :
    Calls Tryz.prog 18 #[pv v ph pl b, av u h l] w fun e w' => e = .returned (.bool (hasB v n b u a)) ∧ Below w.heap.size w w' := by
  have O := fun w' => of_no ha hf w'
  have f : Hid (hasB v n b u a = false) := by show _ = _; unfold hasB; rw [hf]; rfl
  clear ha hf
  go_enter Tryz.func18, Tryz.ntmps18
  go_wp2_with fail
  refine (O _).mono ?_
  rintro e w1 ⟨rfl, hb1⟩
  obtain ⟨hc1, hf1⟩ := bcell hb1
  have hz_w1_0 : w.heap.size < w1.heap.size   := (by have := hb1.size; first | omega | (simp at this; omega))
  have hz_w1_1 : w.heap.size + 1 < w1.heap.size   := (by have := hb1.size; first | omega | (simp at this; omega))
  clear O
  go_wp2
  go_ret
  exact ⟨by rw [f.out]; rfl, by repeat (first | with_reducible exact Below.refl _ _ | with_reducible refine Below.drew ?_ | with_reducible refine Below.alloc ?_ (by first | omega | (simp <;> omega)) _ | with_reducible refine Below.setCell ?_ (by first | omega | (simp <;> omega)) _ | with_reducible refine Below.trans ?_ (Below.mono hb1 (by first | omega | (simp <;> omega))))⟩

theorem has_c {v u : Bool} {ph pl b h l : Int} {n a : Nat} (hp : IsNum ph pl n) (ha : IsNum h l a) (w : World) :
    Calls Tryz.prog 18 #[pv v ph pl b, av u h l] w fun e w' => e = .returned (.bool (hasB v n b u a)) ∧ Below w.heap.size w w' := by
  cases hf : fitsB u a b
  · exact has_no ha hf w
  · exact has_fit hp ha hf w

set_option maxHeartbeats 800000 in
theorem within_c {v u : Bool} {ph pl b qh ql c : Int} {n m : Nat} (hp : IsNum ph pl n) (hq : IsNum qh ql m) (w : World) :
    Calls Tryz.prog 24 #[pv v ph pl b, pv u qh ql c] w fun e w' => e = .returned (.bool (withinB v n b u m c)) ∧ Below w.heap.size w w' := by
  have R := fun w' => pright_c (v := v) (b := b) hp w'
  have H := fun w' => has_c (v := u) (b := c) (u := v) hq hp w'
  have f : withinB v n b u m c = (okP v n b && decide (c ≤ b) && hasB u m c v n) := rfl
  obtain ⟨x, hx⟩ : ∃ x, okP v n b = x := ⟨_, rfl⟩
  obtain ⟨y, hy⟩ : ∃ y, hasB u m c v n = y := ⟨_, rfl⟩
  obtain ⟨z, hz⟩ : ∃ z, withinB v n b u m c = z := ⟨_, rfl⟩
  rw [hx] at R f
  rw [hy] at H f
  rw [hz] at f ⊢
  clear hp hq hx hy hz
  cases x
  · obtain rfl : z = false := f
    clear H
    go_enter Tryz.func24, Tryz.ntmps24
    go_wp2_with fail
    refine (R _).mono ?_
    rintro e w1 ⟨rfl, hb1⟩
    obtain ⟨hc1, hf1⟩ := bcell hb1
    have hz_w1_0 : w.heap.size < w1.heap.size   := (by have := hb1.size; first | omega | (simp at this; omega))
    have hz_w1_1 : w.heap.size + 1 < w1.heap.size   := (by have := hb1.size; first | omega | (simp at this; omega))
    clear R
    go_wp2
    go_ret
    exact ⟨by rfl, by repeat (first | with_reducible exact Below.refl _ _ | with_reducible refine Below.drew ?_ | with_reducible refine Below.alloc ?_ (by first | omega | (simp <;> omega)) _ | with_reducible refine Below.setCell ?_ (by first | omega | (simp <;> omega)) _ | with_reducible refine Below.trans ?_ (Below.mono hb1 (by first | omega | (simp <;> omega))))⟩
  · by_cases hcb : c ≤ b
    · rw [decide_eq_true hcb] at f
      obtain rfl : z = y := f
      go_enter Tryz.func24, Tryz.ntmps24
      go_wp2_with fail
      refine (R _).mono ?_
      rintro e w1 ⟨rfl, hb1⟩
      obtain ⟨hc1, hf1⟩ := bcell hb1
      have hz_w1_0 : w.heap.size < w1.heap.size   := (by have := hb1.size; first | omega | (simp at this; omega))
      have hz_w1_1 : w.heap.size + 1 < w1.heap.size   := (by have := hb1.size; first | omega | (simp at this; omega))
      clear R
      go_wp2_with fail
      refine (H _).mono ?_
      rintro e w2 ⟨rfl, hb2⟩
      clear H
      go_wp2
      go_ret
      exact ⟨by rfl, by repeat (first | with_reducible exact Below.refl _ _ | with_reducible refine Below.drew ?_ | with_reducible refine Below.alloc ?_ (by first | omega | (simp <;> omega)) _ | with_reducible refine Below.setCell ?_ (by first | omega | (simp <;> omega)) _ | with_reducible refine Below.trans ?_ (Below.mono hb2 (by first | omega | (simp <;> omega))) | with_reducible refine Below.trans ?_ (Below.mono hb1 (by first | omega | (simp <;> omega))))⟩
    · rw [decide_eq_false hcb] at f
      have hcb' : decide (c ≤ b) = false := decide_eq_false hcb
      obtain rfl : z = false := f
      clear H hcb
      go_enter Tryz.func24, Tryz.ntmps24
      go_wp2_with fail
      refine (R _).mono ?_
      rintro e w1 ⟨rfl, hb1⟩
      obtain ⟨hc1, hf1⟩ := bcell hb1
      have hz_w1_0 : w.heap.size < w1.heap.size   := (by have := hb1.size; first | omega | (simp at this; omega))
      have hz_w1_1 : w.heap.size + 1 < w1.heap.size   := (by have := hb1.size; first | omega | (simp at this; omega))
      clear R
      go_wp2
      go_ret
      exact ⟨by rfl, by repeat (first | with_reducible exact Below.refl _ _ | with_reducible refine Below.drew ?_ | with_reducible refine Below.alloc ?_ (by first | omega | (simp <;> omega)) _ | with_reducible refine Below.setCell ?_ (by first | omega | (simp <;> omega)) _ | with_reducible refine Below.trans ?_ (Below.mono hb1 (by first | omega | (simp <;> omega))))⟩

set_option maxHeartbeats 800000 in
theorem over_c {v u : Bool} {ph pl b qh ql c : Int} {n m : Nat} (hp : IsNum ph pl n) (hq : IsNum qh ql m) (w : World) :
    Calls Tryz.prog 20 #[pv v ph pl b, pv u qh ql c] w fun e w' => e = .returned (.bool (overB v n b u m c)) ∧ Below w.heap.size w w' := by
  have X := fun w' => within_c (v := v) (b := b) (u := u) (c := c) hp hq w'
  have Y := fun w' => within_c (v := u) (b := c) (u := v) (c := b) hq hp w'
  have f : overB v n b u m c = (withinB v n b u m c || withinB u m c v n b) := rfl
  obtain ⟨x, hx⟩ : ∃ x, withinB v n b u m c = x := ⟨_, rfl⟩
  obtain ⟨y, hy⟩ : ∃ y, withinB u m c v n b = y := ⟨_, rfl⟩
  obtain ⟨z, hz⟩ : ∃ z, overB v n b u m c = z := ⟨_, rfl⟩
  rw [hx] at X f
  rw [hy] at Y f
  rw [hz] at f ⊢
  clear hp hq hx hy hz
  cases x
  · obtain rfl : z = y := by simpa using f
    clear f
    go_enter Tryz.func20, Tryz.ntmps20
    go_wp2_with fail
    refine (X _).mono ?_
    rintro e w1 ⟨rfl, hb1⟩
    obtain ⟨hc1, hf1⟩ := bcell hb1
    have hz_w1_0 : w.heap.size < w1.heap.size   := (by have := hb1.size; first | omega | (simp at this; omega))
    have hz_w1_1 : w.heap.size + 1 < w1.heap.size   := (by have := hb1.size; first | omega | (simp at this; omega))
    clear X
    go_wp2_with fail
    refine (Y _).mono ?_
    rintro e w2 ⟨rfl, hb2⟩
    clear Y
    go_wp2
    go_ret
    exact ⟨by rfl, by repeat (first | with_reducible exact Below.refl _ _ | with_reducible refine Below.drew ?_ | with_reducible refine Below.alloc ?_ (by first | omega | (simp <;> omega)) _ | with_reducible refine Below.setCell ?_ (by first | omega | (simp <;> omega)) _ | with_reducible refine Below.trans ?_ (Below.mono hb2 (by first | omega | (simp <;> omega))) | with_reducible refine Below.trans ?_ (Below.mono hb1 (by first | omega | (simp <;> omega))))⟩
  · obtain rfl : z = true := by simpa using f
    clear f Y
    go_enter Tryz.func20, Tryz.ntmps20
    go_wp2_with fail
    refine (X _).mono ?_
    rintro e w1 ⟨rfl, hb1⟩
    obtain ⟨hc1, hf1⟩ := bcell hb1
    have hz_w1_0 : w.heap.size < w1.heap.size   := (by have := hb1.size; first | omega | (simp at this; omega))
    have hz_w1_1 : w.heap.size + 1 < w1.heap.size   := (by have := hb1.size; first | omega | (simp at this; omega))
    clear X
    go_wp2
    go_ret
    exact ⟨by rfl, by repeat (first | with_reducible exact Below.refl _ _ | with_reducible refine Below.drew ?_ | with_reducible refine Below.alloc ?_ (by first | omega | (simp <;> omega)) _ | with_reducible refine Below.setCell ?_ (by first | omega | (simp <;> omega)) _ | with_reducible refine Below.trans ?_ (Below.mono hb1 (by first | omega | (simp <;> omega))))⟩
end Go.Proofs.YtmhnfgfdggjdhaaGreatDoor

/-
  What Plus and Minus of package addr return, for every address and every number.
-/
import Derived.Test.YtmhnfgfdggjdhaaGreatDoorAddrA
namespace Go.Proofs.YtmhnfgfdggjdhaaGreatDoor
open Go.ChangeShapes Go.WideShapes Go.ChangeAt Go.RowKit
set_option linter.unusedVariables false
set_option linter.unusedSimpArgs false

/-- What Plus answers: the address u, h, l, and the number c of what went wrong. -/
def PlusIs (v : Bool) (a n : Nat) (u : Bool) (h l c : Int) : Prop :=
  (okA v a = false ∧ u = false ∧ h = 0 ∧ l = 0 ∧ c = 1) ∨
  (okA v a = true ∧ ¬ (a + n < 340282366920938463463374607431768211456 ∧ okA v (a + n) = true) ∧ u = false ∧ h = 0 ∧ l = 0 ∧ c = 11) ∨
  (okA v a = true ∧ a + n < 340282366920938463463374607431768211456 ∧ okA v (a + n) = true ∧ u = v ∧ IsNum h l (a + n) ∧ c = 0)

/-- What Minus answers. -/
def MinusIs (v u : Bool) (a b : Nat) (h l c : Int) : Prop :=
  (¬ (okA v a = true ∧ okA u b = true ∧ v = u) ∧ h = 0 ∧ l = 0 ∧ c = 1) ∨
  ((okA v a = true ∧ okA u b = true ∧ v = u) ∧ a < b ∧ h = 0 ∧ l = 0 ∧ c = 11) ∨
  ((okA v a = true ∧ okA u b = true ∧ v = u) ∧ b ≤ a ∧ IsNum h l (a - b) ∧ c = 0)

theorem plusIs_ex (v : Bool) (a n : Nat) : ∃ u h l c, PlusIs v a n u h l c := by
  cases h1 : okA v a
  · exact ⟨_, _, _, _, Or.inl ⟨h1, rfl, rfl, rfl, rfl⟩⟩
  · by_cases h2 : a + n < 340282366920938463463374607431768211456 ∧ okA v (a + n) = true
    · obtain ⟨h, l, hh⟩ := IsNum.ex h2.1
      exact ⟨_, _, _, _, Or.inr (Or.inr ⟨h1, h2.1, h2.2, rfl, hh, rfl⟩)⟩
    · exact ⟨_, _, _, _, Or.inr (Or.inl ⟨h1, h2, rfl, rfl, rfl, rfl⟩)⟩

theorem minusIs_ex (v u : Bool) {a b : Nat} (ha : a < 340282366920938463463374607431768211456) : ∃ h l c, MinusIs v u a b h l c := by
  by_cases h1 : okA v a = true ∧ okA u b = true ∧ v = u
  · by_cases h2 : a < b
    · exact ⟨_, _, _, Or.inr (Or.inl ⟨h1, h2, rfl, rfl, rfl⟩)⟩
    · obtain ⟨h, l, hh⟩ := IsNum.ex (n := a - b) (by omega)
      exact ⟨_, _, _, Or.inr (Or.inr ⟨h1, by omega, hh, rfl⟩)⟩
  · exact ⟨_, _, _, Or.inl ⟨h1, rfl, rfl, rfl⟩⟩

set_option maxHeartbeats 800000 in
theorem plus_arg {v : Bool} {ah al nh nl : Int} {a : Nat} (ha : IsNum ah al a) (h1 : okA v a = false) (w : World) :
    Calls Tryz.prog 46 #[av v ah al, nv nh nl] w fun e w' => e = .returned (.tuple #[av false 0 0, .int .i64 1]) ∧ Below w.heap.size w w' := by
  have hr := fun w' => aright_c (v := v) ha w'
  rw [h1] at hr
  clear h1
  go_enter Tryz.func46, Tryz.ntmps46
  go_wp2_with fail
  refine (hr _).mono ?_
  rintro e w1 ⟨rfl, hb1⟩
  obtain ⟨hc1, hf1⟩ := bcell hb1
  have hz_w1_0 : w.heap.size < w1.heap.size   := (by have := hb1.size; first | omega | (simp at this; omega))
  have hz_w1_1 : w.heap.size + 1 < w1.heap.size   := (by have := hb1.size; first | omega | (simp at this; omega))
  have hz_w1_2 : w.heap.size + 2 < w1.heap.size   := (by have := hb1.size; first | omega | (simp at this; omega))
  clear hr
  go_wp2
  refine bodyPost_ret (v := .tuple #[av false 0 0, .int .i64 1]) (by simp [results, Tryz.results46, go_sem, *]) rfl ⟨rfl, by repeat (first | with_reducible exact Below.refl _ _ | with_reducible refine Below.drew ?_ | with_reducible refine Below.alloc ?_ (by first | omega | (simp <;> omega)) _ | with_reducible refine Below.setCell ?_ (by first | omega | (simp <;> omega)) _ | with_reducible refine Below.trans ?_ (Below.mono hb1 (by first | omega | (simp <;> omega))))⟩

set_option maxHeartbeats 800000 in
theorem plus_over {v : Bool} {ah al nh nl : Int} {a n : Nat} (ha : IsNum ah al a) (hn : IsNum nh nl n) (h1 : okA v a = true) (h2 : ¬ (a + n < 340282366920938463463374607431768211456 ∧ okA v (a + n) = true)) (w : World) :
    Calls Tryz.prog 46 #[av v ah al, nv nh nl] w fun e w' => e = .returned (.tuple #[av false 0 0, .int .i64 11]) ∧ Below w.heap.size w w' := by
  have hr := fun w' => aright_c (v := v) ha w'
  rw [h1] at hr
  clear h1
  obtain ⟨sh, sl, hs⟩ := IsNum.ex (n := (a + n) % 340282366920938463463374607431768211456) (Nat.mod_lt _ (by decide))
  have ad := fun w' => add_is ha hn hs w'
  have rs := fun w' => aright_c (v := v) hs w'
  clear ha hn hs
  by_cases h3 : a + n < 340282366920938463463374607431768211456
  · have h4 : okA v ((a + n) % 340282366920938463463374607431768211456) = false := by
      rw [Nat.mod_eq_of_lt h3]
      cases h5 : okA v (a + n)
      · rfl
      · exact absurd ⟨h3, h5⟩ h2
    rw [decide_eq_true h3] at ad
    rw [h4] at rs
    clear h4 h3 h2
    go_enter Tryz.func46, Tryz.ntmps46
    go_wp2_with fail
    refine (hr _).mono ?_
    rintro e w1 ⟨rfl, hb1⟩
    obtain ⟨hc1, hf1⟩ := bcell hb1
    have hz_w1_0 : w.heap.size < w1.heap.size   := (by have := hb1.size; first | omega | (simp at this; omega))
    have hz_w1_1 : w.heap.size + 1 < w1.heap.size   := (by have := hb1.size; first | omega | (simp at this; omega))
    have hz_w1_2 : w.heap.size + 2 < w1.heap.size   := (by have := hb1.size; first | omega | (simp at this; omega))
    clear hr
    go_wp2_with fail
    refine (ad _).mono ?_
    rintro e w2 ⟨rfl, hb2⟩
    obtain ⟨hc2, hf2⟩ := bcell hb2
    have hz_w2_0 : w.heap.size < w2.heap.size   := (by have := hb2.size; first | omega | (simp at this; omega))
    have hz_w2_1 : w.heap.size + 1 < w2.heap.size   := (by have := hb2.size; first | omega | (simp at this; omega))
    have hz_w2_2 : w.heap.size + 2 < w2.heap.size   := (by have := hb2.size; first | omega | (simp at this; omega))
    clear ad
    go_wp2_with fail
    refine (rs _).mono ?_
    rintro e w3 ⟨rfl, hb3⟩
    obtain ⟨hc3, hf3⟩ := bcell hb3
    have hz_w3_0 : w2.heap.size < w3.heap.size   := (by have := hb3.size; first | omega | (simp at this; omega))
    have hz_w3_1 : w2.heap.size + 1 < w3.heap.size   := (by have := hb3.size; first | omega | (simp at this; omega))
    have hz_w3_2 : w.heap.size < w3.heap.size   := (by have := hb3.size; first | omega | (simp at this; omega))
    have hz_w3_3 : w.heap.size + 1 < w3.heap.size   := (by have := hb3.size; first | omega | (simp at this; omega))
    have hz_w3_4 : w.heap.size + 2 < w3.heap.size   := (by have := hb3.size; first | omega | (simp at this; omega))
    clear rs
    go_wp2
    refine bodyPost_ret (v := .tuple #[av false 0 0, .int .i64 11]) (by simp [results, Tryz.results46, go_sem, *]) rfl ⟨rfl, by repeat (first | with_reducible exact Below.refl _ _ | with_reducible refine Below.drew ?_ | with_reducible refine Below.alloc ?_ (by first | omega | (simp <;> omega)) _ | with_reducible refine Below.setCell ?_ (by first | omega | (simp <;> omega)) _ | with_reducible refine Below.trans ?_ (Below.mono hb3 (by first | omega | (simp <;> omega))) | with_reducible refine Below.trans ?_ (Below.mono hb2 (by first | omega | (simp <;> omega))) | with_reducible refine Below.trans ?_ (Below.mono hb1 (by first | omega | (simp <;> omega))))⟩
  · rw [decide_eq_false h3] at ad
    clear h3 h2 rs
    go_enter Tryz.func46, Tryz.ntmps46
    go_wp2_with fail
    refine (hr _).mono ?_
    rintro e w1 ⟨rfl, hb1⟩
    obtain ⟨hc1, hf1⟩ := bcell hb1
    have hz_w1_0 : w.heap.size < w1.heap.size   := (by have := hb1.size; first | omega | (simp at this; omega))
    have hz_w1_1 : w.heap.size + 1 < w1.heap.size   := (by have := hb1.size; first | omega | (simp at this; omega))
    have hz_w1_2 : w.heap.size + 2 < w1.heap.size   := (by have := hb1.size; first | omega | (simp at this; omega))
    clear hr
    go_wp2_with fail
    refine (ad _).mono ?_
    rintro e w2 ⟨rfl, hb2⟩
    obtain ⟨hc2, hf2⟩ := bcell hb2
    have hz_w2_0 : w.heap.size < w2.heap.size   := (by have := hb2.size; first | omega | (simp at this; omega))
    have hz_w2_1 : w.heap.size + 1 < w2.heap.size   := (by have := hb2.size; first | omega | (simp at this; omega))
    have hz_w2_2 : w.heap.size + 2 < w2.heap.size   := (by have := hb2.size; first | omega | (simp at this; omega))
    clear ad
    go_wp2
    refine bodyPost_ret (v := .tuple #[av false 0 0, .int .i64 11]) (by simp [results, Tryz.results46, go_sem, *]) rfl ⟨rfl, by repeat (first | with_reducible exact Below.refl _ _ | with_reducible refine Below.drew ?_ | with_reducible refine Below.alloc ?_ (by first | omega | (simp <;> omega)) _ | with_reducible refine Below.setCell ?_ (by first | omega | (simp <;> omega)) _ | with_reducible refine Below.trans ?_ (Below.mono hb2 (by first | omega | (simp <;> omega))) | with_reducible refine Below.trans ?_ (Below.mono hb1 (by first | omega | (simp <;> omega))))⟩

set_option maxHeartbeats 800000 in
theorem plus_ok {v : Bool} {ah al nh nl h l : Int} {a n : Nat} (ha : IsNum ah al a) (hn : IsNum nh nl n) (h1 : okA v a = true) (h3 : a + n < 340282366920938463463374607431768211456) (h4 : okA v (a + n) = true) (hs0 : IsNum h l (a + n)) (w : World) :
    Calls Tryz.prog 46 #[av v ah al, nv nh nl] w fun e w' => e = .returned (.tuple #[av v h l, .int .i64 0]) ∧ Below w.heap.size w w' := by
  have hr := fun w' => aright_c (v := v) ha w'
  rw [h1] at hr
  clear h1
  have hs : IsNum h l ((a + n) % 340282366920938463463374607431768211456) := hs0.cast (Nat.mod_eq_of_lt h3).symm
  have ad := fun w' => add_is ha hn hs w'
  have rs := fun w' => aright_c (v := v) hs0 w'
  rw [decide_eq_true h3] at ad
  rw [h4] at rs
  clear ha hn hs hs0 h3 h4
  go_enter Tryz.func46, Tryz.ntmps46
  go_wp2_with fail
  refine (hr _).mono ?_
  rintro e w1 ⟨rfl, hb1⟩
  obtain ⟨hc1, hf1⟩ := bcell hb1
  have hz_w1_0 : w.heap.size < w1.heap.size   := (by have := hb1.size; first | omega | (simp at this; omega))
  have hz_w1_1 : w.heap.size + 1 < w1.heap.size   := (by have := hb1.size; first | omega | (simp at this; omega))
  have hz_w1_2 : w.heap.size + 2 < w1.heap.size   := (by have := hb1.size; first | omega | (simp at this; omega))
  clear hr
  go_wp2_with fail
  refine (ad _).mono ?_
  rintro e w2 ⟨rfl, hb2⟩
  obtain ⟨hc2, hf2⟩ := bcell hb2
  have hz_w2_0 : w.heap.size < w2.heap.size   := (by have := hb2.size; first | omega | (simp at this; omega))
  have hz_w2_1 : w.heap.size + 1 < w2.heap.size   := (by have := hb2.size; first | omega | (simp at this; omega))
  have hz_w2_2 : w.heap.size + 2 < w2.heap.size   := (by have := hb2.size; first | omega | (simp at this; omega))
  clear ad
  go_wp2_with fail
  refine (rs _).mono ?_
  rintro e w3 ⟨rfl, hb3⟩
  obtain ⟨hc3, hf3⟩ := bcell hb3
  have hz_w3_0 : w2.heap.size < w3.heap.size   := (by have := hb3.size; first | omega | (simp at this; omega))
  have hz_w3_1 : w2.heap.size + 1 < w3.heap.size   := (by have := hb3.size; first | omega | (simp at this; omega))
  have hz_w3_2 : w.heap.size < w3.heap.size   := (by have := hb3.size; first | omega | (simp at this; omega))
  have hz_w3_3 : w.heap.size + 1 < w3.heap.size   := (by have := hb3.size; first | omega | (simp at this; omega))
  have hz_w3_4 : w.heap.size + 2 < w3.heap.size   := (by have := hb3.size; first | omega | (simp at this; omega))
  clear rs
  go_wp2
  refine bodyPost_ret (v := .tuple #[av v h l, .int .i64 0]) (by simp [results, Tryz.results46, go_sem, *]) rfl ⟨rfl, by repeat (first | with_reducible exact Below.refl _ _ | with_reducible refine Below.drew ?_ | with_reducible refine Below.alloc ?_ (by first | omega | (simp <;> omega)) _ | with_reducible refine Below.setCell ?_ (by first | omega | (simp <;> omega)) _ | with_reducible refine Below.trans ?_ (Below.mono hb3 (by first | omega | (simp <;> omega))) | with_reducible refine Below.trans ?_ (Below.mono hb2 (by first | omega | (simp <;> omega))) | with_reducible refine Below.trans ?_ (Below.mono hb1 (by first | omega | (simp <;> omega))))⟩

/-- Plus: so far behind. -/
theorem plus_is {v u : Bool} {ah al nh nl h l c : Int} {a n : Nat} (ha : IsNum ah al a) (hn : IsNum nh nl n) (hp : PlusIs v a n u h l c) (w : World) :
    Calls Tryz.prog 46 #[av v ah al, nv nh nl] w fun e w' => e = .returned (.tuple #[av u h l, .int .i64 c]) ∧ Below w.heap.size w w' := by
  rcases hp with ⟨h1, rfl, rfl, rfl, rfl⟩ | ⟨h1, h2, rfl, rfl, rfl, rfl⟩ | ⟨h1, h2, h3, rfl, h4, rfl⟩
  · exact plus_arg ha h1 w
  · exact plus_over ha hn h1 h2 w
  · exact plus_ok ha hn h1 h2 h3 h4 w
end Go.Proofs.YtmhnfgfdggjdhaaGreatDoor

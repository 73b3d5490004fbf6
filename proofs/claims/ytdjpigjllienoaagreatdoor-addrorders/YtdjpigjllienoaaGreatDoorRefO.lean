/-
  What the reference's Plus, Minus and Cmp of addresses return.
-/
import Derived.Test.YtdjpigjllienoaaGreatDoorRef2
import Derived.Test.YtdjpigjllienoaaGreatDoorRefAdd
import Derived.Test.YtdjpigjllienoaaGreatDoorRefSub
import Derived.Test.YtdjpigjllienoaaGreatDoorRefCmp
namespace Go.Proofs.YtdjpigjllienoaaGreatDoor
open Go.ChangeShapes Go.WideShapes Go.ChangeAt Go.RowKit
set_option linter.unusedVariables false
set_option linter.unusedSimpArgs false

theorem radd_is {ah al bh bl h l : Int} {a b : Nat} (ha : IsNum ah al a) (hb : IsNum bh bl b) (hr : IsNum h l ((a + b) % 340282366920938463463374607431768211456)) (w : World) :
    Calls Tryz.prog 19 #[nv ah al, nv bh bl] w fun e w' => e = .returned (.tuple #[nv h l, .bool (decide (a + b < 340282366920938463463374607431768211456))]) ∧ Below w.heap.size w w' := by
  refine (radd_c ha hb w).mono ?_
  rintro e w' ⟨h', l', t, rfl, hn, ht, hb⟩
  obtain ⟨rfl, rfl⟩ := hn.uniq hr
  rw [ht.out]
  exact ⟨rfl, hb⟩

theorem rsub_is {ah al bh bl h l : Int} {a b : Nat} (ha : IsNum ah al a) (hb : IsNum bh bl b) (hr : IsNum h l ((a + 340282366920938463463374607431768211456 - b) % 340282366920938463463374607431768211456)) (w : World) :
    Calls Tryz.prog 21 #[nv ah al, nv bh bl] w fun e w' => e = .returned (.tuple #[nv h l, .bool (decide (b ≤ a))]) ∧ Below w.heap.size w w' := by
  refine (rsub_c ha hb w).mono ?_
  rintro e w' ⟨h', l', t, rfl, hn, ht, hb⟩
  obtain ⟨rfl, rfl⟩ := hn.uniq hr
  rw [ht.out]
  exact ⟨rfl, hb⟩

set_option maxHeartbeats 800000 in
theorem rplus_arg {v : Bool} {ah al nh nl : Int} {a : Nat} (ha : IsNum ah al a) (h1 : okA v a = false) (w : World) :
    Calls Tryz.prog 6 #[av v ah al, nv nh nl] w fun e w' => e = .returned (.tuple #[av false 0 0, .int .i64 1]) ∧ Below w.heap.size w w' := by
  have hr := fun w' => rright_c (v := v) ha w'
  rw [h1] at hr
  clear h1
  go_enter Tryz.func6, Tryz.ntmps6
  go_wp2_with fail
  refine (hr _).mono ?_
  rintro e w1 ⟨rfl, hb1⟩
  obtain ⟨hc1, hf1⟩ := bcell hb1
  have hz_w1_0 : w.heap.size < w1.heap.size   := (by have := hb1.size; first | omega | (simp at this; omega))
  have hz_w1_1 : w.heap.size + 1 < w1.heap.size   := (by have := hb1.size; first | omega | (simp at this; omega))
  have hz_w1_2 : w.heap.size + 2 < w1.heap.size   := (by have := hb1.size; first | omega | (simp at this; omega))
  clear hr
  go_wp2
  refine bodyPost_ret (v := .tuple #[av false 0 0, .int .i64 1]) (by simp [results, Tryz.results6, go_sem, *]) rfl ⟨rfl, by repeat (first | with_reducible exact Below.refl _ _ | with_reducible refine Below.drew ?_ | with_reducible refine Below.alloc ?_ (by first | omega | (simp <;> omega)) _ | with_reducible refine Below.setCell ?_ (by first | omega | (simp <;> omega)) _ | with_reducible refine Below.trans ?_ (Below.mono hb1 (by first | omega | (simp <;> omega))))⟩

set_option maxHeartbeats 800000 in
theorem rplus_over {v : Bool} {ah al nh nl : Int} {a n : Nat} (ha : IsNum ah al a) (hn : IsNum nh nl n) (h1 : okA v a = true) (h2 : ¬ (a + n < 340282366920938463463374607431768211456 ∧ okA v (a + n) = true)) (w : World) :
    Calls Tryz.prog 6 #[av v ah al, nv nh nl] w fun e w' => e = .returned (.tuple #[av false 0 0, .int .i64 11]) ∧ Below w.heap.size w w' := by
  have hr := fun w' => rright_c (v := v) ha w'
  rw [h1] at hr
  clear h1
  obtain ⟨sh, sl, hs⟩ := IsNum.ex (n := (a + n) % 340282366920938463463374607431768211456) (Nat.mod_lt _ (by decide))
  have ad := fun w' => radd_is ha hn hs w'
  have rs := fun w' => rright_c (v := v) hs w'
  clear ha hn hs
  by_cases h3 : a + n < 340282366920938463463374607431768211456
  · have h4 : okA v ((a + n) % 340282366920938463463374607431768211456) = false := by
      rw [Nat.mod_eq_of_lt h3]
      cases h5 : okA v (a + n)
      · rfl
      · exact absurd ⟨h3, h5⟩ h2
    rw [decide_eq_true h3] at ad
    rw [h4] at rs
    clear h4 h3 h2
    go_enter Tryz.func6, Tryz.ntmps6
    go_wp2_with fail
    refine (hr _).mono ?_
    rintro e w1 ⟨rfl, hb1⟩
    obtain ⟨hc1, hf1⟩ := bcell hb1
    have hz_w1_0 : w.heap.size < w1.heap.size   := (by have := hb1.size; first | omega | (simp at this; omega))
    have hz_w1_1 : w.heap.size + 1 < w1.heap.size   := (by have := hb1.size; first | omega | (simp at this; omega))
    have hz_w1_2 : w.heap.size + 2 < w1.heap.size   := (by have := hb1.size; first | omega | (simp at this; omega))
    clear hr
    go_wp2_with fail
    refine (ad _).mono ?_
    rintro e w2 ⟨rfl, hb2⟩
    obtain ⟨hc2, hf2⟩ := bcell hb2
    have hz_w2_0 : w.heap.size < w2.heap.size   := (by have := hb2.size; first | omega | (simp at this; omega))
    have hz_w2_1 : w.heap.size + 1 < w2.heap.size   := (by have := hb2.size; first | omega | (simp at this; omega))
    have hz_w2_2 : w.heap.size + 2 < w2.heap.size   := (by have := hb2.size; first | omega | (simp at this; omega))
    clear ad
    go_wp2_with fail
    refine (rs _).mono ?_
    rintro e w3 ⟨rfl, hb3⟩
    obtain ⟨hc3, hf3⟩ := bcell hb3
    have hz_w3_0 : w2.heap.size < w3.heap.size   := (by have := hb3.size; first | omega | (simp at this; omega))
    have hz_w3_1 : w2.heap.size + 1 < w3.heap.size   := (by have := hb3.size; first | omega | (simp at this; omega))
    have hz_w3_2 : w.heap.size < w3.heap.size   := (by have := hb3.size; first | omega | (simp at this; omega))
    have hz_w3_3 : w.heap.size + 1 < w3.heap.size   := (by have := hb3.size; first | omega | (simp at this; omega))
    have hz_w3_4 : w.heap.size + 2 < w3.heap.size   := (by have := hb3.size; first | omega | (simp at this; omega))
    clear rs
    go_wp2
    refine bodyPost_ret (v := .tuple #[av false 0 0, .int .i64 11]) (by simp [results, Tryz.results6, go_sem, *]) rfl ⟨rfl, by repeat (first | with_reducible exact Below.refl _ _ | with_reducible refine Below.drew ?_ | with_reducible refine Below.alloc ?_ (by first | omega | (simp <;> omega)) _ | with_reducible refine Below.setCell ?_ (by first | omega | (simp <;> omega)) _ | with_reducible refine Below.trans ?_ (Below.mono hb3 (by first | omega | (simp <;> omega))) | with_reducible refine Below.trans ?_ (Below.mono hb2 (by first | omega | (simp <;> omega))) | with_reducible refine Below.trans ?_ (Below.mono hb1 (by first | omega | (simp <;> omega))))⟩
  · rw [decide_eq_false h3] at ad
    clear h3 h2 rs
    go_enter Tryz.func6, Tryz.ntmps6
    go_wp2_with fail
    refine (hr _).mono ?_
    rintro e w1 ⟨rfl, hb1⟩
    obtain ⟨hc1, hf1⟩ := bcell hb1
    have hz_w1_0 : w.heap.size < w1.heap.size   := (by have := hb1.size; first | omega | (simp at this; omega))
    have hz_w1_1 : w.heap.size + 1 < w1.heap.size   := (by have := hb1.size; first | omega | (simp at this; omega))
    have hz_w1_2 : w.heap.size + 2 < w1.heap.size   := (by have := hb1.size; first | omega | (simp at this; omega))
    clear hr
    go_wp2_with fail
    refine (ad _).mono ?_
    rintro e w2 ⟨rfl, hb2⟩
    obtain ⟨hc2, hf2⟩ := bcell hb2
    have hz_w2_0 : w.heap.size < w2.heap.size   := (by have := hb2.size; first | omega | (simp at this; omega))
    have hz_w2_1 : w.heap.size + 1 < w2.heap.size   := (by have := hb2.size; first | omega | (simp at this; omega))
    have hz_w2_2 : w.heap.size + 2 < w2.heap.size   := (by have := hb2.size; first | omega | (simp at this; omega))
    clear ad
    go_wp2
    refine bodyPost_ret (v := .tuple #[av false 0 0, .int .i64 11]) (by simp [results, Tryz.results6, go_sem, *]) rfl ⟨rfl, by repeat (first | with_reducible exact Below.refl _ _ | with_reducible refine Below.drew ?_ | with_reducible refine Below.alloc ?_ (by first | omega | (simp <;> omega)) _ | with_reducible refine Below.setCell ?_ (by first | omega | (simp <;> omega)) _ | with_reducible refine Below.trans ?_ (Below.mono hb2 (by first | omega | (simp <;> omega))) | with_reducible refine Below.trans ?_ (Below.mono hb1 (by first | omega | (simp <;> omega))))⟩

set_option maxHeartbeats 800000 in
theorem rplus_ok {v : Bool} {ah al nh nl h l : Int} {a n : Nat} (ha : IsNum ah al a) (hn : IsNum nh nl n) (h1 : okA v a = true) (h3 : a + n < 340282366920938463463374607431768211456) (h4 : okA v (a + n) = true) (hs0 : IsNum h l (a + n)) (w : World) :
    Calls Tryz.prog 6 #[av v ah al, nv nh nl] w fun e w' => e = .returned (.tuple #[av v h l, .int .i64 0]) ∧ Below w.heap.size w w' := by
  have hr := fun w' => rright_c (v := v) ha w'
  rw [h1] at hr
  clear h1
  have hs : IsNum h l ((a + n) % 340282366920938463463374607431768211456) := hs0.cast (Nat.mod_eq_of_lt h3).symm
  have ad := fun w' => radd_is ha hn hs w'
  have rs := fun w' => rright_c (v := v) hs0 w'
  rw [decide_eq_true h3] at ad
  rw [h4] at rs
  clear ha hn hs hs0 h3 h4
  go_enter Tryz.func6, Tryz.ntmps6
  go_wp2_with fail
  refine (hr _).mono ?_
  rintro e w1 ⟨rfl, hb1⟩
  obtain ⟨hc1, hf1⟩ := bcell hb1
  have hz_w1_0 : w.heap.size < w1.heap.size   := (by have := hb1.size; first | omega | (simp at this; omega))
  have hz_w1_1 : w.heap.size + 1 < w1.heap.size   := (by have := hb1.size; first | omega | (simp at this; omega))
  have hz_w1_2 : w.heap.size + 2 < w1.heap.size   := (by have := hb1.size; first | omega | (simp at this; omega))
  clear hr
  go_wp2_with fail
  refine (ad _).mono ?_
  rintro e w2 ⟨rfl, hb2⟩
  obtain ⟨hc2, hf2⟩ := bcell hb2
  have hz_w2_0 : w.heap.size < w2.heap.size   := (by have := hb2.size; first | omega | (simp at this; omega))
  have hz_w2_1 : w.heap.size + 1 < w2.heap.size   := (by have := hb2.size; first | omega | (simp at this; omega))
  have hz_w2_2 : w.heap.size + 2 < w2.heap.size   := (by have := hb2.size; first | omega | (simp at this; omega))
  clear ad
  go_wp2_with fail
  refine (rs _).mono ?_
  rintro e w3 ⟨rfl, hb3⟩
  obtain ⟨hc3, hf3⟩ := bcell hb3
  have hz_w3_0 : w2.heap.size < w3.heap.size   := (by have := hb3.size; first | omega | (simp at this; omega))
  have hz_w3_1 : w2.heap.size + 1 < w3.heap.size   := (by have := hb3.size; first | omega | (simp at this; omega))
  have hz_w3_2 : w.heap.size < w3.heap.size   := (by have := hb3.size; first | omega | (simp at this; omega))
  have hz_w3_3 : w.heap.size + 1 < w3.heap.size   := (by have := hb3.size; first | omega | (simp at this; omega))
  have hz_w3_4 : w.heap.size + 2 < w3.heap.size   := (by have := hb3.size; first | omega | (simp at this; omega))
  clear rs
  go_wp2
  refine bodyPost_ret (v := .tuple #[av v h l, .int .i64 0]) (by simp [results, Tryz.results6, go_sem, *]) rfl ⟨rfl, by repeat (first | with_reducible exact Below.refl _ _ | with_reducible refine Below.drew ?_ | with_reducible refine Below.alloc ?_ (by first | omega | (simp <;> omega)) _ | with_reducible refine Below.setCell ?_ (by first | omega | (simp <;> omega)) _ | with_reducible refine Below.trans ?_ (Below.mono hb3 (by first | omega | (simp <;> omega))) | with_reducible refine Below.trans ?_ (Below.mono hb2 (by first | omega | (simp <;> omega))) | with_reducible refine Below.trans ?_ (Below.mono hb1 (by first | omega | (simp <;> omega))))⟩

/-- Plus: so far behind. -/
theorem rplus_is {v u : Bool} {ah al nh nl h l c : Int} {a n : Nat} (ha : IsNum ah al a) (hn : IsNum nh nl n) (hp : PlusIs v a n u h l c) (w : World) :
    Calls Tryz.prog 6 #[av v ah al, nv nh nl] w fun e w' => e = .returned (.tuple #[av u h l, .int .i64 c]) ∧ Below w.heap.size w w' := by
  rcases hp with ⟨h1, rfl, rfl, rfl, rfl⟩ | ⟨h1, h2, rfl, rfl, rfl, rfl⟩ | ⟨h1, h2, h3, rfl, h4, rfl⟩
  · exact rplus_arg ha h1 w
  · exact rplus_over ha hn h1 h2 w
  · exact rplus_ok ha hn h1 h2 h3 h4 w
set_option maxHeartbeats 800000 in
theorem rminus_arg {v u : Bool} {ah al bh bl : Int} {a b : Nat} (ha : IsNum ah al a) (hb : IsNum bh bl b) (h1 : ¬ (okA v a = true ∧ okA u b = true ∧ v = u)) (w : World) :
    Calls Tryz.prog 8 #[av v ah al, av u bh bl] w fun e w' => e = .returned (.tuple #[nv 0 0, .int .i64 1]) ∧ Below w.heap.size w w' := by
  have ra := fun w' => rright_c (v := v) ha w'
  have rb := fun w' => rright_c (v := u) hb w'
  clear ha hb
  cases h2 : okA v a
  · rw [h2] at ra
    clear h1 h2 rb
    go_enter Tryz.func8, Tryz.ntmps8
    go_wp2_with fail
    refine (ra _).mono ?_
    rintro e w1 ⟨rfl, hb1⟩
    obtain ⟨hc1, hf1⟩ := bcell hb1
    have hz_w1_0 : w.heap.size < w1.heap.size   := (by have := hb1.size; first | omega | (simp at this; omega))
    have hz_w1_1 : w.heap.size + 1 < w1.heap.size   := (by have := hb1.size; first | omega | (simp at this; omega))
    have hz_w1_2 : w.heap.size + 2 < w1.heap.size   := (by have := hb1.size; first | omega | (simp at this; omega))
    clear ra
    go_wp2
    refine bodyPost_ret (v := .tuple #[nv 0 0, .int .i64 1]) (by simp [results, Tryz.results8, go_sem, *]) rfl ⟨rfl, by repeat (first | with_reducible exact Below.refl _ _ | with_reducible refine Below.drew ?_ | with_reducible refine Below.alloc ?_ (by first | omega | (simp <;> omega)) _ | with_reducible refine Below.setCell ?_ (by first | omega | (simp <;> omega)) _ | with_reducible refine Below.trans ?_ (Below.mono hb1 (by first | omega | (simp <;> omega))))⟩
  · rw [h2] at ra
    cases h3 : okA u b
    · rw [h3] at rb
      clear h1 h2 h3
      go_enter Tryz.func8, Tryz.ntmps8
      go_wp2_with fail
      refine (ra _).mono ?_
      rintro e w1 ⟨rfl, hb1⟩
      obtain ⟨hc1, hf1⟩ := bcell hb1
      have hz_w1_0 : w.heap.size < w1.heap.size   := (by have := hb1.size; first | omega | (simp at this; omega))
      have hz_w1_1 : w.heap.size + 1 < w1.heap.size   := (by have := hb1.size; first | omega | (simp at this; omega))
      have hz_w1_2 : w.heap.size + 2 < w1.heap.size   := (by have := hb1.size; first | omega | (simp at this; omega))
      clear ra
      go_wp2_with fail
      refine (rb _).mono ?_
      rintro e w2 ⟨rfl, hb2⟩
      obtain ⟨hc2, hf2⟩ := bcell hb2
      have hz_w2_0 : w.heap.size < w2.heap.size   := (by have := hb2.size; first | omega | (simp at this; omega))
      have hz_w2_1 : w.heap.size + 1 < w2.heap.size   := (by have := hb2.size; first | omega | (simp at this; omega))
      have hz_w2_2 : w.heap.size + 2 < w2.heap.size   := (by have := hb2.size; first | omega | (simp at this; omega))
      clear rb
      go_wp2
      refine bodyPost_ret (v := .tuple #[nv 0 0, .int .i64 1]) (by simp [results, Tryz.results8, go_sem, *]) rfl ⟨rfl, by repeat (first | with_reducible exact Below.refl _ _ | with_reducible refine Below.drew ?_ | with_reducible refine Below.alloc ?_ (by first | omega | (simp <;> omega)) _ | with_reducible refine Below.setCell ?_ (by first | omega | (simp <;> omega)) _ | with_reducible refine Below.trans ?_ (Below.mono hb2 (by first | omega | (simp <;> omega))) | with_reducible refine Below.trans ?_ (Below.mono hb1 (by first | omega | (simp <;> omega))))⟩
    · rw [h3] at rb
      have h4 : (v == u) = false := by
        rw [beq_eq_false_iff_ne]
        exact fun c => h1 ⟨h2, h3, c⟩
      have h5 : (v != u) = true := by simp [bne, h4]
      clear h1 h2 h3
      go_enter Tryz.func8, Tryz.ntmps8
      go_wp2_with fail
      refine (ra _).mono ?_
      rintro e w1 ⟨rfl, hb1⟩
      obtain ⟨hc1, hf1⟩ := bcell hb1
      have hz_w1_0 : w.heap.size < w1.heap.size   := (by have := hb1.size; first | omega | (simp at this; omega))
      have hz_w1_1 : w.heap.size + 1 < w1.heap.size   := (by have := hb1.size; first | omega | (simp at this; omega))
      have hz_w1_2 : w.heap.size + 2 < w1.heap.size   := (by have := hb1.size; first | omega | (simp at this; omega))
      clear ra
      go_wp2_with fail
      refine (rb _).mono ?_
      rintro e w2 ⟨rfl, hb2⟩
      obtain ⟨hc2, hf2⟩ := bcell hb2
      have hz_w2_0 : w.heap.size < w2.heap.size   := (by have := hb2.size; first | omega | (simp at this; omega))
      have hz_w2_1 : w.heap.size + 1 < w2.heap.size   := (by have := hb2.size; first | omega | (simp at this; omega))
      have hz_w2_2 : w.heap.size + 2 < w2.heap.size   := (by have := hb2.size; first | omega | (simp at this; omega))
      clear rb
      go_wp2
      refine bodyPost_ret (v := .tuple #[nv 0 0, .int .i64 1]) (by simp [results, Tryz.results8, go_sem, *]) rfl ⟨rfl, by repeat (first | with_reducible exact Below.refl _ _ | with_reducible refine Below.drew ?_ | with_reducible refine Below.alloc ?_ (by first | omega | (simp <;> omega)) _ | with_reducible refine Below.setCell ?_ (by first | omega | (simp <;> omega)) _ | with_reducible refine Below.trans ?_ (Below.mono hb2 (by first | omega | (simp <;> omega))) | with_reducible refine Below.trans ?_ (Below.mono hb1 (by first | omega | (simp <;> omega))))⟩

set_option maxHeartbeats 800000 in
theorem rminus_sub {v : Bool} {ah al bh bl h l h' l' c : Int} {a b : Nat} (ha : IsNum ah al a) (hb : IsNum bh bl b) (h1 : okA v a = true) (h2 : okA v b = true)
    (hs : IsNum h l ((a + 340282366920938463463374607431768211456 - b) % 340282366920938463463374607431768211456)) (hd : (b ≤ a ∧ h' = h ∧ l' = l ∧ c = 0) ∨ (¬ b ≤ a ∧ h' = 0 ∧ l' = 0 ∧ c = 11)) (w : World) :
    Calls Tryz.prog 8 #[av v ah al, av v bh bl] w fun e w' => e = .returned (.tuple #[nv h' l', .int .i64 c]) ∧ Below w.heap.size w w' := by
  have ra := fun w' => rright_c (v := v) ha w'
  have rb := fun w' => rright_c (v := v) hb w'
  have sb := fun w' => rsub_is ha hb hs w'
  rw [h1] at ra
  rw [h2] at rb
  clear ha hb hs h1 h2
  rcases hd with ⟨hd, rfl, rfl, rfl⟩ | ⟨hd, rfl, rfl, rfl⟩
  · rw [decide_eq_true hd] at sb
    clear hd
    go_enter Tryz.func8, Tryz.ntmps8
    go_wp2_with fail
    refine (ra _).mono ?_
    rintro e w1 ⟨rfl, hb1⟩
    obtain ⟨hc1, hf1⟩ := bcell hb1
    have hz_w1_0 : w.heap.size < w1.heap.size   := (by have := hb1.size; first | omega | (simp at this; omega))
    have hz_w1_1 : w.heap.size + 1 < w1.heap.size   := (by have := hb1.size; first | omega | (simp at this; omega))
    have hz_w1_2 : w.heap.size + 2 < w1.heap.size   := (by have := hb1.size; first | omega | (simp at this; omega))
    clear ra
    go_wp2_with fail
    refine (rb _).mono ?_
    rintro e w2 ⟨rfl, hb2⟩
    obtain ⟨hc2, hf2⟩ := bcell hb2
    have hz_w2_0 : w.heap.size < w2.heap.size   := (by have := hb2.size; first | omega | (simp at this; omega))
    have hz_w2_1 : w.heap.size + 1 < w2.heap.size   := (by have := hb2.size; first | omega | (simp at this; omega))
    have hz_w2_2 : w.heap.size + 2 < w2.heap.size   := (by have := hb2.size; first | omega | (simp at this; omega))
    clear rb
    go_wp2_with fail
    refine (sb _).mono ?_
    rintro e w3 ⟨rfl, hb3⟩
    obtain ⟨hc3, hf3⟩ := bcell hb3
    have hz_w3_0 : w.heap.size < w3.heap.size   := (by have := hb3.size; first | omega | (simp at this; omega))
    have hz_w3_1 : w.heap.size + 1 < w3.heap.size   := (by have := hb3.size; first | omega | (simp at this; omega))
    have hz_w3_2 : w.heap.size + 2 < w3.heap.size   := (by have := hb3.size; first | omega | (simp at this; omega))
    clear sb
    go_wp2
    refine bodyPost_ret (v := .tuple #[nv h' l', .int .i64 0]) (by simp [results, Tryz.results8, go_sem, *]) rfl ⟨rfl, by repeat (first | with_reducible exact Below.refl _ _ | with_reducible refine Below.drew ?_ | with_reducible refine Below.alloc ?_ (by first | omega | (simp <;> omega)) _ | with_reducible refine Below.setCell ?_ (by first | omega | (simp <;> omega)) _ | with_reducible refine Below.trans ?_ (Below.mono hb3 (by first | omega | (simp <;> omega))) | with_reducible refine Below.trans ?_ (Below.mono hb2 (by first | omega | (simp <;> omega))) | with_reducible refine Below.trans ?_ (Below.mono hb1 (by first | omega | (simp <;> omega))))⟩
  · rw [decide_eq_false hd] at sb
    clear hd
    go_enter Tryz.func8, Tryz.ntmps8
    go_wp2_with fail
    refine (ra _).mono ?_
    rintro e w1 ⟨rfl, hb1⟩
    obtain ⟨hc1, hf1⟩ := bcell hb1
    have hz_w1_0 : w.heap.size < w1.heap.size   := (by have := hb1.size; first | omega | (simp at this; omega))
    have hz_w1_1 : w.heap.size + 1 < w1.heap.size   := (by have := hb1.size; first | omega | (simp at this; omega))
    have hz_w1_2 : w.heap.size + 2 < w1.heap.size   := (by have := hb1.size; first | omega | (simp at this; omega))
    clear ra
    go_wp2_with fail
    refine (rb _).mono ?_
    rintro e w2 ⟨rfl, hb2⟩
    obtain ⟨hc2, hf2⟩ := bcell hb2
    have hz_w2_0 : w.heap.size < w2.heap.size   := (by have := hb2.size; first | omega | (simp at this; omega))
    have hz_w2_1 : w.heap.size + 1 < w2.heap.size   := (by have := hb2.size; first | omega | (simp at this; omega))
    have hz_w2_2 : w.heap.size + 2 < w2.heap.size   := (by have := hb2.size; first | omega | (simp at this; omega))
    clear rb
    go_wp2_with fail
    refine (sb _).mono ?_
    rintro e w3 ⟨rfl, hb3⟩
    obtain ⟨hc3, hf3⟩ := bcell hb3
    have hz_w3_0 : w.heap.size < w3.heap.size   := (by have := hb3.size; first | omega | (simp at this; omega))
    have hz_w3_1 : w.heap.size + 1 < w3.heap.size   := (by have := hb3.size; first | omega | (simp at this; omega))
    have hz_w3_2 : w.heap.size + 2 < w3.heap.size   := (by have := hb3.size; first | omega | (simp at this; omega))
    clear sb
    go_wp2
    refine bodyPost_ret (v := .tuple #[nv 0 0, .int .i64 11]) (by simp [results, Tryz.results8, go_sem, *]) rfl ⟨rfl, by repeat (first | with_reducible exact Below.refl _ _ | with_reducible refine Below.drew ?_ | with_reducible refine Below.alloc ?_ (by first | omega | (simp <;> omega)) _ | with_reducible refine Below.setCell ?_ (by first | omega | (simp <;> omega)) _ | with_reducible refine Below.trans ?_ (Below.mono hb3 (by first | omega | (simp <;> omega))) | with_reducible refine Below.trans ?_ (Below.mono hb2 (by first | omega | (simp <;> omega))) | with_reducible refine Below.trans ?_ (Below.mono hb1 (by first | omega | (simp <;> omega))))⟩

/-- Minus: how far behind. -/
theorem rminus_is {v u : Bool} {ah al bh bl h l c : Int} {a b : Nat} (ha : IsNum ah al a) (hb : IsNum bh bl b) (hp : MinusIs v u a b h l c) (w : World) :
    Calls Tryz.prog 8 #[av v ah al, av u bh bl] w fun e w' => e = .returned (.tuple #[nv h l, .int .i64 c]) ∧ Below w.heap.size w w' := by
  have la := ha.lt
  have lb := hb.lt
  rcases hp with ⟨h1, rfl, rfl, rfl⟩ | ⟨⟨h1, h2, rfl⟩, h3, rfl, rfl, rfl⟩ | ⟨⟨h1, h2, rfl⟩, h3, h4, rfl⟩
  · exact rminus_arg ha hb h1 w
  · obtain ⟨sh, sl, hs⟩ := IsNum.ex (n := (a + 340282366920938463463374607431768211456 - b) % 340282366920938463463374607431768211456) (Nat.mod_lt _ (by decide))
    exact rminus_sub ha hb h1 h2 hs (Or.inr ⟨by omega, rfl, rfl, rfl⟩) w
  · exact rminus_sub ha hb h1 h2 (h4.cast (by omega)) (Or.inl ⟨h3, rfl, rfl, rfl⟩) w

set_option maxHeartbeats 800000 in
theorem racmp_c {v u : Bool} {ah al bh bl : Int} {a b : Nat} (ha : IsNum ah al a) (hb : IsNum bh bl b) (w : World) :
    Calls Tryz.prog 12 #[av v ah al, av u bh bl] w fun e w' => ∃ n : Int, e = .returned (.int .i64 n) ∧ n = cmpA v u a b ∧ Below w.heap.size w w' := by
  by_cases h : v = u
  · subst h
    have f : Hid (cmpA v v a b = cmpI (a : Int) (b : Int)) := if_pos rfl
    have RC := fun w' => rcmp_c ha hb w'
    have e1 : (v == v) = true := by simp
    have e2 : (v != v) = false := by simp
    clear ha hb
    go_enter Tryz.func12, Tryz.ntmps12
    go_wp2_with fail
    refine (RC _).mono ?_
    rintro e w1 ⟨n, rfl, hn, hb1⟩
    have hn' : Hid (n = cmpI (a : Int) (b : Int)) := by first | exact hn | exact hn.out
    clear hn RC
    go_wp2
    go_ret
    exact ⟨n, rfl, hn'.out.trans f.out.symm, by repeat (first | with_reducible exact Below.refl _ _ | with_reducible refine Below.drew ?_ | with_reducible refine Below.alloc ?_ (by first | omega | (simp <;> omega)) _ | with_reducible refine Below.setCell ?_ (by first | omega | (simp <;> omega)) _ | with_reducible refine Below.trans ?_ (Below.mono hb1 (by first | omega | (simp <;> omega))))⟩
  · cases u
    · obtain rfl : v = true := by simpa using h
      have f : Hid (cmpA true false a b = 1) := rfl
      clear h
      go_enter Tryz.func12, Tryz.ntmps12
      go_wp2
      go_ret
      exact ⟨_, rfl, f.out.symm, by repeat (first | with_reducible exact Below.refl _ _ | with_reducible refine Below.drew ?_ | with_reducible refine Below.alloc ?_ (by first | omega | (simp <;> omega)) _ | with_reducible refine Below.setCell ?_ (by first | omega | (simp <;> omega)) _)⟩
    · obtain rfl : v = false := by simpa using h
      have f : Hid (cmpA false true a b = -1) := rfl
      clear h
      go_enter Tryz.func12, Tryz.ntmps12
      go_wp2
      go_ret
      exact ⟨_, rfl, f.out.symm, by repeat (first | with_reducible exact Below.refl _ _ | with_reducible refine Below.drew ?_ | with_reducible refine Below.alloc ?_ (by first | omega | (simp <;> omega)) _ | with_reducible refine Below.setCell ?_ (by first | omega | (simp <;> omega)) _)⟩
end Go.Proofs.YtdjpigjllienoaaGreatDoor

/-
  What Minus and piece of package addr return, for every address.
-/
import Derived.Test.YtmhnfgfdggjdhaaGreatDoorAddrB
namespace Go.Proofs.YtmhnfgfdggjdhaaGreatDoor
open Go.ChangeShapes Go.WideShapes Go.ChangeAt Go.RowKit
set_option linter.unusedVariables false
set_option linter.unusedSimpArgs false

set_option maxHeartbeats 800000 in
theorem minus_arg {v u : Bool} {ah al bh bl : Int} {a b : Nat} (ha : IsNum ah al a) (hb : IsNum bh bl b) (h1 : ¬ (okA v a = true ∧ okA u b = true ∧ v = u)) (w : World) :
    Calls Tryz.prog 84 #[av v ah al, av u bh bl] w fun e w' => e = .returned (.tuple #[nv 0 0, .int .i64 1]) ∧ Below w.heap.size w w' := by
  have ra := fun w' => aright_c (v := v) ha w'
  have rb := fun w' => aright_c (v := u) hb w'
  clear ha hb
  cases h2 : okA v a
  · rw [h2] at ra
    clear h1 h2 rb
    go_enter Tryz.func84, Tryz.ntmps84
    go_wp2_with fail
    refine (ra _).mono ?_
    rintro e w1 ⟨rfl, hb1⟩
    obtain ⟨hc1, hf1⟩ := bcell hb1
    have hz_w1_0 : w.heap.size < w1.heap.size   := (by have := hb1.size; first | omega | (simp at this; omega))
    have hz_w1_1 : w.heap.size + 1 < w1.heap.size   := (by have := hb1.size; first | omega | (simp at this; omega))
    have hz_w1_2 : w.heap.size + 2 < w1.heap.size   := (by have := hb1.size; first | omega | (simp at this; omega))
    clear ra
    go_wp2
    refine bodyPost_ret (v := .tuple #[nv 0 0, .int .i64 1]) (by simp [results, Tryz.results84, go_sem, *]) rfl ⟨rfl, by repeat (first | with_reducible exact Below.refl _ _ | with_reducible refine Below.drew ?_ | with_reducible refine Below.alloc ?_ (by first | omega | (simp <;> omega)) _ | with_reducible refine Below.setCell ?_ (by first | omega | (simp <;> omega)) _ | with_reducible refine Below.trans ?_ (Below.mono hb1 (by first | omega | (simp <;> omega))))⟩
  · rw [h2] at ra
    cases h3 : okA u b
    · rw [h3] at rb
      clear h1 h2 h3
      go_enter Tryz.func84, Tryz.ntmps84
      go_wp2_with fail
      refine (ra _).mono ?_
      rintro e w1 ⟨rfl, hb1⟩
      obtain ⟨hc1, hf1⟩ := bcell hb1
      have hz_w1_0 : w.heap.size < w1.heap.size   := (by have := hb1.size; first | omega | (simp at this; omega))
      have hz_w1_1 : w.heap.size + 1 < w1.heap.size   := (by have := hb1.size; first | omega | (simp at this; omega))
      have hz_w1_2 : w.heap.size + 2 < w1.heap.size   := (by have := hb1.size; first | omega | (simp at this; omega))
      clear ra
      go_wp2_with fail
      refine (rb _).mono ?_
      rintro e w2 ⟨rfl, hb2⟩
      obtain ⟨hc2, hf2⟩ := bcell hb2
      have hz_w2_0 : w.heap.size < w2.heap.size   := (by have := hb2.size; first | omega | (simp at this; omega))
      have hz_w2_1 : w.heap.size + 1 < w2.heap.size   := (by have := hb2.size; first | omega | (simp at this; omega))
      have hz_w2_2 : w.heap.size + 2 < w2.heap.size   := (by have := hb2.size; first | omega | (simp at this; omega))
      clear rb
      go_wp2
      refine bodyPost_ret (v := .tuple #[nv 0 0, .int .i64 1]) (by simp [results, Tryz.results84, go_sem, *]) rfl ⟨rfl, by repeat (first | with_reducible exact Below.refl _ _ | with_reducible refine Below.drew ?_ | with_reducible refine Below.alloc ?_ (by first | omega | (simp <;> omega)) _ | with_reducible refine Below.setCell ?_ (by first | omega | (simp <;> omega)) _ | with_reducible refine Below.trans ?_ (Below.mono hb2 (by first | omega | (simp <;> omega))) | with_reducible refine Below.trans ?_ (Below.mono hb1 (by first | omega | (simp <;> omega))))⟩
    · rw [h3] at rb
      have h4 : (v == u) = false := by
        rw [beq_eq_false_iff_ne]
        exact fun c => h1 ⟨h2, h3, c⟩
      have h5 : (v != u) = true := by simp [bne, h4]
      clear h1 h2 h3
      go_enter Tryz.func84, Tryz.ntmps84
      go_wp2_with fail
      refine (ra _).mono ?_
      rintro e w1 ⟨rfl, hb1⟩
      obtain ⟨hc1, hf1⟩ := bcell hb1
      have hz_w1_0 : w.heap.size < w1.heap.size   := (by have := hb1.size; first | omega | (simp at this; omega))
      have hz_w1_1 : w.heap.size + 1 < w1.heap.size   := (by have := hb1.size; first | omega | (simp at this; omega))
      have hz_w1_2 : w.heap.size + 2 < w1.heap.size   := (by have := hb1.size; first | omega | (simp at this; omega))
      clear ra
      go_wp2_with fail
      refine (rb _).mono ?_
      rintro e w2 ⟨rfl, hb2⟩
      obtain ⟨hc2, hf2⟩ := bcell hb2
      have hz_w2_0 : w.heap.size < w2.heap.size   := (by have := hb2.size; first | omega | (simp at this; omega))
      have hz_w2_1 : w.heap.size + 1 < w2.heap.size   := (by have := hb2.size; first | omega | (simp at this; omega))
      have hz_w2_2 : w.heap.size + 2 < w2.heap.size   := (by have := hb2.size; first | omega | (simp at this; omega))
      clear rb
      go_wp2
      refine bodyPost_ret (v := .tuple #[nv 0 0, .int .i64 1]) (by simp [results, Tryz.results84, go_sem, *]) rfl ⟨rfl, by repeat (first | with_reducible exact Below.refl _ _ | with_reducible refine Below.drew ?_ | with_reducible refine Below.alloc ?_ (by first | omega | (simp <;> omega)) _ | with_reducible refine Below.setCell ?_ (by first | omega | (simp <;> omega)) _ | with_reducible refine Below.trans ?_ (Below.mono hb2 (by first | omega | (simp <;> omega))) | with_reducible refine Below.trans ?_ (Below.mono hb1 (by first | omega | (simp <;> omega))))⟩

set_option maxHeartbeats 800000 in
theorem minus_sub {v : Bool} {ah al bh bl h l h' l' c : Int} {a b : Nat} (ha : IsNum ah al a) (hb : IsNum bh bl b) (h1 : okA v a = true) (h2 : okA v b = true)
    (hs : IsNum h l ((a + 340282366920938463463374607431768211456 - b) % 340282366920938463463374607431768211456)) (hd : (b ≤ a ∧ h' = h ∧ l' = l ∧ c = 0) ∨ (¬ b ≤ a ∧ h' = 0 ∧ l' = 0 ∧ c = 11)) (w : World) :
    Calls Tryz.prog 84 #[av v ah al, av v bh bl] w fun e w' => e = .returned (.tuple #[nv h' l', .int .i64 c]) ∧ Below w.heap.size w w' := by
  have ra := fun w' => aright_c (v := v) ha w'
  have rb := fun w' => aright_c (v := v) hb w'
  have sb := fun w' => sub_is ha hb hs w'
  rw [h1] at ra
  rw [h2] at rb
  clear ha hb hs h1 h2
  rcases hd with ⟨hd, rfl, rfl, rfl⟩ | ⟨hd, rfl, rfl, rfl⟩
  · rw [decide_eq_true hd] at sb
    clear hd
    go_enter Tryz.func84, Tryz.ntmps84
    go_wp2_with fail
    refine (ra _).mono ?_
    rintro e w1 ⟨rfl, hb1⟩
    obtain ⟨hc1, hf1⟩ := bcell hb1
    have hz_w1_0 : w.heap.size < w1.heap.size   := (by have := hb1.size; first | omega | (simp at this; omega))
    have hz_w1_1 : w.heap.size + 1 < w1.heap.size   := (by have := hb1.size; first | omega | (simp at this; omega))
    have hz_w1_2 : w.heap.size + 2 < w1.heap.size   := (by have := hb1.size; first | omega | (simp at this; omega))
    clear ra
    go_wp2_with fail
    refine (rb _).mono ?_
    rintro e w2 ⟨rfl, hb2⟩
    obtain ⟨hc2, hf2⟩ := bcell hb2
    have hz_w2_0 : w.heap.size < w2.heap.size   := (by have := hb2.size; first | omega | (simp at this; omega))
    have hz_w2_1 : w.heap.size + 1 < w2.heap.size   := (by have := hb2.size; first | omega | (simp at this; omega))
    have hz_w2_2 : w.heap.size + 2 < w2.heap.size   := (by have := hb2.size; first | omega | (simp at this; omega))
    clear rb
    go_wp2_with fail
    refine (sb _).mono ?_
    rintro e w3 ⟨rfl, hb3⟩
    obtain ⟨hc3, hf3⟩ := bcell hb3
    have hz_w3_0 : w.heap.size < w3.heap.size   := (by have := hb3.size; first | omega | (simp at this; omega))
    have hz_w3_1 : w.heap.size + 1 < w3.heap.size   := (by have := hb3.size; first | omega | (simp at this; omega))
    have hz_w3_2 : w.heap.size + 2 < w3.heap.size   := (by have := hb3.size; first | omega | (simp at this; omega))
    clear sb
    go_wp2
    refine bodyPost_ret (v := .tuple #[nv h' l', .int .i64 0]) (by simp [results, Tryz.results84, go_sem, *]) rfl ⟨rfl, by repeat (first | with_reducible exact Below.refl _ _ | with_reducible refine Below.drew ?_ | with_reducible refine Below.alloc ?_ (by first | omega | (simp <;> omega)) _ | with_reducible refine Below.setCell ?_ (by first | omega | (simp <;> omega)) _ | with_reducible refine Below.trans ?_ (Below.mono hb3 (by first | omega | (simp <;> omega))) | with_reducible refine Below.trans ?_ (Below.mono hb2 (by first | omega | (simp <;> omega))) | with_reducible refine Below.trans ?_ (Below.mono hb1 (by first | omega | (simp <;> omega))))⟩
  · rw [decide_eq_false hd] at sb
    clear hd
    go_enter Tryz.func84, Tryz.ntmps84
    go_wp2_with fail
    refine (ra _).mono ?_
    rintro e w1 ⟨rfl, hb1⟩
    obtain ⟨hc1, hf1⟩ := bcell hb1
    have hz_w1_0 : w.heap.size < w1.heap.size   := (by have := hb1.size; first | omega | (simp at this; omega))
    have hz_w1_1 : w.heap.size + 1 < w1.heap.size   := (by have := hb1.size; first | omega | (simp at this; omega))
    have hz_w1_2 : w.heap.size + 2 < w1.heap.size   := (by have := hb1.size; first | omega | (simp at this; omega))
    clear ra
    go_wp2_with fail
    refine (rb _).mono ?_
    rintro e w2 ⟨rfl, hb2⟩
    obtain ⟨hc2, hf2⟩ := bcell hb2
    have hz_w2_0 : w.heap.size < w2.heap.size   := (by have := hb2.size; first | omega | (simp at this; omega))
    have hz_w2_1 : w.heap.size + 1 < w2.heap.size   := (by have := hb2.size; first | omega | (simp at this; omega))
    have hz_w2_2 : w.heap.size + 2 < w2.heap.size   := (by have := hb2.size; first | omega | (simp at this; omega))
    clear rb
    go_wp2_with fail
    refine (sb _).mono ?_
    rintro e w3 ⟨rfl, hb3⟩
    obtain ⟨hc3, hf3⟩ := bcell hb3
    have hz_w3_0 : w.heap.size < w3.heap.size   := (by have := hb3.size; first | omega | (simp at this; omega))
    have hz_w3_1 : w.heap.size + 1 < w3.heap.size   := (by have := hb3.size; first | omega | (simp at this; omega))
    have hz_w3_2 : w.heap.size + 2 < w3.heap.size   := (by have := hb3.size; first | omega | (simp at this; omega))
    clear sb
    go_wp2
    refine bodyPost_ret (v := .tuple #[nv 0 0, .int .i64 11]) (by simp [results, Tryz.results84, go_sem, *]) rfl ⟨rfl, by repeat (first | with_reducible exact Below.refl _ _ | with_reducible refine Below.drew ?_ | with_reducible refine Below.alloc ?_ (by first | omega | (simp <;> omega)) _ | with_reducible refine Below.setCell ?_ (by first | omega | (simp <;> omega)) _ | with_reducible refine Below.trans ?_ (Below.mono hb3 (by first | omega | (simp <;> omega))) | with_reducible refine Below.trans ?_ (Below.mono hb2 (by first | omega | (simp <;> omega))) | with_reducible refine Below.trans ?_ (Below.mono hb1 (by first | omega | (simp <;> omega))))⟩

/-- Minus: how far behind. -/
theorem minus_is {v u : Bool} {ah al bh bl h l c : Int} {a b : Nat} (ha : IsNum ah al a) (hb : IsNum bh bl b) (hp : MinusIs v u a b h l c) (w : World) :
    Calls Tryz.prog 84 #[av v ah al, av u bh bl] w fun e w' => e = .returned (.tuple #[nv h l, .int .i64 c]) ∧ Below w.heap.size w w' := by
  have la := ha.lt
  have lb := hb.lt
  rcases hp with ⟨h1, rfl, rfl, rfl⟩ | ⟨⟨h1, h2, rfl⟩, h3, rfl, rfl, rfl⟩ | ⟨⟨h1, h2, rfl⟩, h3, h4, rfl⟩
  · exact minus_arg ha hb h1 w
  · obtain ⟨sh, sl, hs⟩ := IsNum.ex (n := (a + 340282366920938463463374607431768211456 - b) % 340282366920938463463374607431768211456) (Nat.mod_lt _ (by decide))
    exact minus_sub ha hb h1 h2 hs (Or.inr ⟨by omega, rfl, rfl, rfl⟩) w
  · exact minus_sub ha hb h1 h2 (h4.cast (by omega)) (Or.inl ⟨h3, rfl, rfl, rfl⟩) w

theorem width_lit (v : Bool) (W : Int) (hv : widthA v = W) (h l : Int) (w : World) :
    Calls Tryz.prog 19 #[av v h l] w fun e w' => e = .returned (.int .i64 W) ∧ Below w.heap.size w w' := hv ▸ width_c v h l w

theorem piece_fin {h l k K : Int} {a s S : Nat} (hn : IsNum h l ((a / 2 ^ k.toNat) &&& (2 ^ (min s 128) - 1))) (hk : k = K) (e : s = S) (hs : s ≤ 64) : l = ((a / 2 ^ K.toNat % 2 ^ S : Nat) : Int) := by
  subst hk e
  generalize a / 2 ^ k.toNat = m at *
  rw [Nat.min_eq_left (by omega), Nat.and_two_pow_sub_one_eq_mod] at hn
  have := hn.h0; have := hn.l0; have := hn.l1; have := hn.eq
  have md := Nat.mod_lt m (pow_pos2 s)
  have p : 2 ^ s ≤ 2 ^ 64 := Nat.pow_le_pow_right (by decide) hs
  rw [show (2 : Nat) ^ 64 = 18446744073709551616 by decide] at p
  omega

set_option maxHeartbeats 1600000 in
/-- piece: the bits of the group at that place, in groups of 8 or 16 bits. -/
theorem piece_w {v : Bool} {h l s t : Int} {a : Nat} (ha : IsNum h l a) (hs : s = 8 ∨ s = 16) (t0 : 0 ≤ t) (t1 : s * (t + 1) ≤ widthA v) (w : World) :
    Calls Tryz.prog 129 #[av v h l, .int .i64 s, .int .i64 t] w fun e w' => ∃ r : Int, e = .returned (.int .u64 r) ∧ Hid (r = ((a / 2 ^ (widthA v - s * (t + 1)).toNat % 2 ^ s.toNat : Nat) : Int)) ∧ Below w.heap.size w w' := by
  obtain ⟨W, hW, hW2⟩ : ∃ W, widthA v = W ∧ (W = 32 ∨ W = 128) := ⟨_, rfl, by cases v <;> simp [widthA]⟩
  have wd := fun w' => width_lit v W hW h l w'
  obtain ⟨K, hK⟩ : ∃ K, K = widthA v - s * (t + 1) := ⟨_, rfl⟩
  obtain ⟨S, hS⟩ : ∃ S, S = s.toNat := ⟨_, rfl⟩
  rw [← hK, ← hS]
  rw [hW] at t1 hK
  have hK' : Hid (K = W - s * (t + 1)) := hK
  have hS' : Hid (S = s.toNat) := hS
  clear hW hK hS
  rcases hW2 with rfl | rfl <;> rcases hs with rfl | rfl
  all_goals
    have t2 : t ≤ 15 := by omega
    go_enter Tryz.func129, Tryz.ntmps129
    go_wp2_with fail
    refine (wd _).mono ?_
    rintro e w1 ⟨rfl, hb1⟩
    obtain ⟨hc1, hf1⟩ := bcell hb1
    have hz_w1_0 : w.heap.size < w1.heap.size   := (by have := hb1.size; first | omega | (simp at this; omega))
    clear wd
    go_wp2_with fail
    refine (shr_w ha (by omega) (by omega) _).mono ?_
    rintro e w2 ⟨h2, l2, rfl, hn2, hb2⟩
    obtain ⟨hc2, hf2⟩ := bcell hb2
    have hz_w2_0 : w.heap.size < w2.heap.size   := (by have := hb2.size; first | omega | (simp at this; omega))
    go_wp2_with fail
    refine (ones_c _ _).mono ?_
    rintro e w3 ⟨h3, l3, rfl, hn3, hb3⟩
    obtain ⟨hc3, hf3⟩ := bcell hb3
    have hz_w3_0 : w.heap.size < w3.heap.size   := (by have := hb3.size; first | omega | (simp at this; omega))
    go_wp2_with fail
    refine (and_c hn2 hn3 _).mono ?_
    rintro e w4 ⟨h4, l4, rfl, hn4, hb4⟩
    have hn5 : Hid (l4 = ((a / 2 ^ K.toNat % 2 ^ S : Nat) : Int)) := piece_fin hn4 (by have := hK'.out; omega) (by have := hS'.out; omega) (by have := hS'.out; omega)
    clear hn4 hn2 hn3 ha
    have hfd : ∀ w : World, (Instr.field 24 (nv h4 l4) 1).run Tryz.prog w = .ok (.int .u64 l4) w := fun _ => by kernel_rfl
    go_wp2
    go_ret
    exact ⟨_, rfl, hn5, by repeat (first | with_reducible exact Below.refl _ _ | with_reducible refine Below.drew ?_ | with_reducible refine Below.alloc ?_ (by first | omega | (simp <;> omega)) _ | with_reducible refine Below.setCell ?_ (by first | omega | (simp <;> omega)) _ | with_reducible refine Below.trans ?_ (Below.mono hb4 (by first | omega | (simp <;> omega))) | with_reducible refine Below.trans ?_ (Below.mono hb3 (by first | omega | (simp <;> omega))) | with_reducible refine Below.trans ?_ (Below.mono hb2 (by first | omega | (simp <;> omega))) | with_reducible refine Below.trans ?_ (Below.mono hb1 (by first | omega | (simp <;> omega))))⟩
end Go.Proofs.YtmhnfgfdggjdhaaGreatDoor

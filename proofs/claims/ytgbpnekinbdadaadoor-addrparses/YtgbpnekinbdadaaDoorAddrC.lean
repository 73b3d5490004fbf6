/-
  What Minus and piece of package addr return, for every address.
-/
import Derived.Test.YtgbpnekinbdadaaDoorAddrB
namespace Go.Proofs.YtgbpnekinbdadaaDoor
open Go.ChangeShapes Go.WideShapes Go.ChangeAt Go.RowKit
set_option linter.unusedVariables false
set_option linter.unusedSimpArgs false

theorem width_lit (v : Bool) (W : Int) (hv : widthA v = W) (h l : Int) (w : World) :
    Calls Tryd.prog 37 #[av v h l] w fun e w' => e = .returned (.int .i64 W) ∧ Below w.heap.size w w' := hv ▸ width_c v h l w

theorem piece_fin {h l k K : Int} {a s S : Nat} (hn : IsNum h l ((a / 2 ^ k.toNat) &&& (2 ^ (min s 128) - 1))) (hk : k = K) (e : s = S) (hs : s ≤ 64) : l = ((a / 2 ^ K.toNat % 2 ^ S : Nat) : Int) := by
  subst hk e
  generalize a / 2 ^ k.toNat = m at *
  rw [Nat.min_eq_left (by omega), Nat.and_two_pow_sub_one_eq_mod] at hn
  have := hn.h0; have := hn.l0; have := hn.l1; have := hn.eq
  have md := Nat.mod_lt m (pow_pos2 s)
  have p : 2 ^ s ≤ 2 ^ 64 := Nat.pow_le_pow_right (by decide) hs
  rw [show (2 : Nat) ^ 64 = 18446744073709551616 by decide] at p
  omega

set_option maxHeartbeats 1600000 in
/-- piece: the bits of the group at that place, in groups of 8 or 16 bits. -/
theorem piece_w {v : Bool} {h l s t : Int} {a : Nat} (ha : IsNum h l a) (hs : s = 8 ∨ s = 16) (t0 : 0 ≤ t) (t1 : s * (t + 1) ≤ widthA v) (w : World) :
    Calls Tryd.prog 53 #[av v h l, .int .i64 s, .int .i64 t] w fun e w' => ∃ r : Int, e = .returned (.int .u64 r) ∧ Hid (r = ((a / 2 ^ (widthA v - s * (t + 1)).toNat % 2 ^ s.toNat : Nat) : Int)) ∧ Below w.heap.size w w' := by
  obtain ⟨W, hW, hW2⟩ : ∃ W, widthA v = W ∧ (W = 32 ∨ W = 128) := ⟨_, rfl, by cases v <;> simp [widthA]⟩
  have wd := fun w' => width_lit v W hW h l w'
  obtain ⟨K, hK⟩ : ∃ K, K = widthA v - s * (t + 1) := ⟨_, rfl⟩
  obtain ⟨S, hS⟩ : ∃ S, S = s.toNat := ⟨_, rfl⟩
  rw [← hK, ← hS]
  rw [hW] at t1 hK
  have hK' : Hid (K = W - s * (t + 1)) := hK
  have hS' : Hid (S = s.toNat) := hS
  clear hW hK hS
  rcases hW2 with rfl | rfl <;> rcases hs with rfl | rfl
  all_goals
    have t2 : t ≤ 15 := by omega
    go_enter Tryd.func53, Tryd.ntmps53
    go_wp2_with fail
    refine (wd _).mono ?_
    rintro e w1 ⟨rfl, hb1⟩
    obtain ⟨hc1, hf1⟩ := bcell hb1
    have hz_w1_0 : w.heap.size < w1.heap.size   := (by have := hb1.size; first | omega | (simp at this; omega))
    clear wd
    go_wp2_with fail
    refine (shr_w ha (by omega) (by omega) _).mono ?_
    rintro e w2 ⟨h2, l2, rfl, hn2, hb2⟩
    obtain ⟨hc2, hf2⟩ := bcell hb2
    have hz_w2_0 : w.heap.size < w2.heap.size   := (by have := hb2.size; first | omega | (simp at this; omega))
    go_wp2_with fail
    refine (ones_c _ _).mono ?_
    rintro e w3 ⟨h3, l3, rfl, hn3, hb3⟩
    obtain ⟨hc3, hf3⟩ := bcell hb3
    have hz_w3_0 : w.heap.size < w3.heap.size   := (by have := hb3.size; first | omega | (simp at this; omega))
    go_wp2_with fail
    refine (and_c hn2 hn3 _).mono ?_
    rintro e w4 ⟨h4, l4, rfl, hn4, hb4⟩
    have hn5 : Hid (l4 = ((a / 2 ^ K.toNat % 2 ^ S : Nat) : Int)) := piece_fin hn4 (by have := hK'.out; omega) (by have := hS'.out; omega) (by have := hS'.out; omega)
    clear hn4 hn2 hn3 ha
    have hfd : ∀ w : World, (Instr.field 24 (nv h4 l4) 1).run Tryd.prog w = .ok (.int .u64 l4) w := fun _ => by kernel_rfl
    go_wp2
    go_ret
    exact ⟨_, rfl, hn5, by repeat (first | with_reducible exact Below.refl _ _ | with_reducible refine Below.drew ?_ | with_reducible refine Below.alloc ?_ (by first | omega | (simp <;> omega)) _ | with_reducible refine Below.setCell ?_ (by first | omega | (simp <;> omega)) _ | with_reducible refine Below.trans ?_ (Below.mono hb4 (by first | omega | (simp <;> omega))) | with_reducible refine Below.trans ?_ (Below.mono hb3 (by first | omega | (simp <;> omega))) | with_reducible refine Below.trans ?_ (Below.mono hb2 (by first | omega | (simp <;> omega))) | with_reducible refine Below.trans ?_ (Below.mono hb1 (by first | omega | (simp <;> omega))))⟩
end Go.Proofs.YtgbpnekinbdadaaDoor

/-
  Texts Awake3 of the proof.
-/
import Derived.Test.YtipjmmhlfmahbaaGreatDoorP45
import Derived.Test.YtipjmmhlfmahbaaGreatDoorP36

namespace Go.Proofs.YtipjmmhlfmahbaaGreatDoor
open Go.ChangeShapes Go.WideShapes Go.ChangeAt Go.RowKit
set_option linter.unusedVariables false
set_option linter.unusedSimpArgs false

theorem pparse_ex1 : parsePF [49, 48, 46, 48, 46, 48, 46, 48, 47, 56] = some (false, 167772160, 8) := by decide +kernel

theorem pparse_ex2 : parsePF [49, 48, 46, 48, 46, 48, 46, 49, 47, 56] = none := by decide +kernel

theorem pprint_ex1 : prP false 167772160 9 = ⟨#[49, 48, 46, 48, 46, 48, 46, 48, 47, 57]⟩ := by decide +kernel

theorem pprint_ex2 : prP false 176160768 9 = ⟨#[49, 48, 46, 49, 50, 56, 46, 48, 46, 48, 47, 57]⟩ := by decide +kernel

theorem okP_ex : okP false 167772160 8 = true := by decide +kernel

set_option maxRecDepth 100000 in
set_option maxHeartbeats 1600000 in
theorem awake3_c (w : World) (hL : LW w) : Calls Tryz.prog 4 #[] w fun e w' => e = .returned (.bool true) ∧ Below w.heap.size w w' := by
  have hz := hL.sz
  have Lx : Hid (∀ W, Below w.heap.size w W → LW W) := fun W hb => hL.of hb hz
  have n1 : IsNum 0 167772160 167772160 := ⟨by omega, by omega, by omega, by omega, rfl⟩
  have n2 : IsNum 0 176160768 176160768 := ⟨by omega, by omega, by omega, by omega, rfl⟩
  have P1 : Hid (∀ w', LW w' → Calls Tryz.prog 5 #[.string ⟨#[49, 48, 46, 48, 46, 48, 46, 48, 47, 56]⟩] w' fun e w1 => e = .returned (.tuple #[pv false 0 167772160 8, .int .i64 0]) ∧ Below w'.heap.size w' w1) := fun w' h => pparse_is _ (by decide) (Or.inl ⟨167772160, 8, pparse_ex1, n1, rfl, rfl⟩) w' h
  have P2 : Hid (∀ w', LW w' → Calls Tryz.prog 5 #[.string ⟨#[49, 48, 46, 48, 46, 48, 46, 49, 47, 56]⟩] w' fun e w1 => e = .returned (.tuple #[pv false 0 0 0, .int .i64 4]) ∧ Below w'.heap.size w' w1) := fun w' h => pparse_is _ (by decide) (Or.inr ⟨pparse_ex2, rfl, rfl, rfl, rfl, rfl⟩) w' h
  have HV : Hid (∀ w', Calls Tryz.prog 10 #[pv false 0 167772160 8] w' fun e w1 => e = .returned (.tuple #[pv false 0 167772160 9, pv false 0 176160768 9, .int .i64 0]) ∧ Below w'.heap.size w' w1) := fun w' => half_ok (a := 167772160) n1 okP_ex (by decide) (n2.cast (by decide +kernel)) w'
  have T1 : Hid (∀ w', LW w' → Calls Tryz.prog 7 #[pv false 0 167772160 9] w' fun e w1 => e = .returned (.string ⟨#[49, 48, 46, 48, 46, 48, 46, 48, 47, 57]⟩) ∧ Below w'.heap.size w' w1) := fun w' h => pprint_ex1 ▸ pprint_c n1 w' h
  have T2 : Hid (∀ w', LW w' → Calls Tryz.prog 7 #[pv false 0 176160768 9] w' fun e w1 => e = .returned (.string ⟨#[49, 48, 46, 49, 50, 56, 46, 48, 46, 48, 47, 57]⟩) ∧ Below w'.heap.size w' w1) := fun w' h => pprint_ex2 ▸ pprint_c n2 w' h
  clear n1 n2 hL
  go_enter Tryz.func4, Tryz.ntmps4
  go_wp2_with fail
  refine (P1.out _ (Lx.out _ (by repeat (first | with_reducible exact Below.refl _ _ | with_reducible refine Below.drew ?_ | with_reducible refine Below.alloc ?_ (by first | omega | (simp <;> omega)) _ | with_reducible refine Below.setCell ?_ (by first | omega | (simp <;> omega)) _)))).mono ?_
  rintro e w1 ⟨rfl, hb1⟩
  have B1 : Below w.heap.size w w1 := by repeat (first | with_reducible exact Below.refl _ _ | with_reducible refine Below.drew ?_ | with_reducible refine Below.alloc ?_ (by first | omega | (simp <;> omega)) _ | with_reducible refine Below.setCell ?_ (by first | omega | (simp <;> omega)) _ | with_reducible refine Below.trans ?_ (Below.mono hb1 (by first | omega | (simp <;> omega))))
  have hs1 := B1.size
  clear P1 hb1
  go_wp2_with fail
  refine (HV.out _).mono ?_
  rintro e w2 ⟨rfl, hb2⟩
  have B2 : Below w.heap.size w w2 := by repeat (first | with_reducible exact Below.refl _ _ | with_reducible refine Below.drew ?_ | with_reducible refine Below.alloc ?_ (by first | omega | (simp <;> omega)) _ | with_reducible refine Below.setCell ?_ (by first | omega | (simp <;> omega)) _ | with_reducible refine Below.trans ?_ (Below.mono hb2 (by first | omega | (simp <;> omega))) | with_reducible refine Below.trans ?_ (Below.mono B1 (by first | omega | (simp <;> omega))))
  have hs2 := B2.size
  clear HV hb2 B1
  have L0 : Blk ((w2.alloc (.cells #[.bool false, .int .u64 0, .int .u64 167772160, .int .i64 9] 28)).alloc (.cells #[.bool false, .int .u64 0, .int .u64 176160768, .int .i64 9] 28)) w2.heap.size #[.bool false, .int .u64 0, .int .u64 167772160, .int .i64 9] 28 := (Blk.new _ _ _).alloc _
  have U0 : Blk ((w2.alloc (.cells #[.bool false, .int .u64 0, .int .u64 167772160, .int .i64 9] 28)).alloc (.cells #[.bool false, .int .u64 0, .int .u64 176160768, .int .i64 9] 28)) (w2.heap.size + 1) #[.bool false, .int .u64 0, .int .u64 176160768, .int .i64 9] 28 := by
    simpa using Blk.new (w2.alloc (.cells #[.bool false, .int .u64 0, .int .u64 167772160, .int .i64 9] 28)) #[.bool false, .int .u64 0, .int .u64 176160768, .int .i64 9] 28
  have B2a : Below w.heap.size w ((w2.alloc (.cells #[.bool false, .int .u64 0, .int .u64 167772160, .int .i64 9] 28)).alloc (.cells #[.bool false, .int .u64 0, .int .u64 176160768, .int .i64 9] 28)) := by repeat (first | with_reducible exact Below.refl _ _ | with_reducible refine Below.drew ?_ | with_reducible refine Below.alloc ?_ (by first | omega | (simp <;> omega)) _ | with_reducible refine Below.setCell ?_ (by first | omega | (simp <;> omega)) _ | with_reducible refine Below.trans ?_ (Below.mono B2 (by first | omega | (simp <;> omega))))
  go_wp2_with fail
  refine (P2.out _ (Lx.out _ B2a)).mono ?_
  rintro e w3 ⟨rfl, hb3⟩
  have L3 := (L0.below hb3).alloc (.cells #[.bool false, .int .u64 0, .int .u64 0, .int .i64 0] 28)
  have U3 := (U0.below hb3).alloc (.cells #[.bool false, .int .u64 0, .int .u64 0, .int .i64 0] 28)
  have B3 : Below w.heap.size w (w3.alloc (.cells #[.bool false, .int .u64 0, .int .u64 0, .int .i64 0] 28)) := by
    have h3 := B2a.trans (hb3.mono B2a.size)
    exact h3.alloc h3.size _
  obtain ⟨r0, r1, r2, r3, r4, r5, r6, r7, r8⟩ := (L0.below hb3).four
  clear P2 hb3 L0 U0 B2a B2
  go_wp2_with fail
  refine (T1.out _ (Lx.out _ B3)).mono ?_
  rintro e w4 ⟨rfl, hb4⟩
  have U4 := U3.below hb4
  have B4 := B3.trans (hb4.mono B3.size)
  obtain ⟨q0, q1, q2, q3, q4, q5, q6, q7, q8⟩ := U4.four
  clear T1 hb4 L3 U3 B3 r0 r1 r2 r3 r4 r5 r6 r7 r8
  go_wp2_with fail
  refine (T2.out _ (Lx.out _ B4)).mono ?_
  rintro e w5 ⟨rfl, hb5⟩
  have B5 := B4.trans (hb5.mono B4.size)
  clear T2 hb5
  go_wp2
  go_ret
  exact ⟨by first | rfl | simp, B5⟩
end Go.Proofs.YtipjmmhlfmahbaaGreatDoor

/-
  The reference's Next; Copy of package bitmap.
-/
import Derived.Test.YtkfglbmhpdcfpaaDoorBmR
namespace Go.Proofs.YtkfglbmhpdcfpaaDoor
open Go.ChangeShapes Go.WideShapes Go.ChangeAt Go.RowKit
set_option linter.unusedVariables false
set_option linter.unusedSimpArgs false

theorem nx_some {f : Nat → Bool} {n s q : Nat} {i : Int} (hn : ¬ n = 0) (hs : i.toNat % n = s) (h : nextF f n s = some q) : nxI f n i = (q : Int) ∧ nxO f n i = true := by
  unfold nxI nxO nxP nxB
  rw [if_neg hn, if_neg hn, hs, h]
  exact ⟨rfl, rfl⟩

theorem nx_none {f : Nat → Bool} {n s : Nat} {i : Int} (hn : ¬ n = 0) (hs : i.toNat % n = s) (h : nextF f n s = none) : nxI f n i = 0 ∧ nxO f n i = false := by
  unfold nxI nxO nxP nxB
  rw [if_neg hn, if_neg hn, hs, h]
  exact ⟨rfl, rfl⟩

theorem step_mod {n s j q : Nat} (hn : 0 < n) (hq : q = (s + j) % n) : (q + 1 = n → 0 = (s + (j + 1)) % n) ∧ (¬ q + 1 = n → q + 1 = (s + (j + 1)) % n) := by
  have hl : q < n := by rw [hq]; exact Nat.mod_lt _ hn
  have e : (s + (j + 1)) % n = (q + 1) % n := by rw [hq, ← Nat.add_assoc, Nat.mod_add_mod]
  rw [e]
  refine ⟨fun h => by rw [h, Nat.mod_self], fun h => (Nat.mod_eq_of_lt (by omega)).symm⟩

set_option maxHeartbeats 2000000 in
theorem rnext_ok (a g n : Nat) (f : Nat → Bool) (i : Int) (i0 : -9223372036854775808 ≤ i) (i1 : i ≤ 9223372036854775807) (hn0 : 0 < n) (w : World) (H : RefAt w a g n f) {P : Int} {o : Bool} (hP : nxI f n i = P) (hO : nxO f n i = o) :
    Calls Tryd.prog 21 #[.pointer (some ⟨a, 0, none⟩), .int .i64 i] w fun e w' => e = .returned (.tuple #[.int .i64 P, .bool o]) ∧ w' = w := by
  have hs := H.slice
  have hn := H.small
  obtain ⟨s, es⟩ : ∃ s, i.toNat % n = s := ⟨_, rfl⟩
  have hsl : s < n := by rw [← es]; exact Nat.mod_lt _ hn0
  have hz : ((n : Int) == 0) = false := by simp; omega
  have em : (i < 0 ∧ s = 0) ∨ (0 ≤ i ∧ i % (n : Int) = (s : Int)) := by
    by_cases h : i < 0
    · left
      refine ⟨h, ?_⟩
      rw [← es, show i.toNat = 0 by omega, Nat.zero_mod]
    · right
      refine ⟨by omega, ?_⟩
      rw [← es]
      obtain ⟨m, rfl⟩ := Int.eq_ofNat_of_zero_le (show 0 ≤ i by omega)
      simp
  have FSome : Hid (∀ q, nextF f n s = some q → P = (q : Int) ∧ o = true) := fun q h => by
    have := nx_some (by omega) es h
    exact ⟨hP ▸ this.1, hO ▸ this.2⟩
  have FNone : Hid (nextF f n s = none → P = 0 ∧ o = false) := fun h => by
    have := nx_none (by omega) es h
    exact ⟨hP ▸ this.1, hO ▸ this.2⟩
  have HH := hide H
  clear H hP hO es
  have RD : Hid (∀ j q : Nat, q = (s + j) % n → j < n → (∀ t, t < j → f ((s + t) % n) = true) → f q = false → P = (q : Int) ∧ o = true) := fun j q hq hj hall hf => FSome.out q (nextF_round hsl hj hq hall hf)
  have RF : Hid ((∀ t, t < n → f ((s + t) % n) = true) → P = 0 ∧ o = false) := fun hall => FNone.out (nextF_full hsl hall)
  clear FSome FNone
  rcases em with ⟨hi, rfl⟩ | ⟨hi, em⟩
  all_goals
    try have EM := hide em
    try clear em
    try have m0 : 0 ≤ i % (n : Int) := by omega
    try have m1 : i % (n : Int) < n := by omega
    go_enter Tryd.func21, Tryd.ntmps21
    go_wp2_with fail
  · go_loop [6, 7] (fun t u => ∃ (j q : Nat), j ≤ n ∧ u = .int .i64 j ∧ t = .int .i64 q ∧ q < n ∧ Hid (q = (0 + j) % n) ∧ Hid (∀ t, t < j → f ((0 + t) % n) = true)) (fun _ u => n - (intOf u).toNat)
    case atStart => exact ⟨0, 0, by omega, rfl, by simp, hn0, by show _ = _; simp, fun t ht => by omega⟩
    case round =>
      obtain ⟨j, q, hj, rfl, rfl, hq, eq, hall⟩ := hrel
      by_cases hlt : j < n
      · have hjn : (j : Int) < n := by omega
        have hqn : (q : Int) < n := by omega
        have hg := HH.out.get (i := q) hq
        cases hv : f q
        · rw [hv] at hg
          have R := hide (RD.out j q eq.out hlt hall.out hv)
          clear hv RD RF eq hall
          go_wp2
          go_ret2
          exact ⟨by rw [R.out.1, R.out.2]; rfl, rfl⟩
        · rw [hv] at hg
          have hall2 : Hid (∀ t, t < j + 1 → f ((0 + t) % n) = true) := fun t ht => by
            by_cases e : t = j
            · rw [e, ← eq.out]; exact hv
            · exact hall.out t (by omega)
          have st := hide (step_mod hn0 eq.out)
          clear hv RD RF eq hall
          by_cases hw : q + 1 = n
          · have hw' : ((q : Int) + 1 == (n : Int)) = true := by simp; omega
            have st2 := hide (st.out.1 hw)
            clear hw st
            go_wp2
            go_round
            case rel => exact ⟨j + 1, 0, by omega, by go_num, rfl, hn0, st2, hall2⟩
            case measure => simp [intOf]; omega
          · have hw' : ((q : Int) + 1 == (n : Int)) = false := by simp; omega
            have st2 := hide (st.out.2 hw)
            clear st
            go_wp2
            go_round
            case rel => exact ⟨j + 1, q + 1, by omega, by go_num, by go_num, by omega, st2, hall2⟩
            case measure => simp [intOf]; omega
      · obtain rfl : j = n := by omega
        have R := hide (RF.out hall.out)
        clear RD RF eq hall
        go_wp2
        go_ret2
        exact ⟨by rw [R.out.1, R.out.2]; rfl, rfl⟩
  · go_loop [6, 7] (fun t u => ∃ (j q : Nat), j ≤ n ∧ u = .int .i64 j ∧ t = .int .i64 q ∧ q < n ∧ Hid (q = (s + j) % n) ∧ Hid (∀ t, t < j → f ((s + t) % n) = true)) (fun _ u => n - (intOf u).toNat)
    case atStart => exact ⟨0, s, by omega, rfl, by rw [EM.out], hsl, (Nat.mod_eq_of_lt hsl).symm, fun t ht => by omega⟩
    case round =>
      obtain ⟨j, q, hj, rfl, rfl, hq, eq, hall⟩ := hrel
      by_cases hlt : j < n
      · have hjn : (j : Int) < n := by omega
        have hqn : (q : Int) < n := by omega
        have hg := HH.out.get (i := q) hq
        cases hv : f q
        · rw [hv] at hg
          have R := hide (RD.out j q eq.out hlt hall.out hv)
          clear hv RD RF eq hall
          go_wp2
          go_ret2
          exact ⟨by rw [R.out.1, R.out.2]; rfl, rfl⟩
        · rw [hv] at hg
          have hall2 : Hid (∀ t, t < j + 1 → f ((s + t) % n) = true) := fun t ht => by
            by_cases e : t = j
            · rw [e, ← eq.out]; exact hv
            · exact hall.out t (by omega)
          have st := hide (step_mod hn0 eq.out)
          clear hv RD RF eq hall
          by_cases hw : q + 1 = n
          · have hw' : ((q : Int) + 1 == (n : Int)) = true := by simp; omega
            have st2 := hide (st.out.1 hw)
            clear hw st
            go_wp2
            go_round
            case rel => exact ⟨j + 1, 0, by omega, by go_num, rfl, hn0, st2, hall2⟩
            case measure => simp [intOf]; omega
          · have hw' : ((q : Int) + 1 == (n : Int)) = false := by simp; omega
            have st2 := hide (st.out.2 hw)
            clear st
            go_wp2
            go_round
            case rel => exact ⟨j + 1, q + 1, by omega, by go_num, by go_num, by omega, st2, hall2⟩
            case measure => simp [intOf]; omega
      · obtain rfl : j = n := by omega
        have R := hide (RF.out hall.out)
        clear RD RF eq hall
        go_wp2
        go_ret2
        exact ⟨by rw [R.out.1, R.out.2]; rfl, rfl⟩

end Go.Proofs.YtkfglbmhpdcfpaaDoor

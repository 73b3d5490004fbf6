/-
  What Cmp of package prefix returns; how halves lie.
-/
import Derived.Test.YtmhnfgfdggjdhaaGreatDoorPfx5
import Derived.Test.YtmhnfgfdggjdhaaGreatDoorNests
namespace Go.Proofs.YtmhnfgfdggjdhaaGreatDoor
open Go.ChangeShapes Go.WideShapes Go.ChangeAt Go.RowKit
set_option linter.unusedVariables false
set_option linter.unusedSimpArgs false

theorem compare_i (x y : Int) (w : World) :
    Calls Tryz.prog 56 #[.int .i64 x, .int .i64 y] w fun e w' => e = .returned (.int .i64 (cmpI x y)) ∧ Below w.heap.size w w' := by
  by_cases h : x < y
  · have h2 : ¬ y < x := by omega
    have f : Hid (cmpI x y = -1) := if_pos h
    go_enter Tryz.func56, Tryz.ntmps56
    go_wp2
    go_ret
    exact ⟨by rw [f.out]; rfl, by repeat (first | with_reducible exact Below.refl _ _ | with_reducible refine Below.drew ?_ | with_reducible refine Below.alloc ?_ (by first | omega | (simp <;> omega)) _ | with_reducible refine Below.setCell ?_ (by first | omega | (simp <;> omega)) _)⟩
  · by_cases h2 : y < x
    · have f : Hid (cmpI x y = 1) := cmpI_gt h2
      go_enter Tryz.func56, Tryz.ntmps56
      go_wp2
      go_ret
      exact ⟨by rw [f.out]; rfl, by repeat (first | with_reducible exact Below.refl _ _ | with_reducible refine Below.drew ?_ | with_reducible refine Below.alloc ?_ (by first | omega | (simp <;> omega)) _ | with_reducible refine Below.setCell ?_ (by first | omega | (simp <;> omega)) _)⟩
    · have f : Hid (cmpI x y = 0) := cmpI_eq (by omega)
      go_enter Tryz.func56, Tryz.ntmps56
      go_wp2
      go_ret
      exact ⟨by rw [f.out]; rfl, by repeat (first | with_reducible exact Below.refl _ _ | with_reducible refine Below.drew ?_ | with_reducible refine Below.alloc ?_ (by first | omega | (simp <;> omega)) _ | with_reducible refine Below.setCell ?_ (by first | omega | (simp <;> omega)) _)⟩

set_option maxRecDepth 100000 in
set_option maxHeartbeats 1600000 in
theorem pcmp_less {v u : Bool} {ph pl b qh ql c : Int} {n m : Nat} (hp : IsNum ph pl n) (hq : IsNum qh ql m) (kp : okP v n b = true) (kq : okP u m c = true) (hl : cmpA v u n m = -1 ∨ (cmpA v u n m = 0 ∧ b < c)) (w : World) :
    Calls Tryz.prog 21 #[pv v ph pl b, pv u qh ql c] w fun e w' => e = .returned (.int .i64 (-1)) ∧ Below w.heap.size w w' := by
  have C1 : Hid (∀ w', Calls Tryz.prog 16 #[pv v ph pl b] w' fun e w1 => e = .returned (av v ph pl) ∧ Below w'.heap.size w' w1) := fun w' => first_c hp (Or.inl ⟨kp, rfl, rfl, rfl⟩) w'
  have C2 : Hid (∀ w', Calls Tryz.prog 16 #[pv u qh ql c] w' fun e w1 => e = .returned (av u qh ql) ∧ Below w'.heap.size w' w1) := fun w' => first_c hq (Or.inl ⟨kq, rfl, rfl, rfl⟩) w'
  obtain ⟨k, hk⟩ : ∃ k, k = cmpA v u n m := ⟨_, rfl⟩
  have C3 : Hid (∀ w', Calls Tryz.prog 15 #[av v ph pl, av u qh ql] w' fun e w1 => e = .returned (.int .i64 k) ∧ Below w'.heap.size w' w1) := fun w' => by
    refine (acmp_c hp hq w').mono ?_
    rintro e w1 ⟨k', rfl, hk', hb'⟩
    exact ⟨by rw [hk', hk], hb'⟩
  rw [← hk] at hl
  have S0 : PP w.heap.size (w.heap.size + 1) v ph pl b u qh ql c ((w.alloc (.cells #[.bool v, .int .u64 ph, .int .u64 pl, .int .i64 b] 28)).alloc (.cells #[.bool u, .int .u64 qh, .int .u64 ql, .int .i64 c] 28)) := PP.of ((Blk.new _ _ _).alloc _) (by simpa using Blk.new (w.alloc (.cells #[.bool v, .int .u64 ph, .int .u64 pl, .int .i64 b] 28)) #[.bool u, .int .u64 qh, .int .u64 ql, .int .i64 c] 28)
  have B0 : Below w.heap.size w ((w.alloc (.cells #[.bool v, .int .u64 ph, .int .u64 pl, .int .i64 b] 28)).alloc (.cells #[.bool u, .int .u64 qh, .int .u64 ql, .int .i64 c] 28)) := by repeat (first | with_reducible exact Below.refl _ _ | with_reducible refine Below.drew ?_ | with_reducible refine Below.alloc ?_ (by first | omega | (simp <;> omega)) _ | with_reducible refine Below.setCell ?_ (by first | omega | (simp <;> omega)) _)
  clear hp hq kp kq hk
  go_enter Tryz.func21, Tryz.ntmps21
  go_wp2_with fail
  refine wp_region_held_drew (S := (PP w.heap.size (w.heap.size + 1) v ph pl b u qh ql c)) (by kernel_rfl) ?hS100 (fun hHeld => ?rest100)
  case hS100 => (first | with_reducible exact S0.drew | with_reducible exact hHeld.below hb3 | with_reducible exact hHeld.below hb4 | with_reducible exact hHeld.below hb5)
  refine wpAnyH_take (i := 0) (oi := _) (v := ?v101) (List.getElem?_toArray.trans rfl) (by kernel_rfl) (by kernel_rfl) (by kernel_rfl) (fun _ _ _ h => h) (Or.inl ⟨by rfl, ?hy101⟩) (by assumption) ?rest101
  case hy101 => (intro wq hSw; (try simp only [Two, PP] at hSw); go_simp; try with_reducible rfl)
  try simp only [Act.put, List.setIfInBounds_toArray, List.set_cons_zero, List.set_cons_succ]
  refine wpAnyH_take (i := 2) (oi := _) (v := ?v102) (List.getElem?_toArray.trans rfl) (by kernel_rfl) (by kernel_rfl) (by kernel_rfl) (fun _ _ _ h => h) (Or.inl ⟨by rfl, ?hy102⟩) (by assumption) ?rest102
  case hy102 => (intro wq hSw; (try simp only [Two, PP] at hSw); go_simp; try with_reducible rfl)
  try simp only [Act.put, List.setIfInBounds_toArray, List.set_cons_zero, List.set_cons_succ]
  refine wpAnyH_ready (rs := [1]) (by kernel_rfl) (by simp) ?rdy103
  refine AllReadyH.cons (List.getElem?_toArray.trans rfl) (fun K hK => ?stp103) AllReadyH.nil
  go_simp
  go_wp2_with fail
  (refine (C1.out _).mono ?_; rintro e w3 ⟨rfl, hb3⟩; have B3 : Below w.heap.size w w3 := Below.via hb3 B0 (Nat.le_refl _) rfl rfl rfl rfl)
  go_wp2_with fail
  refine hK.out _ _ ?hSn103 (fun hHeld2 => ?rest103)
  case hSn103 => (first | with_reducible exact S0.drew | with_reducible exact hHeld.below hb3 | with_reducible exact hHeld.below hb4 | with_reducible exact hHeld.below hb5)
  clear hK K hHeld
  have hHeld := hHeld2
  clear hHeld2
  try simp only [Act.put, List.setIfInBounds_toArray, List.set_cons_zero, List.set_cons_succ]
  refine wpAnyH_ready (rs := [3]) (by kernel_rfl) (by simp) ?rdy104
  refine AllReadyH.cons (List.getElem?_toArray.trans rfl) (fun K hK => ?stp104) AllReadyH.nil
  go_simp
  go_wp2_with fail
  (refine (C2.out _).mono ?_; rintro e w4 ⟨rfl, hb4⟩; have B4 : Below w.heap.size w w4 := Below.via hb4 B3 (Nat.le_refl _) rfl rfl rfl rfl)
  go_wp2_with fail
  refine hK.out _ _ ?hSn104 (fun hHeld2 => ?rest104)
  case hSn104 => (first | with_reducible exact S0.drew | with_reducible exact hHeld.below hb3 | with_reducible exact hHeld.below hb4 | with_reducible exact hHeld.below hb5)
  clear hK K hHeld
  have hHeld := hHeld2
  clear hHeld2
  try simp only [Act.put, List.setIfInBounds_toArray, List.set_cons_zero, List.set_cons_succ]
  refine wpAnyH_ready (rs := [4]) (by kernel_rfl) (by simp) ?rdy105
  refine AllReadyH.cons (List.getElem?_toArray.trans rfl) (fun K hK => ?stp105) AllReadyH.nil
  go_simp
  go_wp2_with fail
  (refine (C3.out _).mono ?_; rintro e w5 ⟨rfl, hb5⟩; have B5 : Below w.heap.size w w5 := Below.via hb5 B4 (Nat.le_refl _) rfl rfl rfl rfl)
  go_wp2_with fail
  refine hK.out _ _ ?hSn105 (fun hHeld2 => ?rest105)
  case hSn105 => (first | with_reducible exact S0.drew | with_reducible exact hHeld.below hb3 | with_reducible exact hHeld.below hb4 | with_reducible exact hHeld.below hb5)
  clear hK K hHeld
  have hHeld := hHeld2
  clear hHeld2
  try simp only [Act.put, List.setIfInBounds_toArray, List.set_cons_zero, List.set_cons_succ]
  refine wpAnyH_take (i := 5) (oi := _) (v := ?v106) (List.getElem?_toArray.trans rfl) (by kernel_rfl) (by kernel_rfl) (by kernel_rfl) (fun _ _ _ h => h) (Or.inl ⟨by rfl, ?hy106⟩) (by assumption) ?rest106
  case hy106 => (intro wq hSw; (try simp only [Two, PP] at hSw); go_simp; try with_reducible rfl)
  try simp only [Act.put, List.setIfInBounds_toArray, List.set_cons_zero, List.set_cons_succ]
  refine wpAnyH_done (by kernel_rfl) ?fin100 _
  have F := hHeld.1
  clear S0 hHeld hb3 hb4 hb5 C1 C2 C3 B0 B3 B4
  rcases hl with rfl | ⟨rfl, hbc⟩
  · go_wp2
    go_ret
    exact ⟨rfl, B5⟩
  · have hx : Hid (cmpI b c = -1) := cmpI_lt hbc
    have CI := fun w' => compare_i b c w'
    rw [hx.out] at CI
    clear hbc
    go_wp2_with fail
    refine (CI _).mono ?_
    rintro e w6 ⟨rfl, hb6⟩
    clear CI
    have B6 := B5.trans (hb6.mono B5.size)
    go_wp2
    go_ret
    exact ⟨rfl, B6⟩

theorem cmpI_le {x y : Int} : cmpI x y ≤ 0 ↔ x ≤ y := by
  unfold cmpI
  split
  · constructor <;> omega
  · split <;> constructor <;> omega

/-- What lies between the ends is its own. -/
theorem between_has {v : Bool} {n : Nat} {b : Int} {s : Bool} {a : Nat} (hk : okP v n b = true) : hasB v n b s a = (okA s a && decide (cmpA v s n a ≤ 0) && decide (cmpA s v a (lastN v n b) ≤ 0)) := by
  obtain ⟨hf, hm⟩ := okP_parts hk
  obtain ⟨ho, h0, h1⟩ := fitsB_parts hf
  by_cases e : v = s
  · subst e
    unfold hasB fitsB cmpA
    rw [Bool.eq_iff_iff]
    simp only [Bool.and_eq_true, decide_eq_true_eq, if_true, cmpI_le, and_true]
    unfold ofN lastN
    have p := pow_pos2 (behindP v b)
    generalize 2 ^ behindP v b = d at *
    obtain ⟨q, rfl⟩ := Nat.dvd_of_mod_eq_zero hm
    have md := Nat.div_add_mod a d
    have ml := Nat.mod_lt a p
    constructor
    · rintro ⟨⟨⟨h2, _⟩, _⟩, h5⟩
      have h6 : d * q = d * (a / d) := by rw [h5, Nat.mul_comm]
      exact ⟨⟨h2, Int.ofNat_le.2 (by omega)⟩, Int.ofNat_le.2 (by omega)⟩
    · rintro ⟨⟨h2, h3⟩, h4⟩
      refine ⟨⟨⟨h2, h0⟩, h1⟩, ?_⟩
      have h3' := Int.ofNat_le.1 h3
      have h4' := Int.ofNat_le.1 h4
      have l1 : q ≤ a / d := by rw [Nat.le_div_iff_mul_le p, Nat.mul_comm]; exact h3'
      have l2 : a / d < q + 1 := by
        rw [Nat.div_lt_iff_lt_mul p, Nat.add_mul, Nat.one_mul, Nat.mul_comm]; omega
      rw [show a / d = q by omega, Nat.mul_comm]
  · have hx : hasB v n b s a = false := by
      unfold hasB; rw [decide_eq_false e]; simp
    rw [hx]
    unfold cmpA
    rw [if_neg e, if_neg (Ne.symm e)]
    cases v <;> cases s <;> simp at *

theorem high_ok {v : Bool} {n : Nat} {b : Int} (hk : okP v n b = true) (hb : b < widthA v) (hn : n < 340282366920938463463374607431768211456) :
    okP v n (b + 1) = true ∧ okP v (n + 2 ^ (behindP v b - 1)) (b + 1) = true ∧ lastN v (n + 2 ^ (behindP v b - 1)) (b + 1) = lastN v n b ∧ n + 2 ^ (behindP v b - 1) ≤ lastN v n b := by
  obtain ⟨hf, hm⟩ := okP_parts hk
  obtain ⟨ho, h0, h1⟩ := fitsB_parts hf
  obtain ⟨l1, l2⟩ := lastN_small hk hn
  have low := ofN_low hb hm
  have up := behindP_up hb
  have p := pow_pos2 (behindP v (b + 1))
  have le : n + 2 ^ (behindP v b - 1) ≤ lastN v n b := by
    unfold lastN
    rw [up, Nat.add_sub_cancel, Nat.pow_succ]; omega
  refine ⟨?_, ?_, ?_, le⟩
  · unfold okP; rw [fits_up ho h0 hb, decide_eq_true low]; rfl
  · have m2 : (n + 2 ^ (behindP v b - 1)) % 2 ^ behindP v (b + 1) = 0 := by
      rw [up, Nat.add_sub_cancel, Nat.add_mod_right]; exact low
    unfold okP; rw [fits_up (okA_le l2 le) h0 hb, decide_eq_true m2]; rfl
  · unfold lastN
    rw [up, Nat.add_sub_cancel, Nat.pow_succ]; omega

/-- Just one of the halves has what it has. -/
theorem one_half {v : Bool} {n : Nat} {b : Int} {s : Bool} {a : Nat} (hk : okP v n b = true) (hb : b < widthA v) : (hasB v n (b + 1) s a != hasB v (n + 2 ^ (behindP v b - 1)) (b + 1) s a) = hasB v n b s a := by
  obtain ⟨hf, hm⟩ := okP_parts hk
  obtain ⟨ho, h0, h1⟩ := fitsB_parts hf
  by_cases e : v = s
  · subst e
    by_cases oa : okA v a = true
    · have f1 : fitsB v a (b + 1) = true := fits_up oa h0 hb
      have f2 : fitsB v a b = true := fits_less f1 oa h0 (by omega)
      unfold hasB
      rw [f1, f2]
      simp only [Bool.true_and, decide_true]
      have up := behindP_up hb
      unfold ofN
      rw [up, Nat.add_sub_cancel]
      rw [up] at hm
      rw [Nat.pow_succ] at *
      have p := pow_pos2 (behindP v (b + 1))
      generalize 2 ^ behindP v (b + 1) = d at *
      obtain ⟨j, rfl⟩ := Nat.dvd_of_mod_eq_zero hm
      have e2 : a / (d * 2) = a / d / 2 := (Nat.div_div_eq_div_mul _ _ _).symm
      rw [e2]
      generalize a / d = q
      have x1 : d * 2 * j = q * d ↔ 2 * j = q := by
        rw [Nat.mul_assoc, Nat.mul_comm q d]; exact ⟨fun h => Nat.eq_of_mul_eq_mul_left p h, fun h => by rw [h]⟩
      have x2 : d * 2 * j + d = q * d ↔ 2 * j + 1 = q := by
        rw [Nat.mul_assoc, Nat.mul_comm q d, show d * (2 * j) + d = d * (2 * j + 1) by rw [Nat.mul_add, Nat.mul_one]]; exact ⟨fun h => Nat.eq_of_mul_eq_mul_left p h, fun h => by rw [h]⟩
      have x3 : d * 2 * j = q / 2 * (d * 2) ↔ j = q / 2 := by
        rw [Nat.mul_comm (q / 2)]; exact ⟨fun h => Nat.eq_of_mul_eq_mul_left (by omega) h, fun h => by rw [h]⟩
      simp only [x1, x2, x3]
      by_cases y1 : 2 * j = q
      · have y2 : ¬ 2 * j + 1 = q := by omega
        have y3 : j = q / 2 := by omega
        rw [decide_eq_true y1, decide_eq_false y2, decide_eq_true y3]; rfl
      · by_cases y2 : 2 * j + 1 = q
        · have y3 : j = q / 2 := by omega
          rw [decide_eq_false y1, decide_eq_true y2, decide_eq_true y3]; rfl
        · have y3 : ¬ j = q / 2 := by omega
          rw [decide_eq_false y1, decide_eq_false y2, decide_eq_false y3]; rfl
    · have : okA v a = false := by simpa using oa
      unfold hasB fitsB
      rw [this]; rfl
  · unfold hasB
    rw [decide_eq_false e]
    simp

theorem halves_apart {v : Bool} {n : Nat} {b : Int} (hk : okP v n b = true) (hb : b < widthA v) (hn : n < 340282366920938463463374607431768211456) : overB v n (b + 1) v (n + 2 ^ (behindP v b - 1)) (b + 1) = false := by
  obtain ⟨k1, k2, _, _⟩ := high_ok hk hb hn
  have p := pow_pos2 (behindP v b - 1)
  have e1 := ofN_self (okP_parts k1).2
  have e2 := ofN_self (okP_parts k2).2
  unfold overB withinB hasB
  rw [e1, e2, decide_eq_false (by omega : ¬ n + 2 ^ (behindP v b - 1) = n), decide_eq_false (by omega : ¬ n = n + 2 ^ (behindP v b - 1))]
  simp
end Go.Proofs.YtmhnfgfdggjdhaaGreatDoor
